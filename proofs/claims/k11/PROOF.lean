import PyProof.Rows.All
import Wide.All
import OpenK.AllK
import Wide.FinOn
import HandS.ForMost
import HandS.Exc
import HandS.ExcInit
import HandS.IsInst
import HandS.Defaults
import HandS.Wide
import HandS.Conv
import HandS.Dict
import HandS.DictTup
import HandS.DictComp
import HandS.Flow
import HandS.Style
import HandS.TupSets
import HandS.NoneIn
import HandS.ForExc
import HandS.TryMany
import HandS.ExcField
import HandS.WordsExc
import HandS.HeadHook1
import HandS.HeadHook2
import HandS.ExcOwn
import HandS.Head0
import HandS.Head1
import HandS.Head2
import HandS.HeadEnd
import HandS.HeadHook4
import HandS.Nested
import HandS.Lambda
import KE.KeyNested
import PyProof.DictFindH
import PyProof.DictTable
import HandS.TupLen
import HandS.Walk
import HandS.ListItems
import HandS.Iter
import KE.GoesEnum
import HandS.More
import HandS.Zip
import KE.GoesZip
import KE.GoesMore
import HandS.Deep
import HandS.Codes
import KE.KEqNest
import HandS.OwnEq
import PyProof.P3Eq
import HandS.ExcInitHot
import HandS.RaiseFrom
import HandS.SuiteRaise
import PyProof.InstEq
import HandS.DeepEq
import HandS.HeadWalk
import PySem.Challenge.RW_twoworlds_k11_views
set_option Elab.async false
set_option linter.all false
set_option maxRecDepth 100000
set_option maxHeartbeats 40000000
namespace L2.TB
open PySem PySem.Spec PyProof.Rows
def topS (i : Nat) : Stmt := PySem.Challenge.pw_twoworlds_k11_views.main.body.getD i (.Pass ⟨0, 0, 0, 0⟩)
abbrev sStart : Stmt := topS 39
abbrev sDraw : Stmt := topS 40
abbrev sPick : Stmt := topS 41
abbrev sMixed : Stmt := topS 42
abbrev sNames : Stmt := topS 34
abbrev sRows : Stmt := topS 35
abbrev sSome : Stmt := topS 36
abbrev sKey : Stmt := topS 37
abbrev sTells : Stmt := topS 38
abbrev sSame : Stmt := topS 43
abbrev sFrozen : Stmt := topS 44
abbrev sTried : Stmt := topS 45
abbrev sRefR : Stmt := topS 46
abbrev sFieldR : Stmt := topS 47
abbrev sPairR : Stmt := topS 48
abbrev sLaw : Stmt := topS 49
abbrev sIsInt : Stmt := topS 14
abbrev sIsList : Stmt := topS 15
abbrev sIsPair : Stmt := topS 16
abbrev sIsName : Stmt := topS 17
abbrev sIsOne : Stmt := topS 18
abbrev sHasJust : Stmt := topS 19
abbrev sAlike : Stmt := topS 20
abbrev sIsParted : Stmt := topS 21
abbrev sFirst : Stmt := topS 22
abbrev sCkK : Stmt := topS 23
abbrev sCkA : Stmt := topS 24
abbrev sCkB : Stmt := topS 25
abbrev sCkLack : Stmt := topS 26
abbrev sAreInts : Stmt := topS 31
abbrev sBadRow : Stmt := topS 32
abbrev sTable : Stmt := topS 30
abbrev sView : Stmt := topS 28
abbrev sVInit : Stmt := inClass sView 0
abbrev sVEq : Stmt := inClass sView 1
abbrev sVQs : Stmt := inClass sView 2
abbrev sVHome : Stmt := inClass sView 3
abbrev sVAnswers : Stmt := inClass sView 4
abbrev sVIsTold : Stmt := inClass sView 5
abbrev sVPlan : Stmt := inClass sView 6
abbrev sVIsPlan : Stmt := inClass sView 7
abbrev sVFound : Stmt := inClass sView 8
abbrev sVApart : Stmt := inClass sView 9
abbrev sVAreAp : Stmt := inClass sView 10
abbrev sVNames : Stmt := inClass sView 11
abbrev sVMeant : Stmt := inClass sView 12
abbrev sInit : Stmt := inClass sTable 0
abbrev sEq : Stmt := inClass sTable 2
abbrev sQs : Stmt := inClass sTable 4
abbrev sHome : Stmt := inClass sTable 5
abbrev sAnswers : Stmt := inClass sTable 6
abbrev sIsTold : Stmt := inClass sTable 7
abbrev sPlan : Stmt := inClass sTable 8
abbrev sIsPlan : Stmt := inClass sTable 9
abbrev sFound : Stmt := inClass sTable 10
abbrev sApart : Stmt := inClass sTable 11
abbrev sAreAp : Stmt := inClass sTable 12
abbrev sDictOf : Stmt := inClass sTable 17
abbrev sIsWorld : Stmt := inClass sTable 19
abbrev sPlaces : Stmt := inClass sTable 18
abbrev sParting : Stmt := inClass sTable 21
abbrev sPlanOf : Stmt := inClass sTable 22
abbrev sIBadView : Stmt := inClass (topS 10) 0
abbrev sIBadKnown : Stmt := inClass (topS 4) 0
abbrev sINoQuestion : Stmt := inClass (topS 5) 0
abbrev sIBadWorld : Stmt := inClass (topS 3) 0
abbrev sIBadPlan : Stmt := inClass (topS 6) 0
abbrev sIBadAnswers : Stmt := inClass (topS 7) 0
end L2.TB
/-! several except clauses, each with a name for the exception or without one -/
namespace TA
open PySem PySem.Spec PyProof.Rows L2
abbrev Cl := Value × Option Nat × (Addr → Value → Option Addr → TS)
/-- the ends of a suite whose name goes behind it -/
def goesE (i : Nat) (D : Ends) : Ends := { nx := fun σ H => D.nx (σ.set i none) H, rt := D.rt, bk := fun σ H => D.bk (σ.set i none) H, ct := fun σ H => D.ct (σ.set i none) H }
/-- what a clause does with the exception at a -/
def cl1 (k : Cl) (D : Ends) (a : Addr) (cls : Value) (d : Option Addr) (σ : L2.St) (H : Hp) : Prop := match k.2.1 with
  | none => k.2.2 a cls d D σ H
  | some i => k.2.2 a cls d (goesE i D) (σ.set i (some (.ref a))) H
def wCls (K : PySem.W.Frag) (Wout : WX) (D : Ends) : List Cl → WX
  | [] => Wout
  | k :: r => fun cls d σ H => ∃ b, PySem.W.exmOne K cls k.1 = some b ∧ (b = true → ∀ a, H a = none → cl1 k D a cls d σ H) ∧ (b = false → wCls K Wout D r cls d σ H)
/-- the name of a clause is a slot -/
def NamedAs (X : Cx) : Option Str → Option Nat → Prop
  | none, none => True
  | some n, some i => X.N[i]? = some n ∧ X.env.kindOf n = some .local
  | _, _ => False
inductive Cls (X : Cx) : List ExceptHandler → List Cl → Prop
  | nil : Cls X [] []
  | cons {x : Str} {on : Option Str} {k : Cl} {b₀ : Stmt} {suite : List Stmt} {np q : Pos} {hds : List ExceptHandler} {l : List Cl} (hn : NamedAs X on k.2.1) (hc : Names X x k.1)
      (hsu : ∀ (a : Addr) (oe : Obj) (cls : Value) (d : Option Addr) (pn : List (Addr × Obj)), Zc cls d oe → (∃ vs, oe.data = .fields vs) → PSs (X.suite a ((a, oe) :: pn)) (b₀ :: suite) (k.2.2 a cls d)) (r : Cls X hds l) :
      Cls X (.ExceptHandler (some (.Name x np)) on (b₀ :: suite) q :: hds) (k :: l)
section
variable {X : Cx} {body : List Stmt} {h₀ : ExceptHandler} {hds : List ExceptHandler} {l : List Cl} {pos : Pos} {tb : WX → TS} {Wout : WX}
theorem ps_try_cls (hs : X.stack = X.env :: X.outer) (hf : X.env.frame = some X.env.locals) (hN : X.N.Nodup) (tk : Takes X Wout)
    (hb : ∀ (W : WX) (pn : List (Addr × Obj)) (xe : Value → Shared → Prop), Takes (X.tr pn xe) W → PassesOwn (model X.prog X.w) X.A X.env xe → PSs (X.tr pn xe) body (tb W))
    (hh : Cls X (h₀ :: hds) l) : PS X (.Try body (h₀ :: hds) [] [] pos) (fun D σ H => tb (wCls X.K Wout D l) D σ H) := by
  refine ⟨fun pins s σ H D I reading => ?_⟩
  have okX := I.ok
  have frA : X.A.frames = some (X.env :: X.outer) := by rw [okX.frames, hs]
  refine wpAny_Try_except (wpAny_mono ((hb (wCls X.K Wout D l) (X.pn ++ pins) (fun e s1 => wpAny (model X.prog X.w) X.A (noteFrame e X.env)
    (fun _ s2 => wpAny (model X.prog X.w) X.A (setFlight e none) (fun _ s3 => wpAny (model X.prog X.w) X.A (handleBy e X.env (h₀ :: hds)) (SP X pins D) X.xe s3) X.xe s2) X.xe s1)
    (fun ev s1 caught => ?_) PassesOwn.looking).run [] s σ H D (I.toTry _) reading) (fun fl s1 done => ?_) (fun _ _ z => z))
  · obtain ⟨a, B, sI, pinsT, σ1, H1, cls, d, rfl, JT, nb, up1, sky, fresh, osE, bare, wish⟩ := caught
    have J : Inv X pins σ1 H1 sI := JT.ofTry okX
    show wpAny (model X.prog X.w) X.A (noteFrame (.ref a) X.env) _ _ _
    refine Sky.land Zc.steady frA hf (by rw [← hs]; exact sky) fun hL landed upL => ?_
    have JL : Inv X pins σ1 H1 { s1 with heap := hL } := J.landed nb landed.1 (up1.trans upL) osE bare
    obtain ⟨oL, vL, eL, zL, dL⟩ := landed.there
    have offFrames : a ∉ frs (X.env :: X.outer) := fun hm => by
      obtain ⟨_, o2, e2, no⟩ := landed.2.2.1.mem hm
      rw [eL] at e2
      cases e2
      exact no _ dL
    have offLocals : a ≠ X.env.locals := fun z => offFrames (List.mem_filterMap.mpr ⟨X.env, List.mem_cons_self, by rw [hf, z]⟩)
    have offFs : a ∉ X.fs := fun hm => by
      obtain ⟨e, he, q⟩ := List.mem_filterMap.mp hm
      exact offFrames (List.mem_filterMap.mpr ⟨e, List.mem_cons_of_mem _ he, q⟩)
    have SL := JL.suite eL dL fresh offLocals offFs
    have along : ∀ {hd2 : List ExceptHandler} {l2 : List Cl}, Cls X hd2 l2 → wCls X.K Wout D l2 cls d σ1 H1 → wpAny (model X.prog X.w) X.A (handleBy (.ref a) X.env hd2) (SP X pins D) X.xe { s1 with heap := hL } := by
      intro hd2 l2 hk
      induction hk with
      | nil =>
        intro w
        refine wpAny_handleBy_nil ?_
        obtain ⟨_, _, _, oe, vs, T, oT, _, he, _, hd, h1, _⟩ := id landed
        unfold PySem.passOn
        refine wpAny_bind (wpAny_field he hd h1 ?_)
        rw [if_neg (by simp)]
        have out : wpAny (model X.prog X.w) X.A (setFlight (.ref a) X.env.frame) (fun _ s4 => wpAny (model X.prog X.w) X.A (throw (.ref a) : Sem Flow) (SP X pins D) X.xe s4) X.xe { s1 with heap := hL } := by
          rw [hf]
          exact HandSPX.setFlight_upZ landed fun h4 up4 more => wpAny_throw (tk _ _ ⟨a, B, sI, pins, σ1, H1, cls, d, rfl, J, nb, (up1.trans upL).trans more, .inr (.inr (by rw [hs]; exact up4)), fresh, osE, bare, w⟩)
        first
          | exact wpAny_bind (wpAny_pure (wpAny_bind out))
          | exact wpAny_bind out
      | @cons x on k b₀ suite np q hds3 l3 hn hc hsu r ih =>
        intro w
        obtain ⟨b, isIt, yes, no⟩ := w
        refine wpAny_handleBy_cons (codeAny_handlers_test ?_) (fun z => by cases z)
        have seesClass : PySem.W.Looks (model X.prog X.w) hL (typeOf (.ref a)) cls := fun A Q E s2 kk go => wpAny_typeOf_ref (kk _ _ eL) (by rw [zL.1]; exact go)
        have matched := PySem.W.exm_one (M := model X.prog X.w) JL.kIn seesClass isIt
        have named : ∀ {Q E : Value → Shared → Prop}, Q k.1 { s1 with heap := hL } → wpAny (model X.prog X.w) (X.A.mark (some (.ref a))) (eval (.Name x np) X.env) Q E { s1 with heap := hL } := fun {Q E} go => by
          rcases hc with ⟨g1, g2, g3 | ⟨g3, g4, g5⟩⟩
          · exact ld_glob (X := X.suite a ((a, oL) :: (X.pn ++ pins))) SL g1 g3 go g2
          · exact ld_blt (X := X.suite a ((a, oL) :: (X.pn ++ pins))) SL g1 g3 g4 go g5 g2
        refine named (matched.here ?_)
        cases b with
        | false => exact ih (no rfl)
        | true =>
          obtain ⟨kc, oi, kt⟩ := k
          match on, oi, hn with
          | none, none, _ =>
            refine codeAny_handlers_suite (HandSPX.lands_againZ landed fun h4 l4 up4 => ?_)
            have J4 : Inv X pins σ1 H1 { s1 with heap := h4 } := J.landed nb l4.1 ((up1.trans upL).trans up4) osE bare
            obtain ⟨o4, v4, e4, z4, d4⟩ := l4.there
            have S4 := J4.suite e4 d4 fresh offLocals offFs
            refine wpAny_mono ((hsu a o4 cls d (X.pn ++ pins) z4 ⟨_, d4⟩).run [] _ σ1 H1 D S4 (yes rfl a fresh)) (fun f2 s6 hsp => ?_) (fun _ _ z => False.elim z)
            cases f2 with
            | ret u =>
              obtain ⟨v6, σ6, H6, S6, r6, q6⟩ := hsp
              exact ⟨v6, σ6, H6, S6.unsuite okX, r6, q6⟩
            | next => exact hsp.imp fun σ6 z => z.imp fun H6 z => ⟨z.1.unsuite okX, z.2⟩
            | brk => exact hsp.imp fun σ6 z => z.imp fun H6 z => ⟨z.1.unsuite okX, z.2⟩
            | cont => exact hsp.imp fun σ6 z => z.imp fun H6 z => ⟨z.1.unsuite okX, z.2⟩
          | some n, some i, hn =>
            refine codeAny_handlers_suite_as (HandSPX.lands_againZ landed fun h4 l4 up4 => ?_)
            have J4 : Inv X pins σ1 H1 { s1 with heap := h4 } := J.landed nb l4.1 ((up1.trans upL).trans up4) osE bare
            obtain ⟨o4, v4, e4, z4, d4⟩ := l4.there
            have S4 := J4.suite e4 d4 fresh offLocals offFs
            refine store_ok (X := X.suite a ((a, o4) :: (X.pn ++ pins))) (v := .ref a) S4 hN hn.1 (.inl hn.2) rfl (fun s5 S5 => ?_) (.inr hn.2)
            refine wpAny_mono ((hsu a o4 cls d (X.pn ++ pins) z4 ⟨_, d4⟩).run [] s5 _ H1 _ S5 (yes rfl a fresh)) (fun f2 s6 hsp => ?_) (fun _ _ z => False.elim z)
            have gone : ∀ {σ6 : L2.St} {H6 : Hp} {Q : Shared → Prop}, Inv (X.suite a ((a, o4) :: (X.pn ++ pins))) [] σ6 H6 s6 → (∀ s7, Inv X pins (σ6.set i none) H6 s7 → Q s7) →
                wpAny (model X.prog X.w) X.A (do bindName X.env n .none; unbindBehindTheSuite X.env n q) (fun _ s7 => Q s7) X.xe s6 := fun S6 go => gone_ok (S6.unsuite okX) hN hn.1 hn.2 go
            cases f2 with
            | ret u =>
              obtain ⟨v6, σ6, H6, S6, r6, q6⟩ := hsp
              exact gone S6 fun _ J7 => ⟨v6, _, H6, J7, r6, q6⟩
            | next => obtain ⟨σ6, H6, S6, q6⟩ := hsp; exact gone S6 fun _ J7 => ⟨_, H6, J7, q6⟩
            | brk => obtain ⟨σ6, H6, S6, q6⟩ := hsp; exact gone S6 fun _ J7 => ⟨_, H6, J7, q6⟩
            | cont => obtain ⟨σ6, H6, S6, q6⟩ := hsp; exact gone S6 fun _ J7 => ⟨_, H6, J7, q6⟩
    exact along hh wish
  · cases fl with
    | ret u =>
      obtain ⟨v, σ1, H1, J1, r, q⟩ := done
      exact ⟨v, σ1, H1, J1.ofTry okX, r, q⟩
    | next =>
      obtain ⟨σ1, H1, J1, q⟩ := done
      exact wpAny_execs_nil ⟨σ1, H1, J1.ofTry okX, q⟩
    | brk => exact done.imp fun σ1 z => z.imp fun H1 z => ⟨z.1.ofTry okX, z.2⟩
    | cont => exact done.imp fun σ1 z => z.imp fun H1 z => ⟨z.1.ofTry okX, z.2⟩
end
end TA
/-! classes of errors with an `__init__` of one parameter: what the top's end must say, how such an error is raised -/
namespace L2.TB
open PySem PySem.Spec PyProof.Rows
/-- the class at C: an error over ValueError whose own bases are classes -/
def ownB (K : PySem.W.Frag) (C : Addr) : Bool := match K.lookup C with
  | some ⟨.type "type", _, .cls cd, sl⟩ => (match cd.mro, sl.toList with
    | .ref C' :: bm, [_, _, _, _, some (.builtin n), _] => C' == C && (n == "ValueError.__new__" && (!cd.hasDel && (cd.hasDict && PySem.HandSPX.refsVE bm)))
    | _, _ => false)
  | _ => false
theorem ownB_ok {K : PySem.W.Frag} {C : Addr} (h : ownB K C = true) :
    ∃ nm q N bs bm sn sub ab col dd k0 k1 k2 k3 k5, K.lookup C = some (excClassObj nm q C N bs bm true sn sub ab col dd k0 k1 k2 k3 k5 "ValueError.__new__") ∧ PySem.HandSPX.refsVE bm = true := by
  unfold ownB at h
  split at h
  · rename_i dd cd sl lk
    split at h
    · rename_i C' bm k0 k1 k2 k3 n k5 em es
      simp only [Bool.and_eq_true, beq_iff_eq, Bool.not_eq_true'] at h
      obtain ⟨rfl, rfl, hd, hh, hr⟩ := h
      obtain ⟨nm, bs, mro, ns, qn, hdc, sn, sub, ab, col, del⟩ := cd
      dsimp only at em hd hh
      subst em hd hh
      have e : sl = #[k0, k1, k2, k3, some (.builtin "ValueError.__new__"), k5] := by
        obtain ⟨l⟩ := sl
        simp only at es
        rw [es]
      subst e
      exact ⟨nm, qn, ns, bs, bm, sn, sub, ab, col, dd, k0, k1, k2, k3, k5, lk, hr⟩
    · cases h
  · cases h
def errB (K : PySem.W.Frag) (x f : Str) : Bool := ownB K (He.ga K x) &&
  (He.eqO (PySem.W.findIn K (.ref (He.ga K x)) "__setattr__") (some (some (.builtin "object.__setattr__"))) &&
  (decide (PySem.W.subIn K (.ref (He.ga K x)) (.type "BaseException") = some true) && (decide (PySem.W.typeIn K (.ref (He.ga K x)) = some (.type "type")) && (PySem.W.keepIn K (.ref (He.ga K x)) &&
  (He.eqO (PySem.W.findIn K (.ref (He.ga K x)) f) (some none) && (He.eqO (PySem.W.findIn K (.ref (He.ga K x)) "__init__") (some (some (.ref (He.ma K (He.ga K x) "__init__")))) &&
  (decide (PySem.W.typeIn K (.ref (He.ma K (He.ga K x) "__init__")) = some (.type "function")) && xfB K (He.ga K x))))))))
/-- a class of errors at C, its `__init__` at fI, its one field fld -/
structure ErrC (K : PySem.W.Frag) (C fI : Addr) (fld : Str) : Prop where
  o : OexC K C
  no : PySem.W.findIn K (.ref C) fld = some none
  ini : PySem.W.findIn K (.ref C) "__init__" = some (some (.ref fI))
  fn : PySem.W.typeIn K (.ref fI) = some (.type "function")
  xf : XfC K C
theorem errB_ok {K : PySem.W.Frag} {x f : Str} (h : errB K x f = true) : ErrC K (He.ga K x) (He.ma K (He.ga K x) "__init__") f := by
  obtain ⟨h1, h⟩ := He.ba h
  obtain ⟨h2, h⟩ := He.ba h
  obtain ⟨h3, h⟩ := He.ba h
  obtain ⟨h4, h⟩ := He.ba h
  obtain ⟨h5, h⟩ := He.ba h
  obtain ⟨h6, h⟩ := He.ba h
  obtain ⟨h7, h⟩ := He.ba h
  obtain ⟨h8, h9⟩ := He.ba h
  exact ⟨⟨ownB_ok h1, He.eqO_ok h2, of_decide_eq_true h3, of_decide_eq_true h4, h5⟩, He.eqO_ok h6, He.eqO_ok h7, of_decide_eq_true h8, xfB_ok h9⟩
/-- self.fld = it -/
def spErr (K : PySem.W.Frag) (fld : Str) : Sp := fun vs H Q _ => ∃ (a C : Addr) (v : V), vs = [.ref a, v] ∧ OexC K C ∧ PySem.W.findIn K (.ref C) fld = some none ∧ H a = some (exo a C none) ∧
  ∀ dx, H dx = none → dx ≠ a → Q .non (upd (upd H dx (exd dx [(fld, v)])) a (exo a C (some dx)))
section
variable {P : Program} {w : World} {K : PySem.W.Frag} {mg : Str → Option Value} {base : Heap} {f : Addr} {fd : FuncData}
theorem ok_errInit {q y fld : Str} {st : Stmt} {p0 p1 p2 p3 : Pos} (F : Fun K "__init__" q st f fd) (S : FnScope ["self", y] ["self", y] (defScope st)) (hb : defBody st = [.Assign [.Attribute (.Name "self" p0) fld p1] (.Name y p2) p3])
    (hv0 : Vis (defScope st) "self") (hv1 : Vis (defScope st) y) (hdy : (y == ("__debug__" : Str)) = false) (hcy : (y == ("__classdict__" : Str)) = false) : FnOk P w K mg base CX0 1 f fd ["self", y] (spErr K fld) := by
  refine F.ok S (fun vs H Q E h => by obtain ⟨a, C, v, e, _⟩ := h; rw [e]; rfl) fun cdv A outer s H vs Q E hr hsp => ?_
  obtain ⟨a, C, v, rfl, T, no, ha, hq⟩ := hsp
  rw [hb]
  refine ⟨_, pss_one (ps_ost (pe_var (i := 0) rfl hv0 (by decide) (by decide)) (pe_var (i := 1) rfl hv1 hdy hcy) rfl), ?_⟩
  exact ⟨_, rfl, _, rfl, a, C, rfl, T, no, .inl ⟨ha, hq⟩⟩
end
/-- x(e), to be raised -/
theorem pmk_err {X : Cx} {x fld : Str} {C fI : Addr} {fd : FuncData} {y : Str} {e : Expr} {te : TE} {p pos : Pos} (E : ErrC X.K C fI fld) (F : FnOk X.prog X.w X.K X.mg X.base CX0 1 fI fd ["self", y] (spErr X.K fld)) (hb : Binds X.K fd ["self", y] [])
    (hr : Room 2 X.A) (hg : Gl X x) (hm : X.mg x = some (.ref C)) (he : PE X e te) (hdb : (x == ("__debug__" : Str)) = false := by decide) (hs : starEach [e] X.env = (false, eval e X.env) :: starEach [] X.env := by rfl) :
    PMk X (.Call (.Name x p) [e] [] pos) (tMkO C (spErr X.K fld) [] (tCons te tNil)) := pmk_oex (x := x) (es := []) (ta := tCons te tNil) (ds := []) (dvs := []) E.o E.ini E.fn F hr hb .nil pass0 hg hm (pa_cons he pa_nil (hs := hs)) hdb hs rfl
/-- what must hold where x(v) flies: d is its dict -/
theorem mk_rs {K : PySem.W.Frag} {fld : Str} {C fI : Addr} {v : V} {H1 : Hp} {Q : XK} (E : ErrC K C fI fld) (h : ∀ d, H1 d = none → Q (.ref C) (some d) (upd H1 d (.xd [(fld, v)]))) :
    [v].length ≤ 1000 ∧ ∀ a, H1 a = none → spErr K fld (.ref a :: ([v] ++ [])) (upd H1 a (exo a C none))
      (fun v H2 => v = .non ∧ ∃ (d : Addr) (fs : List (Str × V)), H2 a = some (exo a C (some d)) ∧ H2 d = some (exd d fs) ∧ H1 d = none ∧ Q (.ref C) (some d) (upd (del H2 a) d (.xd fs))) (fun _ _ _ => False) := by
  refine ⟨by show 1 ≤ 1000; omega, fun a ha => ⟨a, C, v, rfl, E.o, E.no, upd_same, fun dx hdx ne => ⟨rfl, dx, _, upd_same, by rw [upd_ne ne, upd_same], ?_, ?_⟩⟩⟩
  · rw [upd_ne ne] at hdx; exact hdx
  · have n1 : H1 dx = none := by rw [upd_ne ne] at hdx; exact hdx
    have e : upd (del (upd (upd (upd H1 a (exo a C none)) dx (exd dx [(fld, v)])) a (exo a C (some dx))) a) dx (.xd [(fld, v)]) = upd H1 dx (.xd [(fld, v)]) := by
      funext b
      by_cases h1 : b = dx
      · subst h1; rw [upd_same, upd_same]
      · rw [upd_ne h1, upd_ne h1]
        by_cases h2 : b = a
        · subst h2; rw [del_same, ha]
        · rw [del_ne h2, upd_ne h2, upd_ne h1, upd_ne h2]
    rw [e]
    exact h dx n1
/-- an error of the class at C flies from here, v in its field -/
def Flies (C : Addr) (fld : Str) (v : V) (H : Hp) (E : XK) : Prop := ∀ d H', Same H H' → H d = none → H' d = some (.xd [(fld, v)]) → E (.ref C) (some d) H'
theorem Flies.same {C : Addr} {fld : Str} {v : V} {H H' : Hp} {E : XK} (h : Flies C fld v H E) (s : Same H H') : Flies C fld v H' E := fun d H2 s2 n e => h d H2 (s.trans s2) (by
  cases q : H d with
  | none => rfl
  | some o => rw [s _ _ q] at n; cases n) e
theorem Flies.mk {K : PySem.W.Frag} {fld : Str} {C fI : Addr} {v : V} {H1 : Hp} {Q : XK} (E : ErrC K C fI fld) (h : Flies C fld v H1 Q) :
    [v].length ≤ 1000 ∧ ∀ a, H1 a = none → spErr K fld (.ref a :: ([v] ++ [])) (upd H1 a (exo a C none))
      (fun v H2 => v = .non ∧ ∃ (d : Addr) (fs : List (Str × V)), H2 a = some (exo a C (some d)) ∧ H2 d = some (exd d fs) ∧ H1 d = none ∧ Q (.ref C) (some d) (upd (del H2 a) d (.xd fs))) (fun _ _ _ => False) :=
  mk_rs E fun d n => h d _ (fun b o e => by rw [upd_ne (ne_of_none e n)]; exact e) n upd_same
end L2.TB
/-! a class of errors without an `__init__` -/
namespace L2.TB
open PySem PySem.Spec PyProof.Rows
def bareB (K : PySem.W.Frag) (C : Addr) : Bool := PySem.W.excIn K C PySem.HandSPX.veTail "ValueError.__new__" && (PySem.W.keepIn K (.ref C) && (decide (PySem.W.subIn K (.ref C) (.type "BaseException") = some true) && decide (PySem.W.typeIn K (.ref C) = some (.type "type"))))
structure BareC (K : PySem.W.Frag) (C : Addr) : Prop where
  o : PySem.W.excIn K C PySem.HandSPX.veTail "ValueError.__new__" = true
  k : PySem.W.keepIn K (.ref C) = true
  s : PySem.W.subIn K (.ref C) (.type "BaseException") = some true
  t : PySem.W.typeIn K (.ref C) = some (.type "type")
theorem bareB_ok {K : PySem.W.Frag} {C : Addr} (h : bareB K C = true) : BareC K C := by
  obtain ⟨h1, h⟩ := He.ba h
  obtain ⟨h2, h⟩ := He.ba h
  obtain ⟨h3, h4⟩ := He.ba h
  exact ⟨h1, h2, of_decide_eq_true h3, of_decide_eq_true h4⟩
/-- x(), to be raised -/
theorem pmk_bare {X : Cx} {x : Str} {C : Addr} {p pos : Pos} (E : BareC X.K C) (hg : Gl X x) (hm : X.mg x = some (.ref C)) (hdb : (x == ("__debug__" : Str)) = false := by decide) : PMk X (.Call (.Name x p) [] [] pos) (fun _ H Q => Q (.ref C) none H) := by
  intro pins s σ H Q I h
  refine wpAny_Call_Name_kw (ld_glob I hg hm ?_ hdb)
  refine PySem.W.callWith_K0 I.kIn E.k ?_
  show wpAny _ _ (call (.ref C) []) _ _ _
  obtain ⟨bm, N, nm, qn, bs, hdct, sn, sub, ab, col, dd, k0, k1, k2, k3, k5, mN, hC, hN, hni, T⟩ := exc_obj I.kIn E.o
  refine wpAny_call_exc_subT PySem.F.excBase_ValueError T hC hN hni (fun h' e hm => ?_) (Nat.zero_le _)
  exact mk_of I hm (raises_own E.s E.t) h (I.hok.gone hm.new)
end L2.TB
namespace L2.TB
open PySem PySem.Spec PyProof.Rows
/-! ### what the top leaves, by addresses -/
def asK : List Nat := ([3, 6, 4, 21, 31, 51, 70, 89, 108, 127, 146, 158, 177, 186, 193, 200, 205, 212, 217, 222, 227, 234, 241, 248, 255, 260, 355, 506, 515, 520, 525, 530, 537, 542, 549, 556, 563, 570, 575, 580] : List Nat) ++
  ([585, 592, 597, 602, 609, 614, 20, 30, 50, 69, 88, 107, 126, 145, 157, 176, 185, 192, 199, 204, 211, 216, 221, 226, 233, 240, 247, 254, 259, 354, 505, 514, 519, 524, 529, 536, 541, 548, 555, 562] : List Nat) ++
  ([569, 574, 579, 584, 591, 596, 601, 608, 613, 15, 16, 17, 18, 19, 29, 32, 48, 49, 67, 68, 86, 87, 105, 106, 124, 125, 143, 144, 156, 174, 175, 180, 181, 182, 183, 184, 187, 188, 189, 190] : List Nat) ++
  ([191, 194, 195, 196, 197, 198, 201, 202, 203, 206, 207, 208, 209, 210, 213, 214, 215, 218, 219, 220, 223, 224, 225, 228, 229, 230, 231, 232, 235, 236, 237, 238, 239, 242, 243, 244, 245, 246, 249, 250] : List Nat) ++
  ([251, 252, 253, 256, 257, 258, 272, 279, 286, 293, 298, 305, 312, 319, 326, 333, 340, 345, 352, 353, 356, 357, 371, 378, 385, 392, 399, 406, 411, 418, 425, 430, 435, 442, 449, 454, 459, 466, 473, 478] : List Nat) ++
  ([483, 488, 493, 498, 503, 504, 507, 508, 511, 512, 513, 516, 517, 518, 521, 522, 523, 526, 527, 528, 531, 532, 533, 534, 535, 538, 539, 540, 543, 544, 545, 546, 547, 550, 551, 552, 553, 554, 557, 558] : List Nat) ++
  ([559, 560, 561, 564, 565, 566, 567, 568, 571, 572, 573, 576, 577, 578, 581, 582, 583, 586, 587, 588, 589, 590, 593, 594, 595, 598, 599, 600, 603, 604, 605, 606, 607, 610, 611, 612, 47, 66, 85, 104] : List Nat) ++
  ([123, 142, 173, 271, 278, 285, 292, 297, 304, 311, 318, 325, 332, 339, 344, 351, 370, 377, 384, 391, 398, 405, 410, 417, 424, 429, 434, 441, 448, 453, 458, 465, 472, 477, 482, 487, 492, 497, 502, 42] : List Nat) ++
  ([43, 44, 45, 46, 61, 62, 63, 64, 65, 80, 81, 82, 83, 84, 99, 100, 101, 102, 103, 118, 119, 120, 121, 122, 137, 138, 139, 140, 141, 168, 169, 170, 171, 172, 268, 269, 270, 273, 274, 275] : List Nat) ++
  ([276, 277, 280, 281, 282, 283, 284, 287, 288, 289, 290, 291, 294, 295, 296, 299, 300, 301, 302, 303, 306, 307, 308, 309, 310, 313, 314, 315, 316, 317, 320, 321, 322, 323, 324, 327, 328, 329, 330, 331] : List Nat) ++
  ([334, 335, 336, 337, 338, 341, 342, 343, 346, 347, 348, 349, 350, 367, 368, 369, 372, 373, 374, 375, 376, 379, 380, 381, 382, 383, 386, 387, 388, 389, 390, 393, 394, 395, 396, 397, 400, 401, 402, 403] : List Nat) ++
  ([404, 407, 408, 409, 412, 413, 414, 415, 416, 419, 420, 421, 422, 423, 426, 427, 428, 431, 432, 433, 436, 437, 438, 439, 440, 443, 444, 445, 446, 447, 450, 451, 452, 455, 456, 457, 460, 461, 462, 463] : List Nat) ++
  ([464, 467, 468, 469, 470, 471, 474, 475, 476, 479, 480, 481, 484, 485, 486, 489, 490, 491, 494, 495, 496, 499, 500, 501] : List Nat)
def dfd (p : Str × Option Str) (x q : Str) (st : Stmt) (dv : List He.Dv) : He.DefD := { at_ := p, name := x, qual := q, params := defArgs st, body := defBody st, scope := defScope st, dfl := dv }
def fnT : List He.DefD := ([dfd ("_law_start", none) "_law_start" "_law_start" sStart [], dfd ("_law_draw", none) "_law_draw" "_law_draw" sDraw [], dfd ("_law_pick", none) "_law_pick" "_law_pick" sPick [], dfd ("_law_mixed", none) "_law_mixed" "_law_mixed" sMixed [], dfd ("_law_t_names", none) "_law_t_names" "_law_t_names" sNames [], dfd ("_law_t_rows", none) "_law_t_rows" "_law_t_rows" sRows [], dfd ("_law_t_some", none) "_law_t_some" "_law_t_some" sSome [], dfd ("_law_t_key", none) "_law_t_key" "_law_t_key" sKey []] : List He.DefD) ++
  ([dfd ("_law_t_tells", none) "_law_t_tells" "_law_t_tells" sTells [], dfd ("_law_same", none) "_law_same" "_law_same" sSame [], dfd ("_law_frozen", none) "_law_frozen" "_law_frozen" sFrozen [], dfd ("_law_tried", none) "_law_tried" "_law_tried" sTried [], dfd ("_law_refused_right", none) "_law_refused_right" "_law_refused_right" sRefR [], dfd ("_law_field_right", none) "_law_field_right" "_law_field_right" sFieldR [], dfd ("_law_pair_right", none) "_law_pair_right" "_law_pair_right" sPairR [], dfd ("law", none) "law" "law" sLaw []] : List He.DefD) ++
  ([dfd ("is_integer", none) "is_integer" "is_integer" sIsInt [], dfd ("is_list", none) "is_list" "is_list" sIsList [], dfd ("is_pair", none) "is_pair" "is_pair" sIsPair [], dfd ("is_name", none) "is_name" "is_name" sIsName [], dfd ("is_one_of", none) "is_one_of" "is_one_of" sIsOne [], dfd ("has_just", none) "has_just" "has_just" sHasJust [], dfd ("alike", none) "alike" "alike" sAlike [], dfd ("is_parted", none) "is_parted" "is_parted" sIsParted []] : List He.DefD) ++
  ([dfd ("first_bad", none) "first_bad" "first_bad" sFirst [], dfd ("check_known", none) "check_known" "check_known" sCkK [], dfd ("check_asked", none) "check_asked" "check_asked" sCkA [], dfd ("check_both", none) "check_both" "check_both" sCkB [], dfd ("check_lacking", none) "check_lacking" "check_lacking" sCkLack [], dfd ("_are_integers", none) "_are_integers" "_are_integers" sAreInts [], dfd ("_first_bad_row", none) "_first_bad_row" "_first_bad_row" sBadRow [], dfd ("Table", some "__init__") "__init__" "Table.__init__" sInit []] : List He.DefD) ++
  ([dfd ("Table", some "__eq__") "__eq__" "Table.__eq__" sEq [], dfd ("Table", some "questions") "questions" "Table.questions" sQs [], dfd ("Table", some "home") "home" "Table.home" sHome [], dfd ("Table", some "answers") "answers" "Table.answers" sAnswers [], dfd ("Table", some "is_told") "is_told" "Table.is_told" sIsTold [], dfd ("Table", some "plan") "plan" "Table.plan" sPlan [], dfd ("Table", some "is_plan") "is_plan" "Table.is_plan" sIsPlan [], dfd ("Table", some "found") "found" "Table.found" sFound []] : List He.DefD) ++
  ([dfd ("Table", some "apart") "apart" "Table.apart" sApart [], dfd ("Table", some "are_apart") "are_apart" "Table.are_apart" sAreAp [], dfd ("Table", some "_dict_of") "_dict_of" "Table._dict_of" sDictOf [], dfd ("Table", some "_is_world") "_is_world" "Table._is_world" sIsWorld [], dfd ("Table", some "_places") "_places" "Table._places" sPlaces [], dfd ("Table", some "_parting_rows") "_parting_rows" "Table._parting_rows" sParting [], dfd ("Table", some "_plan_of") "_plan_of" "Table._plan_of" sPlanOf [], dfd ("View", some "__init__") "__init__" "View.__init__" sVInit []] : List He.DefD) ++
  ([dfd ("View", some "__eq__") "__eq__" "View.__eq__" sVEq [], dfd ("View", some "questions") "questions" "View.questions" sVQs [], dfd ("View", some "home") "home" "View.home" sVHome [], dfd ("View", some "answers") "answers" "View.answers" sVAnswers [], dfd ("View", some "is_told") "is_told" "View.is_told" sVIsTold [], dfd ("View", some "plan") "plan" "View.plan" sVPlan [], dfd ("View", some "is_plan") "is_plan" "View.is_plan" sVIsPlan [], dfd ("View", some "found") "found" "View.found" sVFound []] : List He.DefD) ++
  ([dfd ("View", some "apart") "apart" "View.apart" sVApart [], dfd ("View", some "are_apart") "are_apart" "View.are_apart" sVAreAp [], dfd ("View", some "names") "names" "View.names" sVNames [], dfd ("View", some "_meant") "_meant" "View._meant" sVMeant [], dfd ("BadView", some "__init__") "__init__" "BadView.__init__" sIBadView [], dfd ("BadKnown", some "__init__") "__init__" "BadKnown.__init__" sIBadKnown [], dfd ("NoQuestion", some "__init__") "__init__" "NoQuestion.__init__" sINoQuestion [], dfd ("BadWorld", some "__init__") "__init__" "BadWorld.__init__" sIBadWorld []] : List He.DefD) ++
  ([dfd ("BadPlan", some "__init__") "__init__" "BadPlan.__init__" sIBadPlan [], dfd ("BadAnswers", some "__init__") "__init__" "BadAnswers.__init__" sIBadAnswers []] : List He.DefD)
def faT : List He.Fa := ([.glo "_law_start", .glo "_law_draw", .glo "_law_pick", .glo "_law_mixed", .glo "_law_t_names", .glo "_law_t_rows", .glo "_law_t_some", .glo "_law_t_key", .glo "_law_t_tells", .glo "_law_same", .glo "_law_frozen", .glo "_law_tried", .glo "_law_refused_right", .glo "_law_field_right", .glo "_law_pair_right", .glo "law"] : List He.Fa) ++
  ([.glo "is_integer", .glo "is_list", .glo "is_pair", .glo "is_name", .glo "is_one_of", .glo "has_just", .glo "alike", .glo "is_parted", .glo "first_bad", .glo "check_known", .glo "check_asked", .glo "check_both", .glo "check_lacking", .glo "_are_integers", .glo "_first_bad_row", .glo "Table"] : List He.Fa) ++
  ([.glo "View", .free "list", .free "len", .free "int", .free "range", .free "dict", .free "tuple", .free "str", .free "bool", .free "isinstance", .free "all", .free "any", .free "enumerate", .free "zip", .free "sorted", .int "LONGEST" 40] : List He.Fa) ++
  ([.str "SIGNS" "abcdefghijklmnopqrstuvwxyz0123456789.", .cls "Table", .noat "Table" "_questions", .noat "Table" "_rows", .meth "Table" "__eq__", .meth "Table" "questions", .meth "Table" "home", .meth "Table" "answers", .meth "Table" "is_told", .meth "Table" "plan", .meth "Table" "is_plan", .meth "Table" "found", .meth "Table" "apart", .meth "Table" "are_apart", .meth "Table" "_dict_of", .meth "Table" "_is_world"] : List He.Fa) ++
  ([.meth "Table" "_places", .meth "Table" "_parting_rows", .meth "Table" "_plan_of", .meth "Table" "__init__", .mkr "Table", .cls "View", .noat "View" "_field", .noat "View" "_names", .meth "View" "__eq__", .meth "View" "questions", .meth "View" "home", .meth "View" "answers", .meth "View" "is_told", .meth "View" "plan", .meth "View" "is_plan", .meth "View" "found"] : List He.Fa) ++
  ([.meth "View" "apart", .meth "View" "are_apart", .meth "View" "names", .meth "View" "_meant", .meth "View" "__init__", .mkr "View", .glo "BadView", .glo "BadKnown", .glo "NoQuestion", .glo "BadWorld", .glo "BadPlan", .glo "BadAnswers", .exm "BadView" "BadView" true, .exm "BadView" "BadKnown" false, .exm "BadView" "NoQuestion" false, .exm "BadView" "BadWorld" false] : List He.Fa) ++
  ([.exm "BadView" "BadPlan" false, .exm "BadView" "BadAnswers" false, .exm "BadKnown" "BadView" false, .exm "BadKnown" "BadKnown" true, .exm "BadKnown" "NoQuestion" false, .exm "BadKnown" "BadWorld" false, .exm "BadKnown" "BadPlan" false, .exm "BadKnown" "BadAnswers" false, .exm "NoQuestion" "BadView" false, .exm "NoQuestion" "BadKnown" false, .exm "NoQuestion" "NoQuestion" true, .exm "NoQuestion" "BadWorld" false, .exm "NoQuestion" "BadPlan" false, .exm "NoQuestion" "BadAnswers" false, .exm "BadWorld" "BadView" false, .exm "BadWorld" "BadKnown" false] : List He.Fa) ++
  ([.exm "BadWorld" "NoQuestion" false, .exm "BadWorld" "BadWorld" true, .exm "BadWorld" "BadPlan" false, .exm "BadWorld" "BadAnswers" false, .exm "BadPlan" "BadView" false, .exm "BadPlan" "BadKnown" false, .exm "BadPlan" "NoQuestion" false, .exm "BadPlan" "BadWorld" false, .exm "BadPlan" "BadPlan" true, .exm "BadPlan" "BadAnswers" false, .exm "BadAnswers" "BadView" false, .exm "BadAnswers" "BadKnown" false, .exm "BadAnswers" "NoQuestion" false, .exm "BadAnswers" "BadWorld" false, .exm "BadAnswers" "BadPlan" false, .exm "BadAnswers" "BadAnswers" true] : List He.Fa)
/-- the defs that hold a def, a lambda -/
def tfT : List He.Defn := [("_law_refused_right", none)]
/-- the classes of errors, each with its field -/
def erT : List (Str × Str) := [("BadView", "name"), ("BadKnown", "index"), ("NoQuestion", "name"), ("BadWorld", "thing"), ("BadPlan", "thing"), ("BadAnswers", "thing")]
/-- of the class besides -/
def clsB (K : PySem.W.Frag) (C : Addr) : Bool := He.eqO (PySem.W.findIn K (.ref C) "__class__") (some (some (.builtin "object.__class__"))) && (He.eqO (PySem.W.specialIn K (.builtin "object.__class__") "__get__") (some (some (.builtin "getset_descriptor.__get__"))) &&
  (decide (PySem.W.takesIn K (.builtin "object.__class__") = some true) && decide (PySem.W.mroIn K C (.type "object") = some true)))
def farB (K : PySem.W.Frag) (C : Addr) (t : Value) : Bool := PySem.W.notFirst K C t && decide (PySem.W.kitOne K t (.ref C) = some false)
def moreT (K : PySem.W.Frag) : Bool := clsB K (He.ga K "Table") && (clsB K (He.ga K "View") && (He.eqO (PySem.W.findIn K (.ref (He.ga K "View")) "__ne__") (some (some (.builtin "object.__ne__"))) &&
  ((["NoneType", "int", "dict", "str"].all fun t => farB K (He.ga K "View") (.type t)) && farB K (He.ga K "View") (.ref (He.ga K "Table")))))
def csL (K : PySem.W.Frag) : List (Addr × Addr) := tfT.map (He.cT K)
def diffT (K : PySem.W.Frag) : Bool := decide ((tfT.map fun p => (He.cT K p).2).Nodup) && ((erT.all fun p => errB K p.1 p.2) && moreT K)
def obsK (g : Addr → Option Obj) : He.AlD × Bool := (He.obsD faT fnT (He.frT g asK), diffT (He.frT g asK) && He.tabsB g tfT (He.frT g asK))
structure SaysK (h : Heap) (K : PySem.W.Frag) : Prop where
  d : He.SaysD faT fnT K
  np : (tfT.map fun p => (He.cT K p).2).Nodup
  er : ∀ p ∈ erT, errB K p.1 p.2 = true
  mo : moreT K = true
  hd : ∀ p ∈ tfT, PySem.W.codeHdIn K (He.cT K p).1 (He.cT K p).2 = true
  out : ∀ p ∈ tfT, K.lookup (He.cT K p).2 = none
  empty : ∀ p ∈ tfT, h.get? (He.cT K p).2 = some { cls := .none, data := .fields #[] }
theorem saysK_of {h : Heap} (e : obsK h.get? = (He.valD fnT, true)) : SaysK h (He.frT h.get? asK) := by
  have e1 : He.obsD faT fnT (He.frT h.get? asK) = He.valD fnT := congrArg (fun z : He.AlD × Bool => z.1) e
  have e2 : (diffT (He.frT h.get? asK) && He.tabsB h.get? tfT (He.frT h.get? asK)) = true := congrArg (fun z : He.AlD × Bool => z.2) e
  obtain ⟨h1, h2⟩ := He.ba e2
  have key : ∀ p ∈ tfT, PySem.W.codeHdIn (He.frT h.get? asK) (He.cT (He.frT h.get? asK) p).1 (He.cT (He.frT h.get? asK) p).2 = true ∧ ∃ o, h.get? (He.cT (He.frT h.get? asK) p).2 = some o ∧ He.emptyTab o = true := fun p hp => by
    obtain ⟨h3, h4⟩ := He.ba (List.all_eq_true.mp h2 p hp)
    refine ⟨h3, ?_⟩
    cases q : h.get? (He.cT (He.frT h.get? asK) p).2 with
    | none => rw [q] at h4; cases h4
    | some o => rw [q] at h4; exact ⟨o, rfl, h4⟩
  obtain ⟨h5, h6⟩ := He.ba h1
  obtain ⟨h6, h7⟩ := He.ba h6
  exact ⟨e1, of_decide_eq_true h5, fun p hp => List.all_eq_true.mp h6 p hp, h7, fun p hp => (key p hp).1, (fun p hp => by
    obtain ⟨_, o, q, z⟩ := key p hp
    exact He.frT_none q z), (fun p hp => by
    obtain ⟨_, o, q, z⟩ := key p hp
    rw [q, He.emptyTab_eq z])⟩
section
variable {h : Heap} {K : PySem.W.Frag}
theorem SaysK.hdC (c : SaysK h K) {p : Addr × Addr} (hp : p ∈ csL K) : PySem.W.codeHdIn K p.1 p.2 = true := by
  obtain ⟨q, hq, e⟩ := List.mem_map.mp hp
  rw [← e]
  exact c.hd q hq
theorem SaysK.outC (c : SaysK h K) {p : Addr × Addr} (hp : p ∈ csL K) : K.lookup p.2 = none := by
  obtain ⟨q, hq, e⟩ := List.mem_map.mp hp
  rw [← e]
  exact c.out q hq
theorem SaysK.emptyC (c : SaysK h K) {p : Addr × Addr} (hp : p ∈ csL K) : h.get? p.2 = some { cls := .none, data := .fields #[] } := by
  obtain ⟨q, hq, e⟩ := List.mem_map.mp hp
  rw [← e]
  exact c.empty q hq
end
def hookK : PySem.W.Hook where
  α := He.AlD × Bool
  obs := fun s => obsK s.heap.get?
  val := fun _ => (He.valD fnT, true)
  says := fun _ h => ∃ K : PySem.W.Frag, K.In h ∧ SaysK h K
  of := fun _ _ e => ⟨_, He.frT_in, saysK_of e⟩
  keeps := fun _ _ _ ⟨K, hK, c⟩ k => ⟨K, PySem.W.Frag.In.keeps hK k, ⟨c.d, c.np, c.er, c.mo, c.hd, c.out, fun p hp => k _ _ (c.empty p hp)⟩⟩
def obT (s : PySem.W.SharedT) : He.AlD × Bool := obsK (HandSHeadRun.getT s)
theorem obT_eq (s : PySem.W.SharedT) : obT s = hookK.obs s.abs := by
  have e : HandSHeadRun.getT s = s.abs.heap.get? := funext fun a => HandSHeadRun.getT_eq s a
  unfold obT
  rw [e] <;> rfl
namespace HdR
open PySem PySem.W PySem.Calls PyProof.Rows
abbrev R : OpenRow := OpenLaw.row PySem.Challenge.rw_twoworlds_k11_views
abbrev qv : Program := view R.prog [49]
def names : List PySem.Str := (["_wall", "WorldError", "BadWorld", "BadKnown", "NoQuestion", "BadPlan", "BadAnswers", "BadRow", "UnlikeQuestions", "BadView", "is_integer", "is_list", "is_pair", "is_name", "is_one_of", "has_just", "alike", "is_parted", "first_bad", "check_known", "check_asked", "check_both", "check_lacking", "View", "Table", "_are_integers", "_first_bad_row", "_law_t_names", "_law_t_rows", "_law_t_some"] : List PySem.Str) ++
  (["_law_t_key", "_law_t_tells", "_law_start", "_law_draw", "_law_pick", "_law_mixed", "_law_same", "_law_frozen", "_law_tried", "_law_refused_right", "_law_field_right", "_law_pair_right", "SIGNS", "LONGEST"] : List PySem.Str)
set_option maxHeartbeats 0 in
theorem run (w : World) : HandSHeadRun.RunEq R qv L2.TB.hookK L2.TB.obT 16000 names w := by
  intro os
  kernel_rfl
end HdR
end L2.TB
/-! _law_tried: what was raised, as data -/
namespace L2.TB
open PySem PySem.Spec PyProof.Rows
abbrev NTd : List Str := ["ask", "found", "e"]
theorem scTd : FnScope NTd ["ask"] (defScope sTried) := ⟨rfl, rfl, rfl, by decide +kernel, rfl, by decide +kernel, by decide +kernel⟩
/-- the clauses: a class's name, the class, the word for it, its field -/
structure Clz where
  x : Str
  C : Addr
  tag : Str
  fld : Str
/-- the errors' classes; the last one is no class -/
structure ErrA where
  CV : Addr
  CK : Addr
  CQ : Addr
  CW : Addr
  CP : Addr
  CA : Addr
  CU : Addr
/-- what _law_tried makes of what was raised: the pair is frozen by sp -/
def EchT (cs : List Clz) (CU : Addr) (sp : Sp) (Q : VK) : XK := fun cls d H => (∃ (c : Clz) (dd : Addr) (fs : List (Str × V)) (v : V), c ∈ cs ∧ cls = .ref c.C ∧ d = some dd ∧ H dd = some (.xd fs) ∧ fs.lookup c.fld = some v ∧
  ∀ t, H t = none → sp [.ref t] (upd H t (.tup [.str c.tag, v])) Q fun _ _ _ => False) ∨ (cls = .ref CU ∧ False)
/-- nothing but one of cs is raised, and nothing is told -/
def TTr (cs : List Clz) (CU : Addr) (sp : Sp) : (XK → Hp → VK → Prop) → Hp → VK → Prop := fun tl H Q => ∀ (E : XK) (R : VK), (∀ cls d H', EchT cs CU sp Q cls d H' → E cls d H') → tl E H R
/-- the classes are told apart -/
structure ClzOk (K : PySem.W.Frag) (mg : Str → Option Value) (cs : List Clz) (CU : Addr) : Prop where
  g : ∀ c ∈ cs, mg c.x = some (.ref c.C)
  xf : ∀ c ∈ cs, XfC K c.C ∧ PySem.W.findIn K (.ref c.C) c.fld = some none
  exm : ∀ c ∈ cs, ∀ c' ∈ cs, PySem.W.exmOne K (.ref c.C) (.ref c'.C) = some (decide (c.x = c'.x))
  inj : ∀ c ∈ cs, ∀ c' ∈ cs, c.x = c'.x → c = c'
abbrev clOf (tag fld : Str) (C : Addr) : TA.Cl := (.ref C, some 2, fun a cls d => tAsg (tTup (tCons (tC (.str tag)) (tCons (tXf a cls d C fld (tVar 2)) tNil))) (gName 1))
/-- this law's six -/
def clz6 (A : ErrA) : List Clz := [⟨"BadView", A.CV, "view", "name"⟩, ⟨"BadKnown", A.CK, "known", "index"⟩, ⟨"NoQuestion", A.CQ, "question", "name"⟩, ⟨"BadWorld", A.CW, "world", "thing"⟩, ⟨"BadPlan", A.CP, "plan", "thing"⟩, ⟨"BadAnswers", A.CA, "answers", "thing"⟩]
theorem cls_fit {K : PySem.W.Frag} {mg : Str → Option Value} {cs : List Clz} {CU : Addr} (O : ClzOk K mg cs CU) {Wout : WX} {D : Ends} {o0 o1 o2 : Option V} {c : Clz} {dd : Addr} {fs : List (Str × V)} {v : V} {H : Hp} (hc : c ∈ cs) (hd : H dd = some (.xd fs)) (hl : fs.lookup c.fld = some v)
    (go : ∀ t, H t = none → D.nx [o0, some (.ref t), none] (upd H t (.tup [.str c.tag, v]))) (r : List TA.Cl) :
    ∀ l : List Clz, (∀ c' ∈ l, c' ∈ cs) → c ∈ l → TA.wCls K Wout D ((l.map fun c => clOf c.tag c.fld c.C) ++ r) (.ref c.C) (some dd) [o0, o1, o2] H
  | [], _, h => absurd h (by simp)
  | c' :: l, sub, h => by
    refine ⟨decide (c.x = c'.x), O.exm c hc c' (sub c' (by simp)), fun e a na => ?_, fun e => ?_⟩
    · obtain rfl := O.inj c hc c' (sub c' (by simp)) (of_decide_eq_true e)
      refine ⟨_, rfl, rfl, rfl, dd, fs, v, rfl, hd, hl, (by show 2 ≤ sizeLine; decide), fun t nt => ?_⟩
      exact go t nt
    · refine cls_fit O hc hd hl go r l (fun c2 h2 => sub c2 (List.mem_cons_of_mem _ h2)) ?_
      rcases List.mem_cons.mp h with z | z
      · rw [z] at e; simp at e
      · exact z
abbrev tdCx (X : Cx) (g : Addr) (cdg : Value) (s : Shared) (H : Hp) : Cx := (cxOf C8.CX0 X.prog X.w X.K X.mg X.base NTd "_law_tried" (defScope sTried) g cdg X.A X.stack s H C8.E0).nox
theorem cl_one {X : Cx} {g : Addr} {cdg : Value} {s : Shared} {H : Hp} {x tag fld : Str} {C : Addr} {np p p1 p2 p3 p4 p5 q : Pos} {j kk : Nat} {hds : List ExceptHandler} {l : List TA.Cl} (gx : Gl (tdCx X g cdg s H) x) (hd : (x == ("__debug__" : Str)) = false) (hm : X.mg x = some (.ref C)) (xf : XfC X.K C)
    (no : PySem.W.findIn X.K (.ref C) fld = some none) (r : TA.Cls (tdCx X g cdg s H) hds l) :
    TA.Cls (tdCx X g cdg s H) (.ExceptHandler (some (.Name x np)) (some "e") [.Assign [.Name "found" p] (.Tuple [.Constant (.str tag) j p1, .Attribute (.Name "e" p2) fld p3] kk p4) p5] q :: hds) (clOf tag fld C :: l) :=
  .cons (k := clOf tag fld C) ⟨rfl, rfl⟩ ⟨gx, hd, .inl hm⟩ (fun a oe cls d pn hz hf => pss_one (ps_set (i := 1) scTd.nd rfl (Or.inl rfl) (pe_tup (pa_cons pe_str (pa_cons (pe_xf (X := tdCx X g cdg s H) xf no hz hf (pv 2)) pa_nil))))) r
abbrev mg1 (mg : Str → Option Value) (c : Clz) : Prop := mg c.x = some (.ref c.C)
section
variable {X : Cx} {g fz : Addr} {cdg : Value} {fdz : FuncData} {q : Str} {k : Nat} {sp : Sp}
theorem tried_gives {A : ErrA} (O : ClzOk X.K X.mg (clz6 A) A.CU)
    (hr : Room (k + 1) X.A) (GF : FnOk X.prog X.w X.K X.mg X.base CX0 k fz fdz ["thing"] sp) (FZ : Fun X.K "_law_frozen" "_law_frozen" sFrozen fz fdz) (gF : X.mg "_law_frozen" = some (.ref fz)) :
    LamX.GivesTo X NTd "_law_tried" (defScope sTried) g cdg (defBody sTried) "ask" q (TTr (clz6 A) A.CU sp) := by
  intro f c' s H Q tl act hco h
  have nd := scTd.nd
  have mm : ∀ c, c ∈ clz6 A → mg1 X.mg c ∧ XfC X.K c.C ∧ PySem.W.findIn X.K (.ref c.C) c.fld = some none := fun c h => ⟨O.g c h, O.xf c h⟩
  have m1 := mm ⟨"BadView", A.CV, "view", "name"⟩ (by simp [clz6])
  have m2 := mm ⟨"BadKnown", A.CK, "known", "index"⟩ (by simp [clz6])
  have m3 := mm ⟨"NoQuestion", A.CQ, "question", "name"⟩ (by simp [clz6])
  have m4 := mm ⟨"BadWorld", A.CW, "world", "thing"⟩ (by simp [clz6])
  have m5 := mm ⟨"BadPlan", A.CP, "plan", "thing"⟩ (by simp [clz6])
  have m6 := mm ⟨"BadAnswers", A.CA, "answers", "thing"⟩ (by simp [clz6])
  have b := FZ.binds (ps := ["thing"]) fun _ _ _ _ _ _ us hl => match us, hl with | [_], _ => rfl
  refine ⟨_, pss_cons (ps_set (i := 1) nd rfl (Or.inl rfl) pe_str)
    (pss_cons (TA.ps_try_cls (Wout := fun _ _ _ _ => False) (l := [clOf "view" "name" A.CV, clOf "known" "index" A.CK, clOf "question" "name" A.CQ, clOf "world" "thing" A.CW, clOf "plan" "thing" A.CP, clOf "answers" "thing" A.CA])
        (tb := fun W D σ H => σ[0]? = some (some (.ref f)) ∧ H c' = some (LamX.CodeO c' q) ∧ tl (fun cls d H' => ∀ σ' : L2.St, σ'.length = 3 → W cls d σ' H') H fun _ H' => D.nx σ H')
        rfl rfl nd LamX.takes0 (fun W pn xe tk _ => ?_)
        (cl_one rfl (by decide) m1.1 m1.2.1 m1.2.2 (cl_one rfl (by decide) m2.1 m2.2.1 m2.2.2 (cl_one rfl (by decide) m3.1 m3.2.1 m3.2.2
          (cl_one rfl (by decide) m4.1 m4.2.1 m4.2.2 (cl_one rfl (by decide) m5.1 m5.2.1 m5.2.2 (cl_one rfl (by decide) m6.1 m6.2.1 m6.2.2 .nil)))))))
    (pss_one (ps_ret (pe_call GF (hr.deeper _) rfl gF FZ.kp b .nil pass0 (pa_cons (pv 1) pa_nil))))), ?_⟩
  · have tk' : Takes ((tdCx X g cdg s H).tr pn xe) (fun cls d σ' H' => σ'.length = 3 → W cls d σ' H') := fun u s' ⟨a, B, sI, pins, σ, H, cls, d, e, I, nb, up, sky, na, os, ag, w⟩ => tk u s' ⟨a, B, sI, pins, σ, H, cls, d, e, I, nb, up, sky, na, os, ag, w I.len⟩
    have hp := fun p1 p2 => act (fun cls d σ' H' => σ'.length = 3 → W cls d σ' H') pn xe (fun cls d H' => ∀ σ' : L2.St, σ'.length = 3 → W cls d σ' H') p1 p2 tk' (fun cls d σ' H' e => e σ')
    exact pss_one (ps_expr (hp _ _))
  · refine ⟨rfl, hco, h _ _ fun cls d H' e σ' l3 => ?_⟩
    match σ', l3 with
    | [o0, o1, o2], _ =>
      show TA.wCls X.K (fun _ _ _ _ => False) _ (((clz6 A).map fun c => clOf c.tag c.fld c.C) ++ []) _ _ _ _
      rcases e with ⟨c, dd, fs, v, hc, rfl, rfl, hd, hl, hz⟩ | ⟨_, hz⟩
      · refine cls_fit O hc hd hl (fun t nt => ?_) [] (clz6 A) (fun _ z => z) hc
        exact ⟨_, rfl, hz t nt⟩
      · exact hz.elim
end
end L2.TB
/-! dicts whose keys are of several kinds: found, read, stored -/
namespace L2.MK
open PySem PySem.Spec PyProof.Rows SeqAt
/-- the entries' keys -/
structure Ents (w : World) (h : Heap) (es : Array DictEntry) (ks : List NestedKey) : Prop where
  len : es.size = ks.length
  is_ : ∀ (i : Nat) (e : DictEntry) (k : NestedKey), es[i]? = some e → ks[i]? = some k → NestedIs h k e.key ∧ e.hash = k.hash w
  nd : ks.Nodup
  dp : ∀ k ∈ ks, k.depth ≤ 8
section
variable {prog : Program} {w : World} {A : Around} {E : Value → Shared → Prop} {s : Shared} {d : Addr} {o : Obj} {es : Array DictEntry} {ep : Nat} {ks : List NestedKey} {k : NestedKey} {key : Value}
theorem Ents.keyAt (he : Ents w s.heap es ks) {i : Nat} {e : DictEntry} (h : es[i]? = some e) : ∃ k, ks[i]? = some k ∧ NestedIs s.heap k e.key ∧ e.hash = k.hash w ∧ k.depth ≤ 8 := by
  have lt : i < ks.length := by rw [← he.len]; exact (Array.getElem?_eq_some_iff.mp h).1
  obtain ⟨a, b⟩ := he.is_ i e ks[i] h (List.getElem?_eq_getElem lt)
  exact ⟨_, List.getElem?_eq_getElem lt, a, b, he.dp _ (List.getElem_mem lt)⟩
theorem Ents.ent (he : Ents w s.heap es ks) {i : Nat} (h : ks[i]? = some k) : ∃ e, es[i]? = some e ∧ NestedIs s.heap k e.key ∧ e.hash = k.hash w := by
  have lt : i < es.size := by rw [he.len]; exact (List.getElem?_eq_some_iff.mp h).1
  obtain ⟨a, b⟩ := he.is_ i es[i] k (Array.getElem?_eq_getElem lt) h
  exact ⟨_, Array.getElem?_eq_getElem lt, a, b⟩
/-- a stored key asked whether it is key -/
theorem eq_key (hu : A.units + 8 < cLine) {x y : NestedKey} {u v : Value} {Q : Bool → Shared → Prop} (hx : NestedIs s.heap x u) (hy : NestedIs s.heap y v) (dx : x.depth ≤ 8) (h : Q (decide (x = y)) s) : wpAny (model prog w) A (eqBool u v) Q E s := by
  rw [NestedKey.decide_eq] at h
  exact eqAt_key x y A s u v hx hy (by omega) prog w E Q h
theorem nk_tell {stored : List Value} {Q : Bool → Shared → Prop} (hk : NestedIs s.heap k key) (hd8 : k.depth ≤ 8) (hst : ∀ v ∈ stored, ∃ k' : NestedKey, NestedIs s.heap k' v ∧ k'.depth ≤ 8) (h : Q false s) : wpAny (model prog w) A (tableMayTell key stored) Q E s := by
  unfold tableMayTell
  by_cases h0 : stored.isEmpty = true
  · rw [if_pos h0]; exact wpAny_pure h
  rw [if_neg h0]
  refine wpAny_bind (quiet_key k key 8 s hk hd8 A E _ ?_)
  rw [if_neg (by decide)]
  refine wpAny_bind (wpAny_forIn_list _ (fun rest r s' => s' = s ∧ r = (none, ()) ∧ ∀ v ∈ rest, ∃ k' : NestedKey, NestedIs s.heap k' v ∧ k'.depth ≤ 8) _ ?_ ?_ _ _ ⟨rfl, rfl, hst⟩)
  · rintro x rest r s' ⟨rfl, rfl, al⟩
    obtain ⟨k', hx, hd⟩ := al x (by simp)
    refine wpAny_bind (quiet_key k' x 8 s' hx hd A E _ ?_)
    rw [if_neg (by decide)]
    exact wpAny_pure ⟨rfl, rfl, fun v hv => al v (List.mem_cons_of_mem _ hv)⟩
  · rintro r s' ⟨rfl, rfl, _⟩
    exact wpAny_pure h
theorem places_mem {n : Nat} {f : Nat → Option Int} {h : Int} {i : Nat} : i ∈ placesWithHash n f h ↔ i < n ∧ f i = some h := by
  unfold placesWithHash
  rw [List.mem_filter, List.mem_range, beq_iff_eq]
theorem places_nodup {n : Nat} {f : Nat → Option Int} {h : Int} : (placesWithHash n f h).Nodup := List.Pairwise.filter _ List.nodup_range
/-- the general walk, behind the looks at the key -/
theorem fin_ {Q : Option Nat → Shared → Prop} (hu : A.units + 8 < cLine) (ho : s.heap.get? d = some o) (hd : o.data = .dict es ep) (he : Ents w s.heap es ks) (hk : NestedIs s.heap k key) (hd8 : k.depth ≤ 8) (hnone : k ∉ ks → Q none s) (hsome : ∀ j, ks[j]? = some k → Q (some j) s)
    (pm : ∀ {i : Nat}, i ∈ placesWithHash es.size (fun i => es[i]?.map (·.hash)) (k.hash w) → ∃ e k', es[i]? = some e ∧ ks[i]? = some k' ∧ NestedIs s.heap k' e.key ∧ e.hash = k.hash w ∧ k'.depth ≤ 8)
    (mp : ∀ j : Nat, ks[j]? = some k → j ∈ placesWithHash es.size (fun i => es[i]?.map (·.hash)) (k.hash w)) (none_of : (∀ j : Nat, ks[j]? ≠ some k) → k ∉ ks) (one : ∀ {i j : Nat}, ks[i]? = some k → ks[j]? = some k → i = j)
    (all_st : ∀ v ∈ (placesWithHash es.size (fun i => es[i]?.map (·.hash)) (k.hash w)).filterMap (fun i => es[i]?.map (·.key)), ∃ k' : NestedKey, NestedIs s.heap k' v ∧ k'.depth ≤ 8) :
    wpAny (model prog w) A (do
      let tells ← if (placesWithHash es.size (fun i => es[i]?.map (·.hash)) (k.hash w)).filterMap (fun i => es[i]?.map (·.key)) == [key] then pure false else tableMayTell key ((placesWithHash es.size (fun i => es[i]?.map (·.hash)) (k.hash w)).filterMap (fun i => es[i]?.map (·.key)))
      if tells && ((placesWithHash es.size (fun i => es[i]?.map (·.hash)) (k.hash w)).filterMap (fun i => es[i]?.map (·.key))).length ≥ 2 then unsupported "dict.find:order-among-keys-of-one-hash"
      let mut hit : Option Nat := none
      for i in placesWithHash es.size (fun i => es[i]?.map (·.hash)) (k.hash w) do
        if let some e := es[i]? then
          if e.hash == k.hash w then
            let before ← dictEpoch d (keyPart key)
            let same ← eqBool e.key key
            if (← dictEpoch d (keyPart key)) != before then unsupported "dict.changed-during-lookup"
            if same then
              if hit.isSome then unsupported "dict.find:order-among-keys-of-one-hash"
              rule "dict.find.hit"
              if ((placesWithHash es.size (fun i => es[i]?.map (·.hash)) (k.hash w)).filterMap (fun i => es[i]?.map (·.key))).length < 2 then return some i
              hit := some i
            else
              rule "dict.find.same-hash-other-key"
              if tells && !(0 ≤ k.hash w && k.hash w < 32) then unsupported "dict.find:asked-again-or-not-hangs-on-the-table"
      return hit : Sem (Option Nat)) Q E s := by
  by_cases hone : ((placesWithHash es.size (fun i => es[i]?.map (·.hash)) (k.hash w)).filterMap (fun i => es[i]?.map (·.key)) == [key]) = true <;>
  (dsimp only; first | rw [if_pos hone] | rw [if_neg hone]) <;> (first | refine wpAny_bind (wpAny_pure ?_) | refine wpAny_bind (nk_tell hk hd8 all_st ?_)) <;> (
    try dsimp only
    rw [if_neg (by simp)]
    refine wpAny_bind (wpAny_forIn_list _ (fun rest b s' => s' = s ∧ ∃ hit, b = (none, hit) ∧ rest.Nodup ∧ (∀ i ∈ rest, i ∈ placesWithHash es.size (fun i => es[i]?.map (·.hash)) (k.hash w)) ∧
      ((hit = none ∧ ∀ j, ks[j]? = some k → j ∈ rest) ∨ ∃ j, hit = some j ∧ ks[j]? = some k ∧ j ∉ rest)) _ ?_ ?_ _ _ ⟨rfl, none, rfl, places_nodup, fun _ h => h, .inl ⟨rfl, mp⟩⟩)
    · rintro x rest b s' ⟨rfl, hit, rfl, nd, sub, hH⟩
      obtain ⟨e, k', ee, ek, hx, eh, dk⟩ := pm (sub x (by simp))
      rw [List.nodup_cons] at nd
      have sub' : ∀ i ∈ rest, i ∈ placesWithHash es.size (fun i => es[i]?.map (·.hash)) (k.hash w) := fun i hi => sub i (List.mem_cons_of_mem _ hi)
      rw [ee]
      dsimp only
      rw [if_pos (by rw [eh]; exact beq_self_eq_true _)]
      refine wpAny_bind (wpAny_dictEpoch ho hd (wpAny_bind (eq_key hu hx hk dk (wpAny_bind (wpAny_dictEpoch ho hd ?_)))))
      show wpAny _ _ (if (ep != ep) = true then _ else _) _ E _
      rw [if_neg (by simp)]
      by_cases hkk : k' = k
      · subst hkk
        rw [decide_eq_true rfl]
        rcases hH with ⟨rfl, al⟩ | ⟨j, rfl, hj, nj⟩
        · rw [if_pos rfl, if_neg (by simp)]
          refine wpAny_bind (wpAny_rule ?_)
          split
          · exact wpAny_pure (wpAny_pure (hsome x ek))
          · exact wpAny_pure ⟨rfl, some x, rfl, nd.2, sub', .inr ⟨x, rfl, ek, nd.1⟩⟩
        · exact absurd (by rw [one hj ek]; simp) nj
      · rw [decide_eq_false hkk, if_neg (by simp)]
        refine wpAny_bind (wpAny_rule ?_)
        rw [if_neg (by simp)]
        refine wpAny_pure ⟨rfl, hit, rfl, nd.2, sub', ?_⟩
        rcases hH with ⟨rfl, al⟩ | ⟨j, rfl, hj, nj⟩
        · refine .inl ⟨rfl, fun j hj => ?_⟩
          rcases List.mem_cons.mp (al j hj) with z | z
          · rw [z, ek] at hj; exact absurd (Option.some.inj hj) hkk
          · exact z
        · exact .inr ⟨j, rfl, hj, fun z => nj (List.mem_cons_of_mem _ z)⟩
    · rintro b s' ⟨rfl, hit, rfl, _, _, hH⟩
      rcases hH with ⟨rfl, al⟩ | ⟨j, rfl, hj, _⟩
      · exact wpAny_pure (hnone (none_of fun j hj => by cases al j hj))
      · exact wpAny_pure (hsome j hj))
/-- key is looked for -/
theorem nk_find {Q : Option Nat → Shared → Prop} (hu : A.units + 8 < cLine) (hk : NestedIs s.heap k key) (hd8 : k.depth ≤ 8) (ho : s.heap.get? d = some o) (hd : o.data = .dict es ep) (he : Ents w s.heap es ks) (hnone : k ∉ ks → Q none s) (hsome : ∀ j, ks[j]? = some k → Q (some j) s) :
    wpAny (model prog w) A (dictFind d key (k.hash w)) Q E s := by
  have pm : ∀ {i : Nat}, i ∈ placesWithHash es.size (fun i => es[i]?.map (·.hash)) (k.hash w) → ∃ e k', es[i]? = some e ∧ ks[i]? = some k' ∧ NestedIs s.heap k' e.key ∧ e.hash = k.hash w ∧ k'.depth ≤ 8 := fun {i} hi => by
    obtain ⟨lt, eq⟩ := places_mem.mp hi
    obtain ⟨e, ee, eh⟩ := Option.map_eq_some_iff.mp eq
    obtain ⟨k', a, b, c, d⟩ := he.keyAt ee
    exact ⟨e, k', ee, a, b, eh, d⟩
  have mp : ∀ j, ks[j]? = some k → j ∈ placesWithHash es.size (fun i => es[i]?.map (·.hash)) (k.hash w) := fun j hj => by
    obtain ⟨e, ee, _, eh⟩ := he.ent hj
    exact places_mem.mpr ⟨(Array.getElem?_eq_some_iff.mp ee).1, by rw [ee, Option.map_some, eh]⟩
  have one : ∀ {i j : Nat}, ks[i]? = some k → ks[j]? = some k → i = j := fun {i j} a b => (List.getElem?_inj (List.getElem?_eq_some_iff.mp a).1 he.nd).mp (a.trans b.symm)
  have none_of : (∀ j, ks[j]? ≠ some k) → k ∉ ks := fun h m => by
    obtain ⟨j, hj⟩ := List.mem_iff_getElem?.mp m
    exact h j hj
  have plain : wpAny (model prog w) A (dictWalkPlain d key (k.hash w) es (placesWithHash es.size (fun i => es[i]?.map (·.hash)) (k.hash w))) Q E s := by
    unfold dictWalkPlain
    refine wpAny_bind (wpAny_forIn_list _ (fun rest b s' => s' = s ∧ b = (none, ()) ∧ (∀ i ∈ rest, i ∈ placesWithHash es.size (fun i => es[i]?.map (·.hash)) (k.hash w)) ∧ ∀ j, ks[j]? = some k → j ∈ rest) _ ?_ ?_ _ _ ⟨rfl, rfl, fun _ h => h, mp⟩)
    · rintro x rest b s' ⟨rfl, rfl, sub, al⟩
      obtain ⟨e, k', ee, ek, hx, eh, dk⟩ := pm (sub x (by simp))
      rw [ee]
      dsimp only
      rw [if_pos (by rw [eh]; exact beq_self_eq_true _)]
      refine wpAny_bind (wpAny_dictEpoch ho hd (wpAny_bind (eq_key hu hx hk dk (wpAny_bind (wpAny_dictEpoch ho hd ?_)))))
      show wpAny _ _ (if (ep != ep) = true then _ else _) _ E _
      rw [if_neg (by simp)]
      by_cases hkk : k' = k
      · subst hkk
        rw [decide_eq_true rfl]
        exact wpAny_bind (wpAny_rule (wpAny_pure (wpAny_pure (hsome x ek))))
      · rw [decide_eq_false hkk]
        refine wpAny_bind (wpAny_rule (wpAny_pure ⟨rfl, rfl, fun i hi => sub i (List.mem_cons_of_mem _ hi), fun j hj => ?_⟩))
        rcases List.mem_cons.mp (al j hj) with z | z
        · rw [z, ek] at hj; exact absurd (Option.some.inj hj) hkk
        · exact z
    · rintro b s' ⟨rfl, rfl, _, al⟩
      exact wpAny_pure (hnone (none_of fun j hj => by cases al j hj))
  have all_st : ∀ v ∈ (placesWithHash es.size (fun i => es[i]?.map (·.hash)) (k.hash w)).filterMap (fun i => es[i]?.map (·.key)), ∃ k' : NestedKey, NestedIs s.heap k' v ∧ k'.depth ≤ 8 := fun v hv => by
    obtain ⟨i, hi, ev⟩ := List.mem_filterMap.mp hv
    obtain ⟨e, k', ee, _, hx, _, dk⟩ := pm hi
    rw [ee] at ev
    obtain rfl : e.key = v := by simpa using ev
    exact ⟨k', hx, dk⟩
  have keys_in : ∀ e ∈ es, ∃ k' : NestedKey, NestedIs s.heap k' e.key ∧ e.hash = k'.hash w := fun e hm => by
    obtain ⟨i, hi, rfl⟩ := Array.mem_iff_getElem.mp hm
    obtain ⟨k', _, a, b, _⟩ := he.keyAt (Array.getElem?_eq_getElem hi)
    exact ⟨k', a, b⟩
  unfold dictFind
  try with_reducible refine wpAny_holding ?_
  refine wpAny_bind (wpAny_dictEntries ho hd ?_)
  dsimp only
  by_cases hall : ((key :: (placesWithHash es.size (fun i => es[i]?.map (·.hash)) (k.hash w)).filterMap (fun i => es[i]?.map (·.key))).all carriedByValue) = true
  · rw [if_pos hall]
    split
    next x t =>
      split
      next hs =>
        cases hk with
        | text x t =>
          unfold foundByValue
          cases hf : es.findIdx? (fun e => e.key.isStr x) with
          | none =>
            refine wpAny_pure (hnone (none_of fun j hj => ?_))
            obtain ⟨e, ee, ke, _⟩ := he.ent hj
            have z := Array.findIdx?_eq_none_iff.mp hf e (Array.mem_of_getElem? ee)
            generalize e.key = u at ke z
            cases ke
            simp [Value.isStr] at z
          | some i =>
            obtain ⟨lt, yes, _⟩ := Array.findIdx?_eq_some_iff_getElem.mp hf
            obtain ⟨k', ek, hx, _, dk⟩ := he.keyAt (Array.getElem?_eq_getElem lt)
            have e2 : k' = .text x := by
              generalize es[i].key = u at yes hx
              cases hx with
              | text y t2 => simp [Value.isStr] at yes; rw [yes]
              | none => cases yes
              | bool _ => cases yes
              | int _ _ => cases yes
              | tup _ _ _ _ => cases yes
            subst e2
            simp only [Array.getElem?_eq_getElem lt]
            refine wpAny_bind (wpAny_dictEpoch ho hd (wpAny_bind (eq_key hu hx (.text x t) dk (wpAny_bind (wpAny_dictEpoch ho hd ?_)))))
            show wpAny _ _ (if (ep != ep) = true then _ else _) _ E _
            rw [if_neg (by simp), decide_eq_true rfl]
            exact wpAny_bind (wpAny_rule (wpAny_pure (hsome i ek)))
      next => exact plain
    next => exact plain
  · rw [if_neg hall]
    have hk' := hk
    have hany : ¬ (es.any fun e => e.key == key && e.hash != k.hash w) = true := fun z => by
      obtain ⟨i, hi, q⟩ := Array.any_eq_true.mp z
      obtain ⟨k', a, b⟩ := keys_in es[i] (Array.getElem_mem hi)
      rw [Bool.and_eq_true, beq_iff_eq, bne_iff_ne] at q
      rw [q.1] at a
      exact q.2 (by rw [b, NestedIs.inj _ _ _ a hk])
    cases hk
    case text x t =>
      dsimp only
      rw [if_neg (fun hs => hall (by
        rw [List.all_cons, Bool.and_eq_true]
        refine ⟨rfl, List.all_eq_true.mpr fun v hv => ?_⟩
        obtain ⟨i, hi, ev⟩ := List.mem_filterMap.mp hv
        obtain ⟨e, k', ee, _, hx, _, dk⟩ := pm hi
        rw [ee] at ev
        obtain rfl : e.key = v := by simpa using ev
        have z := Array.all_eq_true_iff_forall_mem.mp hs e (Array.mem_of_getElem? ee)
        generalize e.key = u at z
        cases u <;> first | rfl | cases z))]
      exact fin_ hu ho hd he hk' hd8 hnone hsome pm mp none_of one all_st
    case tup h1 h2 h3 h4 =>
      dsimp only
      rw [if_neg hany]
      exact fin_ hu ho hd he hk' hd8 hnone hsome pm mp none_of one all_st
    all_goals (dsimp only; exact fin_ hu ho hd he hk' hd8 hnone hsome pm mp none_of one all_st)
end
end L2.MK
/-! dicts whose keys are of several kinds: got, stored anew, displayed -/
namespace L2.MK
open PySem PySem.Spec PyProof.Rows SeqAt
section
variable {prog : Program} {w : World} {A : Around} {E : Value → Shared → Prop} {s : Shared} {d : Addr} {o : Obj} {es : Array DictEntry} {ep : Nat} {ks : List NestedKey} {k : NestedKey} {key : Value}
theorem nk_get {Q : Option Value → Shared → Prop} (hu : A.units + 8 < cLine) (hk : NestedIs s.heap k key) (hd8 : k.depth ≤ 8) (ho : s.heap.get? d = some o) (hd : o.data = .dict es ep) (he : Ents w s.heap es ks)
    (hnone : k ∉ ks → Q none { s with toks := s.toks + k.draws }) (hsome : ∀ (j : Nat) (e : DictEntry), ks[j]? = some k → es[j]? = some e → Q (some e.val) { s with toks := s.toks + k.draws }) : wpAny (model prog w) A (dictGet d key) Q E s := by
  unfold dictGet
  try with_reducible refine wpAny_holding ?_
  refine wpAny_bind (pyHash_key k key A s _ hk (by omega) ?_)
  refine wpAny_bind (nk_find (s := { s with toks := s.toks + k.draws }) hu hk hd8 ho hd he (fun h => wpAny_pure (hnone h)) fun j hj => ?_)
  obtain ⟨e, ee, _⟩ := he.ent hj
  refine wpAny_bind (wpAny_dictEntries (s := { s with toks := s.toks + k.draws }) ho hd ?_)
  rw [ee]
  exact wpAny_pure (hsome j e hj ee)
/-- the dict at d in h has these entries -/
def DictIs (h : Heap) (d : Addr) (es : Array DictEntry) : Prop := ∃ o ep, h.get? d = some o ∧ o.ExactDict ∧ o.data = .dict es ep
theorem nested_but {h h' : Heap} (hd : DictIs h d es) (hs : Heap.SameBut d h h') {v : Value} (x : NestedIs h k v) : NestedIs h' k v := NestedIs.at (fun a o vs n e q => by
  rw [hs.2 a (fun z => by
    subst z
    obtain ⟨o2, ep, e2, _, q2⟩ := hd
    rw [e] at e2
    cases e2
    rw [q] at q2
    cases q2)]
  exact e) k v x
theorem ents_but {h h' : Heap} {es0 : Array DictEntry} (hd : DictIs h d es0) (hs : Heap.SameBut d h h') (x : Ents w h es ks) : Ents w h' es ks := ⟨x.len, fun i e k a b => ⟨nested_but hd hs (x.is_ i e k a b).1, (x.is_ i e k a b).2⟩, x.nd, x.dp⟩
theorem nk_setNew {v : Value} {Q : Unit → Shared → Prop} (hu : A.units + 8 < cLine) (hk : NestedIs s.heap k key) (hd8 : k.depth ≤ 8) (hd : DictIs s.heap d es) (he : Ents w s.heap es ks) (hn : k ∉ ks) (hz : es.size ≤ sizeLine)
    (hQ : ∀ h', DictIs h' d (es.push ⟨k.hash w, key, v⟩) → Heap.SameBut d s.heap h' → Q () { s with heap := h', toks := s.toks + k.draws }) : wpAny (model prog w) A (dictSet d key v) Q E s := by
  obtain ⟨o, ep, ho, hc, hdt⟩ := hd
  unfold dictSet
  try with_reducible refine wpAny_holding ?_
  refine wpAny_bind (pyHash_key k key A s _ hk (by omega) ?_)
  unfold dictSetHashed
  try with_reducible refine wpAny_holding ?_
  refine wpAny_bind (nk_find (s := { s with toks := s.toks + k.draws }) hu hk hd8 ho hdt he (fun _ => ?_) fun j hj => absurd (List.mem_of_getElem? hj) hn)
  exact wpAny_bind (wpAny_rule (wpAny_updateDictKeys (hz := hz) (s := { s with toks := s.toks + k.draws }) ho hdt (hQ _ ⟨_, ep + 1, Heap.get?_update_self _ ho (Obj.isFreed_of_dict (Obj.data_mapDictKeys hdt _)), hc.mapDictKeys _, Obj.data_mapDictKeys hdt _⟩ (Heap.SameBut.update ..))))
theorem Ents.push {h : Heap} (he : Ents w h es ks) {v : Value} (hk : NestedIs h k key) (hd8 : k.depth ≤ 8) (hn : k ∉ ks) : Ents w h (es.push ⟨k.hash w, key, v⟩) (ks ++ [k]) := by
  refine ⟨by rw [Array.size_push, List.length_append, he.len]; rfl, fun i e k' a b => ?_, ?_, fun x hx => ?_⟩
  · by_cases hi : i < es.size
    · rw [Array.getElem?_push_lt hi] at a
      rw [List.getElem?_append_left (by rw [← he.len]; exact hi)] at b
      exact he.is_ i e k' (by rw [Array.getElem?_eq_getElem hi]; exact a) b
    · have l1 := (Array.getElem?_eq_some_iff.mp a).1
      rw [Array.size_push] at l1
      have e1 : i = es.size := by omega
      subst e1
      rw [Array.getElem?_push_size] at a
      rw [he.len, List.getElem?_append_right (Nat.le_refl _), Nat.sub_self] at b
      obtain rfl := Option.some.inj a
      obtain rfl := Option.some.inj b
      exact ⟨hk, rfl⟩
  · rw [List.nodup_append]
    exact ⟨he.nd, by simp, fun x hx y hy => by
      rw [List.mem_singleton] at hy
      subst hy
      exact fun z => hn (z ▸ hx)⟩
  · rcases List.mem_append.mp hx with hx | hx
    · exact he.dp x hx
    · rw [List.mem_singleton] at hx; rw [hx]; exact hd8
/-- new keys, one after the other -/
theorem nk_storeAll (hu : A.units + 8 < cLine) : ∀ (vs : List (Value × Value)) (rest acc : List NestedKey) (es : Array DictEntry) (s : Shared) (Q : PUnit → Shared → Prop), DictIs s.heap d es → Ents w s.heap es acc → rest.length = vs.length →
    (∀ (i : Nat) (k : NestedKey) (p : Value × Value), rest[i]? = some k → vs[i]? = some p → NestedIs s.heap k p.1) → (acc ++ rest).Nodup → (∀ k ∈ rest, k.depth ≤ 8) → es.size + vs.length ≤ sizeLine →
    (∀ (h' : Heap) (es' : Array DictEntry) (t : Nat), DictIs h' d es' → es'.toList = es.toList ++ List.zipWith (fun (k : NestedKey) (p : Value × Value) => ⟨k.hash w, p.1, p.2⟩) rest vs → Heap.SameBut d s.heap h' → Q PUnit.unit { s with heap := h', toks := t }) →
    wpAny (model prog w) A (forIn vs PUnit.unit fun (x : Value × Value) (_ : PUnit) => (do dictSet d x.1 x.2; pure (ForInStep.yield PUnit.unit) : Sem (ForInStep PUnit))) Q E s
  | [], rest, acc, es, s, Q, hd, he, hl, _, _, _, _, hQ => by
    rw [List.forIn_nil]
    have e : rest = [] := List.length_eq_zero_iff.mp hl
    subst e
    exact wpAny_pure (hQ s.heap es s.toks hd (by simp) (Heap.SameBut.refl _ _))
  | (key, v) :: vs, [], acc, es, s, Q, hd, he, hl, _, _, _, _, hQ => by simp at hl
  | (key, v) :: vs, k :: rest, acc, es, s, Q, hd, he, hl, al, nd, dp, hz, hQ => by
    rw [List.length_cons] at hz
    have hk : NestedIs s.heap k key := al 0 k (key, v) rfl rfl
    have hn : k ∉ acc := fun m => by
      rw [List.nodup_append] at nd
      exact nd.2.2 k m k (by simp) rfl
    rw [List.forIn_cons]
    refine wpAny_bind (wpAny_bind (nk_setNew hu hk (dp k (by simp)) hd he hn (by omega) fun h1 hd1 hs1 => wpAny_pure ?_))
    have he1 := (ents_but hd hs1 he).push (v := v) (nested_but hd hs1 hk) (dp k (by simp)) hn
    refine nk_storeAll hu vs rest (acc ++ [k]) _ _ Q hd1 he1 (by simpa using hl) (fun i k' p a b => nested_but hd hs1 (al (i + 1) k' p (by simpa using a) (by simpa using b))) (by simpa using nd) (fun x hx => dp x (by simp [hx])) (by rw [Array.size_push]; omega) fun h' es' t hd' e' hs' => ?_
    exact hQ h' es' t hd' (by rw [e']; simp) (hs1.trans hs')
/-- {k: v, ..} -/
theorem nk_display {env : Env} {keys : List (Option Expr)} {values : List Expr} {pos : Pos} {Q : Value → Shared → Prop} (hu : A.units + 8 < cLine) (hall : keys.all (·.isSome) = true) (hl : keys.length = values.length) (h0 : keys ≠ []) (hlen : keys.length ≤ 15)
    (h : wpAny (model prog w) A (evalPairs (pairTrees keys values env pos)) (fun vs s1 => ∃ rest : List NestedKey, DictIs s1.heap s.heap.objs.size #[] ∧ rest.length = vs.length ∧ vs.length ≤ 15 ∧ (∀ (i : Nat) (k : NestedKey) (p : Value × Value), rest[i]? = some k → vs[i]? = some p → NestedIs s1.heap k p.1) ∧ rest.Nodup ∧ (∀ k ∈ rest, k.depth ≤ 8) ∧
      ∀ (h' : Heap) (es' : Array DictEntry) (t : Nat), DictIs h' s.heap.objs.size es' → es'.toList = List.zipWith (fun (k : NestedKey) (p : Value × Value) => ⟨k.hash w, p.1, p.2⟩) rest vs → Heap.SameBut s.heap.objs.size s1.heap h' → Q (.ref s.heap.objs.size) { s1 with heap := h', toks := t }) E
      { s with heap := s.heap.push { cls := .type "dict", data := .dict #[] } }) : wpAny (model prog w) A (eval (.Dict keys values pos) env) Q E s := by
  have hn := pairTrees_length keys values env pos hall hl
  rw [arm_eval_Dict, zip_pairTrees keys values env pos hall hl, dictDisplay_pairs (pairTrees keys values env pos) (fun he => by
    rw [he] at hn
    exact h0 (List.length_eq_zero_iff.mp hn.symm)) (by omega)]
  refine wpAny_bind (wpAny_standAt (wpAny_bind ?_))
  unfold subDict
  refine wpAny_bind (wpAny_alloc ?_)
  refine wpAny_bind (wpAny_holding ?_)
  rw [if_pos (by omega)]
  refine wpAny_bind (wpAny_mono h (fun vs s1 hh => ?_) fun _ _ e => e)
  obtain ⟨rest, hd, hrl, h15, al, nd, dp, hQ⟩ := hh
  refine wpAny_holding ?_
  refine wpAny_bind (nk_storeAll hu vs rest [] #[] s1 _ hd ⟨rfl, fun i e k a _ => by simp at a, List.nodup_nil, fun _ z => by cases z⟩ hrl al (by simpa using nd) dp (by rw [sizeLine_eq]; simp; omega) fun h' es' t hd' e' hs' => wpAny_pure (wpAny_pure (wpAny_pure (hQ h' es' t hd' (by simpa using e') hs'))))
end
end L2.MK
/-! dicts whose keys are of several kinds, as objects of the layer -/
namespace L2.MK
open PySem PySem.Spec PyProof.Rows SeqAt
/-- a key as a value -/
inductive KeyH (H : Hp) : NestedKey → V → Prop
  | non : KeyH H .none .non
  | bl (b : Bool) : KeyH H (.num (if b = true then 1 else 0)) (.bl b)
  | int (i : Int) : KeyH H (.num i) (.int i)
  | str (x : Str) : KeyH H (.text x) (.str x)
  | tup {a : Addr} {vs : List V} {ks : List NestedKey} (h : H a = some (.tup vs)) (len : vs.length = ks.length) (al : ∀ (i : Nat) (v : V) (k : NestedKey), vs[i]? = some v → ks[i]? = some k → KeyH H k v) : KeyH H (.tup ks) (.ref a)
theorem KeyH.mono {H H' : Hp} {k : NestedKey} {v : V} (x : KeyH H k v) (s : ∀ a vs, H a = some (.tup vs) → H' a = some (.tup vs)) : KeyH H' k v := by
  induction x with
  | non => exact .non
  | bl b => exact .bl b
  | int i => exact .int i
  | str x => exact .str x
  | tup h len _ ih => exact .tup (s _ _ h) len ih
theorem all_is {h : Heap} : ∀ {vs : List V} {its : List Value} {ks : List NestedKey}, Vals vs its → vs.length = ks.length → (∀ (i : Nat) (v : V) (k : NestedKey), vs[i]? = some v → ks[i]? = some k → ∀ u, RelV v u → NestedIs h k u) → NestedAll h ks its
  | _, _, [], .nil, _, _ => .nil
  | _, _, k :: ks, .cons r t, l, al => .cons (al 0 _ k rfl rfl _ r) (all_is t (by simpa using l) fun i v k a b => al (i + 1) v k (by simpa using a) (by simpa using b))
  | _, _, [], .cons _ _, l, _ => by simp at l
  | _, _, _ :: _, .nil, l, _ => by simp at l
theorem KeyH.is {P : Program} {w : World} {H : Hp} {h : Heap} {k : NestedKey} {v : V} (ok : HOk P w H h) (x : KeyH H k v) : ∀ {u : Value}, RelV v u → NestedIs h k u := by
  induction x with
  | non => intro u r; cases (show u = Value.none from r); exact .none
  | bl b => intro u r; cases (show u = Value.bool b from r); exact .bool rfl
  | int i => intro u r; obtain ⟨t, rfl⟩ := r; exact .int i t
  | str x => intro u r; obtain ⟨t, rfl⟩ := r; exact .text x t
  | @tup a vs ks e len _ ih =>
    intro u r
    cases (show u = Value.ref a from r)
    obtain ⟨_, its, rv, o, ho, hc, n, hd⟩ := ok a _ e
    exact .tup ho hc hd (by simpa using all_is rv len fun i v k a b u r => ih i v k a b r)
/-- the dict at d: keys ks as the values kvs.1, answers kvs.2 -/
def DX (w : World) (d : Addr) (ks : List NestedKey) (kvs : List (V × V)) : HO := .ext fun h => (d == sysModules) = false ∧ ks.length = kvs.length ∧ ks.length ≤ sizeLine ∧ ∃ es : Array DictEntry, DictIs h d es ∧ es.size = ks.length ∧
  ∀ (i : Nat) (e : DictEntry) (k : NestedKey) (p : V × V), es[i]? = some e → ks[i]? = some k → kvs[i]? = some p → e.hash = k.hash w ∧ RelV p.1 e.key ∧ RelV p.2 e.val
/-- the keys are so in H -/
structure MixK (H : Hp) (ks : List NestedKey) (kvs : List (V × V)) : Prop where
  is_ : ∀ (i : Nat) (k : NestedKey) (p : V × V), ks[i]? = some k → kvs[i]? = some p → KeyH H k p.1
  nd : ks.Nodup
  dp : ∀ k ∈ ks, k.depth ≤ 8
theorem MixK.mono {H H' : Hp} {ks : List NestedKey} {kvs : List (V × V)} (x : MixK H ks kvs) (s : ∀ a vs, H a = some (.tup vs) → H' a = some (.tup vs)) : MixK H' ks kvs := ⟨fun i k p a b => (x.is_ i k p a b).mono s, x.nd, x.dp⟩
theorem dx_rd {P : Program} {w : World} {H : Hp} {h : Heap} {d : Addr} {ks : List NestedKey} {kvs : List (V × V)} (ok : HOk P w H h) (e : Rd H d (DX w d ks kvs)) : (d == sysModules) = false ∧ ks.length = kvs.length ∧ ks.length ≤ sizeLine ∧ ∃ es : Array DictEntry, DictIs h d es ∧ es.size = ks.length ∧
    ∀ (i : Nat) (e : DictEntry) (k : NestedKey) (p : V × V), es[i]? = some e → ks[i]? = some k → kvs[i]? = some p → e.hash = k.hash w ∧ RelV p.1 e.key ∧ RelV p.2 e.val := (e.ok ok).1
theorem dx_ents {P : Program} {w : World} {H : Hp} {h : Heap} {ks : List NestedKey} {kvs : List (V × V)} {es : Array DictEntry} (ok : HOk P w H h) (m : MixK H ks kvs) (hl : ks.length = kvs.length) (hz : es.size = ks.length)
    (al : ∀ (i : Nat) (e : DictEntry) (k : NestedKey) (p : V × V), es[i]? = some e → ks[i]? = some k → kvs[i]? = some p → e.hash = k.hash w ∧ RelV p.1 e.key ∧ RelV p.2 e.val) : Ents w h es ks := by
  refine ⟨hz, fun i e k a b => ?_, m.nd, m.dp⟩
  have lt : i < kvs.length := by rw [← hl]; exact (List.getElem?_eq_some_iff.mp b).1
  obtain ⟨h1, h2, _⟩ := al i e k kvs[i] a b (List.getElem?_eq_getElem lt)
  exact ⟨(m.is_ i k _ b (List.getElem?_eq_getElem lt)).is ok h2, h1⟩
theorem dx_new {P : Program} {w : World} {H : Hp} {h : Heap} {d : Addr} {ks : List NestedKey} {kvs : List (V × V)} {es : Array DictEntry} (hd : (d == sysModules) = false) (hl : ks.length = kvs.length) (hle : ks.length ≤ sizeLine) (hi : DictIs h d es) (hz : es.size = ks.length)
    (al : ∀ (i : Nat) (e : DictEntry) (k : NestedKey) (p : V × V), es[i]? = some e → ks[i]? = some k → kvs[i]? = some p → e.hash = k.hash w ∧ RelV p.1 e.key ∧ RelV p.2 e.val) : ObjOk P w H h d (DX w d ks kvs) := by
  refine ⟨⟨hd, hl, hle, es, hi, hz, al⟩, ?_, ?_⟩
  · obtain ⟨o, _, e, _⟩ := hi
    exact ⟨o, e⟩
  · rintro h1 h2 ⟨a, b, c, es, ⟨o, ep, e, r⟩, q⟩ k
    exact ⟨a, b, c, es, ⟨o, ep, k o e, r⟩, q⟩
/-! ### the display -/
def tDispX (w : World) (trs : List (TE × TE)) : TE := fun σ H Q => ∀ p, H p = none → tPairs trs σ (upd H p (DX w p [] [])) fun ps H2 => H2 p = some (DX w p [] []) ∧ ∃ ks : List NestedKey, ks.length = ps.length ∧ MixK H2 ks ps ∧ Q (.ref p) (upd H2 p (DX w p ks ps))
theorem vv_at : ∀ {ps : List (V × V)} {ws : List (Value × Value)} {i : Nat} {q : Value × Value}, VV ps ws → ws[i]? = some q → ∃ p, ps[i]? = some p ∧ RelV p.1 q.1 ∧ RelV p.2 q.2
  | _, _, _, _, .nil, e => by simp at e
  | _, _, 0, q, .cons r _, e => by
    obtain rfl := Option.some.inj e
    exact ⟨_, rfl, r⟩
  | _, _, i + 1, q, .cons _ t, e => by
    obtain ⟨p, a, b⟩ := vv_at (i := i) t (by simpa using e)
    exact ⟨p, by simpa using a, b⟩
theorem pps_len {X : Cx} {pos : Pos} {trs : List (TE × TE)} : ∀ {σ : L2.St} {H : Hp} {Q : List (V × V) → Hp → Prop}, tPairs trs σ H Q → True := fun _ => trivial
theorem vv_len {ps : List (V × V)} {ws : List (Value × Value)} (r : VV ps ws) : ps.length = ws.length := Paired.length r
theorem pe_dispX {X : Cx} {pos : Pos} {keys : List (Option Expr)} {values : List Expr} {trs : List (TE × TE)} (hu : X.A.units + 8 < cLine) (h : PPs X pos keys values trs) (hall : keys.all (·.isSome) = true) (hl : keys.length = values.length) (h0 : keys ≠ [])
    (h15 : keys.length ≤ 15) : PE X (.Dict keys values pos) (tDispX X.w trs) := by
  refine ⟨fun pins s σ H Q I q => ?_⟩
  have hn := I.hok.fresh (Nat.le_refl s.heap.objs.size)
  have hbig : (s.heap.objs.size == sysModules) = false := beq_eq_false_iff_ne.mpr (Ne.symm (Nat.ne_of_lt I.big))
  have di : DictIs (s.heap.push { cls := .type "dict", data := .dict #[] }) s.heap.objs.size #[] := ⟨_, 0, Heap.get?_push_size _ rfl, ⟨rfl, rfl, rfl⟩, rfl⟩
  have I1 := I.laid (a := s.heap.objs.size) (o := DX X.w s.heap.objs.size [] []) (h' := s.heap.push { cls := .type "dict", data := .dict #[] }) (t' := s.toks) (fun _ _ q => Heap.get?_push_of_some _ q) (Nat.le_refl _) (dx_new hbig rfl (Nat.zero_le _) di rfl (fun i e k p a => by simp at a))
  have hn15 := pairTrees_length keys values X.env pos hall hl
  refine nk_display hu hall hl h0 h15 (thn (wpAny_evalPairs_len (h.run pins _ σ _ _ I1 (q _ hn))) fun ws s2 ⟨wl, ps, H2, I2, rel, e, ks, kl, m, q2⟩ => ?_)
  obtain ⟨_, _, _, es, hdi, hz, _⟩ := dx_rd I2.hok (.inl e)
  have e0 : es = #[] := Array.size_eq_zero_iff.mp hz
  subst e0
  have l2 := vv_len rel
  refine ⟨ks, hdi, by rw [kl, l2], by omega, fun i k p a b => ?_, m.nd, m.dp, fun h' es' t hd' e' hs => ⟨.ref s.heap.objs.size, _, ?_, rfl, q2⟩⟩
  · obtain ⟨p', a', r, _⟩ := vv_at rel b
    exact (m.is_ i k p' a a').is I2.hok r
  · have le : es'.size = ks.length := by
      have z := congrArg List.length e'
      rw [Array.length_toList, List.length_zipWith, kl, l2] at z
      omega
    have he : ∃ q, h'.get? s.heap.objs.size = some q := let ⟨o, _, z, _⟩ := hd'; ⟨o, z⟩
    refine d_write I2 (by rw [e]; exact True.intro) hs he (dx_new hbig kl (by rw [sizeLine_eq]; omega) hd' le fun i en k p a b c => ?_)
    have z : es'.toList[i]? = some en := by rw [Array.getElem?_toList]; exact a
    rw [e', List.getElem?_zipWith, b] at z
    cases ew : ws[i]? with
    | none => rw [ew] at z; cases z
    | some q' =>
      rw [ew] at z
      obtain rfl := Option.some.inj z
      obtain ⟨p', a', r1, r2⟩ := vv_at rel ew
      rw [c] at a'
      obtain rfl := Option.some.inj a'
      exact ⟨rfl, r1, r2⟩
/-! ### d[k] -/
def tDGetX (w : World) (td ty : TE) : TE := fun σ H Q => td σ H fun x H1 => ty σ H1 fun y H2 => ∃ (d : Addr) (ks : List NestedKey) (kvs : List (V × V)) (k : NestedKey) (j : Nat) (p : V × V), x = .ref d ∧ Rd H2 d (DX w d ks kvs) ∧ MixK H2 ks kvs ∧ KeyH H2 k y ∧ ks[j]? = some k ∧ kvs[j]? = some p ∧ Q p.2 H2
section
variable {X : Cx} {pins : List (Addr × Obj)} {σ : St} {H : Hp} {s : Shared} {A : Around} {E : Value → Shared → Prop} {d : Addr} {ks : List NestedKey} {kvs : List (V × V)} {o i : Expr} {td ty : TE} {pos : Pos}
theorem dx_type (I : Inv X pins σ H s) (e : Rd H d (DX X.w d ks kvs)) : s.TypeIs (.ref d) "dict" := by
  obtain ⟨_, _, _, es, ⟨o, _, z, q, _⟩, _⟩ := dx_rd I.hok e
  exact ⟨o, z, q.1⟩
theorem dx_noDict (I : Inv X pins σ H s) (e : Rd H d (DX X.w d ks kvs)) : ∀ b, Value.ref d = .ref b → ∃ ob, s.heap.get? b = some ob ∧ ob.dict = none := fun b z => by
  injection z with z
  subst z
  obtain ⟨_, _, _, es, ⟨o, _, z, q, _⟩, _⟩ := dx_rd I.hok e
  exact ⟨o, z, q.2.1⟩
theorem dx_getItem {k : NestedKey} {j : Nat} {p : V × V} {y : V} {u : Value} {Q : Value → Shared → Prop} (hu : A.in1.units + 8 < cLine) (I : Inv X pins σ H s) (e : Rd H d (DX X.w d ks kvs)) (m : MixK H ks kvs) (hk : KeyH H k y) (ej : ks[j]? = some k) (ep : kvs[j]? = some p) (ry : RelV y u)
    (h : ∀ w' s', Inv X pins σ H s' → RelV p.2 w' → Q w' s') : wpAny (model X.prog X.w) A (getItem (.ref d) u) Q E s := by
  have hT := dx_type I e
  obtain ⟨_, hl, _, es, ⟨o, epo, ho, hc, hdt⟩, hz, al⟩ := dx_rd I.hok e
  have en := dx_ents I.hok m hl hz al
  unfold getItem
  try with_reducible refine wpAny_holding ?_
  refine wpAny_bind (wpAny_sequenceKey hT (by decide) (wpAny_bind (wpAny_callSpecial?_slot (name := Str.ofString "__getitem__") hT slot_dict_getitem (wpAny_call_entry slot_dict_getitem hT entry_dict_getitem ?_ (args_dict_getitem _ _)))))
  show wpAny _ _ (dictGet d u >>= fun _ => _) _ _ s
  refine wpAny_bind (nk_get hu (hk.is I.hok ry) (m.dp _ (List.mem_of_getElem? ej)) ho hdt en (fun n => absurd (List.mem_of_getElem? ej) n) fun j' e' a b => ?_)
  have e2 : j' = j := (List.getElem?_inj (List.getElem?_eq_some_iff.mp a).1 m.nd).mp (a.trans ej.symm)
  subst e2
  obtain ⟨_, _, r⟩ := al j' e' k p b a ep
  exact wpAny_pure ⟨e'.val, rfl, wpAny_pure (h _ _ (I.tok _) r)⟩
theorem pe_dgetX (hu : X.A.in1.units + 8 < cLine) (ho : PE X o td) (hi : PE X i ty) (hs : NoSl i) : PE X (.Subscript o i pos) (tDGetX X.w td ty) := by
  refine ⟨fun pins s σ H Q I h => subD_of PySem.F.slot_dict_getitem.lookup hs (thn (ho.run pins s σ H _ I h) fun u s1 ⟨x, H1, I1, rx, q1⟩ => thn (hi.run pins s1 σ H1 _ I1 q1) fun iv s2 ⟨y, H2, I2, ry, d, ks, kvs, k, j, p, ex, e, m, hk, ej, ep, q2⟩ => ?_)⟩
  subst ex
  cases (show u = Value.ref d from rx)
  exact ⟨dx_type I2 e, dx_getItem hu I2 e m hk ej ep ry fun w' s3 I3 rw' => ⟨p.2, H2, I3, rw', q2⟩⟩
/-! ### isinstance(d, dict), len(d) -/
theorem call_isiD : CallR X (.builtin "isinstance") (fun xs H Q => ∃ (d : Addr) (ks : List NestedKey) (kvs : List (V × V)) (c : V) (u : Value) (b : Bool), xs = [.ref d, c] ∧ ClsV c u ∧ Rd H d (DX X.w d ks kvs) ∧ PySem.W.kitOne X.K (.type "dict") u = some b ∧ Q (.bl b) H) := by
  intro pins s σ H xs us Q I r h
  obtain ⟨d, ks, kvs, c, u, b, rfl, k, e, hb, q⟩ := h
  obtain ⟨u1, u2, rfl, r1, r2⟩ := vals2 r
  have e2 := k.eq r2
  subst e2
  cases (show u1 = Value.ref d from r1)
  obtain ⟨o, h1, h2⟩ := dx_type I e
  exact PySem.W.kia_one PySem.W.kitx_dict I.kIn ⟨o, h1, h2⟩ hb (fun z => nomatch z) fun tk => ⟨.bl b, H, I.tok tk, rfl, q⟩
theorem len_body {n : Nat} {es : Array DictEntry} {Q : Value → Shared → Prop} (hs : (d == sysModules) = false) (hd : DictIs s.heap d es) (hn : es.size = n) (hz : n ≤ sizeLine) (h : Q (.int n (s.toks + 1)) { s with toks := s.toks + 1 + 1 }) :
    wpAny (model X.prog X.w) A (call (.builtin "len") [.ref d]) Q E s := by
  have hT : s.TypeIs (.ref d) "dict" := let ⟨o, _, z, q, _⟩ := hd; ⟨o, z, q.1⟩
  have ml : MeetsIn X.prog X.w (Builtin.«dict.__len__» ⟨[.ref d], []⟩) (fun _ R s => ∃ es, DictIs s.heap d es ∧ R (.ok (.ret (.int es.size s.toks))) { s with toks := s.toks + 1 }) := .of_wp fun A R s ⟨es, hd, h⟩ => by
    obtain ⟨o, ep, ho, hc, hdt⟩ := hd
    show wpAny _ _ (dictSize d >>= fun _ => _) _ _ s
    unfold dictSize
    refine wpAny_bind (wpAny_bind (wpAny_dictEntries ho hdt (wpAny_pure ?_)))
    show wpAny _ _ (Builtin.Dict.pendingCount d >>= fun _ => _) _ _ s
    exact wpAny_bind (wpAny_pendingCount_other hs (wpAny_ret_mkInt (by rw [Nat.add_zero]; exact h)))
  rw [sizeLine_eq] at hz
  refine Calls.call_function_entry kind_len plain_len entry_len (args_len1 _) ?_
  unfold Builtin.«len»
  refine wpAny_bind (m := oneArg "len" _) (wpAny_pure (wpAny_bind (m := callSpecial? (.ref d) (Str.ofString "__len__")) (wpAny_callSpecial?_slot (name := Str.ofString "__len__") hT F.slot_dict_len
    (call_meetsIn F.slot_dict_len hT F.entry_dict_len (F.args_dict_len_1 _) ml ⟨es, hd, ?_⟩))))
  rw [hn]
  show wpAny _ _ _ _ _ { s with toks := s.toks + 1 }
  refine wpAny_bind (wpAny_holding (wpAny_pure (wpAny_bind (wpAny_letGo ?_))))
  show wpAny _ _ (if ((n : Nat) : Int) < 0 then _ else _) _ _ _
  rw [if_neg (by omega)]
  show wpAny _ _ (if ((n : Nat) : Int) ≥ 2 ^ 63 then _ else _) _ _ _
  rw [if_neg (by omega)]
  exact wpAny_bind (wpAny_mkInt (wpAny_pure ⟨_, rfl, h⟩))
theorem call_lenX : CallR X (.builtin "len") (fun xs H Q => ∃ (d : Addr) (ks : List NestedKey) (kvs : List (V × V)), xs = [.ref d] ∧ Rd H d (DX X.w d ks kvs) ∧ Q (.int kvs.length) H) := by
  intro pins s σ H xs us Q I r h
  obtain ⟨d, ks, kvs, rfl, e, q⟩ := h
  obtain ⟨u, rfl, ru⟩ := vals1 r
  cases (show u = Value.ref d from ru)
  obtain ⟨hs, hl, hz, es, hd, hn, _⟩ := dx_rd I.hok e
  exact len_body hs hd (hn.trans hl) (by rw [← hl]; exact hz) ⟨.int kvs.length, H, I.tok _, ⟨_, rfl⟩, q⟩
/-! ### for k in d -/
def Itkx (w : World) (d : Addr) (o : Obj) (ks : List NestedKey) (kvs : List (V × V)) : It :=
  ⟨fun i H => H d = some (.frz o (DX w d ks kvs)) ∧ i < kvs.length, fun i H x H' => H' = H ∧ ∃ v, kvs[i]? = some (x, v), fun i H => H d = some (.frz o (DX w d ks kvs)) ∧ kvs.length ≤ i⟩
theorem frzX {ob : Obj} (I : Inv X pins σ H s) (h : H d = some (.frz ob (DX X.w d ks kvs))) : (d == sysModules) = false ∧ s.heap.get? d = some ob ∧ ob.ExactDict ∧ ∃ (es : Array DictEntry) (ep : Nat), ob.data = .dict es ep ∧ es.size = kvs.length ∧ ∀ (i : Nat) (p : V × V), kvs[i]? = some p → ∃ en : DictEntry, es[i]? = some en ∧ RelV p.1 en.key := by
  obtain ⟨hd, ⟨hs, hl, _, es, ⟨o', ep, ho, hx, hdt⟩, hz, al⟩, _⟩ := I.hok d _ h
  rw [hd] at ho
  cases ho
  refine ⟨hs, hd, hx, es, ep, hdt, hz.trans hl, fun i p e => ?_⟩
  have lt := (List.getElem?_eq_some_iff.mp e).1
  have l1 : i < es.size := by omega
  have l2 : i < ks.length := by omega
  exact ⟨es[i], Array.getElem?_eq_getElem l1, (al i _ _ p (Array.getElem?_eq_getElem l1) (List.getElem?_eq_getElem l2) e).2.1⟩
theorem turn_keysX {P : Program} {w : World} {K : PySem.W.Frag} {tg : Expr} {ob : Obj} {es : Array DictEntry} {ep : Nat} (it : Addr) (hod : ob.data = .dict es ep) : Turn P w K tg (Itkx w d ob ks kvs) [it] it (fun i h => h.IsKeyIter it d i kvs.length ep) where
  mem := by simp
  obj := fun i h st b hb => by
    have e : b = it := by simpa using hb
    subst e
    exact let ⟨oi, e, c, dd⟩ := st; ⟨oi, e, fun v z => by rw [dd] at z; cases z⟩
  keep := fun i h h' st k => st.at fun oi e => k it (by simp) oi e
  item := by
    intro X hP hw hK hc i pins s σ H E I hf st hg
    subst hP hw hK
    have lt : i < kvs.length := hg.2
    obtain ⟨f0, f1, f2, f3, f4, f5⟩ := hf it (by simp)
    obtain ⟨hs, hgd, hx, es', ep', hdt, hsz, ent⟩ := frzX I hg.1
    obtain ⟨rfl, rfl⟩ := dict_ep hod hdt
    obtain ⟨en, hen, rk⟩ := ent i kvs[i] (List.getElem?_eq_getElem hg.2)
    refine next_key_item st hgd hdt hsz hen fun h' st' sb => ?_
    obtain ⟨oi, e, c, dd⟩ := id st'
    exact ⟨en.key, rfl, go_of (s := { s with heap := h' }) e c dd (by decide) ⟨kvs[i].1, H, I.turned (t' := s.toks) (fun b ob hb e => (sb.2 b hb).trans e) f0 f1 f3 f4 f5, rk, ⟨rfl, kvs[i].2, List.getElem?_eq_getElem hg.2⟩, st', fun b hb => (hf b hb).1⟩⟩
  done := by
    intro X hP hw hK hc i pins s σ H E I hf st hg
    subst hP hw hK
    obtain ⟨f0, f1, f2, f3, f4, f5⟩ := hf it (by simp)
    obtain ⟨hs, hgd, hx, es', ep', hdt, hsz, ent⟩ := frzX I hg.1
    obtain ⟨rfl, rfl⟩ := dict_ep hod hdt
    exact next_key_end (I.ok.hd hc) st hgd hdt hsz hg.2 fun h' eb => ⟨rfl, I.turned (t' := s.toks) (fun b ob hb e => eb b ob hb e) f0 f1 f3 f4 f5⟩
  self := fun A i s Q E st h => wpAny_pyIter_keyiter st h
def iKeysX (w : World) (td : TE) : TI := fun σ H R => td σ H fun x H1 => ∃ (d : Addr) (o : Obj) (ks : List NestedKey) (kvs : List (V × V)), x = .ref d ∧ H1 d = some (.frz o (DX w d ks kvs)) ∧ R (Itkx w d o ks kvs) H1
theorem pi_keysX {tg e : Expr} (he : PE X e td) : PI X tg e (iKeysX X.w td) := by
  refine ⟨fun pins s σ H R I h => thn (he.run pins s σ H _ I h) fun u s1 ⟨x, H1, I1, rx, d, o, ks, kvs, ex, hd, q⟩ => ?_⟩
  subst ex
  cases (show u = Value.ref d from rx)
  obtain ⟨hs, hgd, hx, es, ep, hdt, hsz, _⟩ := frzX I1 hd
  refine iter_keys hs hgd hx hdt (pi_one (tk := s1.toks) I1 _ (turn_keysX _ hdt) ⟨_, Heap.get?_push_size _ rfl, rfl, ?_⟩ q)
  rw [hsz] <;> rfl
theorem walk_keysX {w : World} {ob : Obj} : Walk (Itkx w d ob ks kvs) kvs.length (fun H => H d = some (.frz ob (DX w d ks kvs))) (fun i H x H' => H' = H ∧ ∃ v, kvs[i]? = some (x, v)) :=
  ⟨fun _ _ hi q => ⟨q, hi⟩, fun _ q => ⟨q, Nat.le_refl _⟩, fun _ _ _ _ _ _ y => y⟩
end
end L2.MK
/-! dicts with keys of several kinds: stored, whatever stands there; entries as one list -/
namespace L2.MK
open PySem PySem.Spec PyProof.Rows SeqAt
abbrev En := NestedKey × V × V
/-- the dict at d with these entries -/
abbrev DE (w : World) (d : Addr) (es : List En) : HO := DX w d (es.map (·.1)) (es.map (·.2))
abbrev MixE (H : Hp) (es : List En) : Prop := MixK H (es.map (·.1)) (es.map (·.2))
def valE (es : List En) (k : NestedKey) : Option V := (es.find? fun e => decide (e.1 = k)).map (·.2.2)
def putE (es : List En) (k : NestedKey) (y v : V) : List En := if k ∈ es.map (·.1) then es.map fun e => if e.1 = k then (e.1, e.2.1, v) else e else es ++ [(k, y, v)]
theorem putE_new {es : List En} {k : NestedKey} {y v : V} (h : k ∉ es.map (·.1)) : putE es k y v = es ++ [(k, y, v)] := by unfold putE; rw [if_neg h]
theorem putE_old {es : List En} {k : NestedKey} {y v : V} (h : k ∈ es.map (·.1)) : putE es k y v = es.map fun e => if e.1 = k then (e.1, e.2.1, v) else e := by unfold putE; rw [if_pos h]
theorem putE_keys {es : List En} {k : NestedKey} {y v : V} : (putE es k y v).map (·.1) = if k ∈ es.map (·.1) then es.map (·.1) else es.map (·.1) ++ [k] := by
  unfold putE
  by_cases h : k ∈ es.map (·.1)
  · rw [if_pos h, if_pos h, List.map_map]
    refine List.map_congr_left fun e _ => ?_
    show (if e.1 = k then (e.1, e.2.1, v) else e).1 = e.1
    by_cases z : e.1 = k
    · rw [if_pos z]
    · rw [if_neg z]
  · rw [if_neg h, if_neg h, List.map_append]; rfl
theorem putE_length (es : List En) (k : NestedKey) (y v : V) : (putE es k y v).length ≤ es.length + 1 := by
  unfold putE
  by_cases h : k ∈ es.map (·.1)
  · rw [if_pos h, List.length_map]; omega
  · rw [if_neg h, List.length_append]; exact Nat.le_refl _
theorem putE_nodup {es : List En} {k : NestedKey} {y v : V} (h : (es.map (·.1)).Nodup) : ((putE es k y v).map (·.1)).Nodup := by
  rw [putE_keys]
  by_cases z : k ∈ es.map (·.1)
  · rw [if_pos z]; exact h
  · rw [if_neg z, List.nodup_append]
    exact ⟨h, by simp, fun a ha b hb e => by rw [List.mem_singleton] at hb; rw [e, hb] at ha; exact z ha⟩
theorem MixE.put {H : Hp} {es : List En} {k : NestedKey} {y v : V} (m : MixE H es) (hk : KeyH H k y) (hd : k.depth ≤ 8) : MixE H (putE es k y v) := by
  refine ⟨fun i k' p e1 e2 => ?_, putE_nodup m.nd, fun k' hk' => ?_⟩
  · rw [List.getElem?_map] at e1 e2
    obtain ⟨e, ee, rfl⟩ := Option.map_eq_some_iff.mp e1
    rw [ee] at e2
    obtain rfl := Option.some.inj e2
    by_cases z : k ∈ es.map (·.1)
    · rw [putE_old z, List.getElem?_map] at ee
      obtain ⟨e0, e0e, rfl⟩ := Option.map_eq_some_iff.mp ee
      have q := m.is_ i e0.1 e0.2 (by rw [List.getElem?_map, e0e]; rfl) (by rw [List.getElem?_map, e0e]; rfl)
      by_cases h : e0.1 = k
      · simp only [if_pos h]; exact q
      · simp only [if_neg h]; exact q
    · rw [putE_new z] at ee
      by_cases lt : i < es.length
      · rw [List.getElem?_append_left lt] at ee
        exact m.is_ i e.1 e.2 (by rw [List.getElem?_map, ee]; rfl) (by rw [List.getElem?_map, ee]; rfl)
      · rw [List.getElem?_append_right (by omega)] at ee
        have l2 := (List.getElem?_eq_some_iff.mp ee).1
        simp only [List.length_singleton] at l2
        rw [show i - es.length = 0 by omega] at ee
        obtain rfl := Option.some.inj ee
        exact hk
  · rw [putE_keys] at hk'
    by_cases z : k ∈ es.map (·.1)
    · rw [if_pos z] at hk'; exact m.dp _ hk'
    · rw [if_neg z] at hk'
      rcases List.mem_append.mp hk' with hk' | hk'
      · exact m.dp _ hk'
      · rw [List.mem_singleton] at hk'; rw [hk']; exact hd
section
variable {prog : Program} {w : World} {A : Around} {E : Value → Shared → Prop} {s : Shared} {d : Addr} {es : Array DictEntry} {ks : List NestedKey} {k : NestedKey} {key : Value}
theorem nk_setOld {v : Value} {j : Nat} {Q : Unit → Shared → Prop} (hu : A.units + 8 < cLine) (hk : NestedIs s.heap k key) (hd8 : k.depth ≤ 8) (hd : DictIs s.heap d es) (he : Ents w s.heap es ks) (hj : ks[j]? = some k)
    (hQ : ∀ h', DictIs h' d (es.modify j fun e => { e with val := v }) → Heap.SameBut d s.heap h' → Q () { s with heap := h', toks := s.toks + k.draws }) : wpAny (model prog w) A (dictSet d key v) Q E s := by
  obtain ⟨o, ep, ho, hc, hdt⟩ := hd
  unfold dictSet
  try with_reducible refine wpAny_holding ?_
  refine wpAny_bind (pyHash_key k key A s _ hk (by omega) ?_)
  unfold dictSetHashed
  try with_reducible refine wpAny_holding ?_
  refine wpAny_bind (nk_find (s := { s with toks := s.toks + k.draws }) hu hk hd8 ho hdt he (fun n => absurd (List.mem_of_getElem? hj) n) fun i hi => ?_)
  obtain rfl : i = j := (List.getElem?_inj (List.getElem?_eq_some_iff.mp hi).1 he.nd).mp (hi.trans hj.symm)
  exact wpAny_bind (wpAny_rule (wpAny_bind (wpAny_updateDict (s := { s with toks := s.toks + k.draws }) ho hdt (wpAny_point (hQ _ ⟨_, ep, Heap.get?_update_self _ ho (Obj.isFreed_of_dict (Obj.data_mapDict hdt _)), hc.mapDict _, Obj.data_mapDict hdt _⟩ (Heap.SameBut.update ..))))))
end
section
variable {X : Cx} {pins : List (Addr × Obj)} {σ : St} {H : Hp} {s : Shared} {A : Around} {E : Value → Shared → Prop} {d : Addr} {es : List En} {k : NestedKey} {y v : V} {u r : Value}
/-- d[k] = v by the machine's own store -/
theorem dx_dictSetS {Q : Unit → Shared → Prop} (hu : A.units + 8 < cLine) (I : Inv X pins σ H s) (hd : H d = some (DE X.w d es)) (m : MixE H es) (hk : KeyH H k y) (hd8 : k.depth ≤ 8) (hz : es.length < sizeLine) (ry : RelV y u) (rv : RelV v r)
    (h : ∀ (h' : Heap) (t : Nat), Heap.SameBut d s.heap h' → Inv X pins σ (upd H d (DE X.w d (putE es k y v))) { s with heap := h', toks := t } → Q () { s with heap := h', toks := t }) : wpAny (model X.prog X.w) A (dictSet d u r) Q E s := by
  obtain ⟨hs, hl, hle, ar, hdi, hsz, al⟩ := dx_rd I.hok (.inl hd)
  have en := dx_ents I.hok m hl hsz al
  have is := hk.is I.hok ry
  have lenA : ar.size = es.length := by rw [hsz, List.length_map]
  have fin : ∀ (h' : Heap) (ar' : Array DictEntry) (t : Nat), DictIs h' d ar' → Heap.SameBut d s.heap h' → ar'.size = (putE es k y v).length → (∀ (i : Nat) (e : DictEntry) (x : En), ar'[i]? = some e → (putE es k y v)[i]? = some x → e.hash = x.1.hash X.w ∧ RelV x.2.1 e.key ∧ RelV x.2.2 e.val) → Q () { s with heap := h', toks := t } := fun h' ar' t hd' sb l' al' => by
    have he : ∃ q, h'.get? d = some q := let ⟨o, _, z, _⟩ := hd'; ⟨o, z⟩
    refine h _ _ sb (d_write I (by rw [hd]; exact True.intro) sb he (dx_new hs (by rw [List.length_map, List.length_map]) ?_ hd' (by rw [l', List.length_map]) fun i e k' p a b c => ?_))
    · rw [List.length_map]; exact Nat.le_trans (putE_length es k y v) hz
    · rw [List.getElem?_map] at b c
      obtain ⟨x, ex, rfl⟩ := Option.map_eq_some_iff.mp b
      rw [ex] at c
      obtain rfl := Option.some.inj c
      exact al' i e x a ex
  have old : ∀ (i : Nat) (e : DictEntry) (x : En), ar[i]? = some e → es[i]? = some x → e.hash = x.1.hash X.w ∧ RelV x.2.1 e.key ∧ RelV x.2.2 e.val := fun i e x a b => al i e x.1 x.2 a (by rw [List.getElem?_map, b]; rfl) (by rw [List.getElem?_map, b]; rfl)
  by_cases z : k ∈ es.map (·.1)
  · obtain ⟨j, hj⟩ := List.mem_iff_getElem?.mp z
    refine nk_setOld hu is hd8 hdi en hj fun h' hd' sb => fin h' _ _ hd' sb ?_ fun i e x a b => ?_
    · rw [Array.size_modify, lenA, putE_old z, List.length_map]
    · rw [putE_old z, List.getElem?_map] at b
      obtain ⟨x0, ex0, rfl⟩ := Option.map_eq_some_iff.mp b
      rw [Array.getElem?_modify] at a
      have same : x0.1 = k ↔ j = i := by
        rw [List.getElem?_map] at hj
        obtain ⟨xj, exj, ej⟩ := Option.map_eq_some_iff.mp hj
        constructor
        · intro q
          have e1 : (es.map (·.1))[i]? = some k := by rw [List.getElem?_map, ex0, Option.map_some, q]
          have e2 : (es.map (·.1))[j]? = some k := by rw [List.getElem?_map, exj, Option.map_some, ej]
          exact (List.getElem?_inj (List.getElem?_eq_some_iff.mp e2).1 m.nd).mp (e2.trans e1.symm)
        · intro q
          subst q
          rw [ex0] at exj
          obtain rfl := Option.some.inj exj
          exact ej
      by_cases q : j = i
      · rw [if_pos q] at a
        obtain ⟨e0, ee0, rfl⟩ := Option.map_eq_some_iff.mp a
        obtain ⟨h1, h2, _⟩ := old i e0 x0 ee0 ex0
        simp only [if_pos (same.mpr q)]
        exact ⟨h1, h2, rv⟩
      · rw [if_neg q] at a
        simp only [if_neg (fun t => q (same.mp t))]
        exact old i e x0 a ex0
  · refine nk_setNew hu is hd8 hdi en z (by rw [hsz, List.length_map]; omega) fun h' hd' sb => fin h' _ _ hd' sb ?_ fun i e x a b => ?_
    · rw [Array.size_push, lenA, putE_new z, List.length_append]; rfl
    · rw [putE_new z] at b
      by_cases lt : i < es.length
      · rw [List.getElem?_append_left lt] at b
        rw [Array.getElem?_push_lt (by rw [lenA]; exact lt)] at a
        exact old i e x (by rw [Array.getElem?_eq_getElem (by rw [lenA]; exact lt)]; exact a) b
      · rw [List.getElem?_append_right (by omega)] at b
        have l2 := (List.getElem?_eq_some_iff.mp b).1
        simp only [List.length_singleton] at l2
        have e1 : i = ar.size := by omega
        subst e1
        rw [Array.getElem?_push_size] at a
        rw [show ar.size - es.length = 0 by omega] at b
        obtain rfl := Option.some.inj a
        obtain rfl := Option.some.inj b
        exact ⟨rfl, ry, rv⟩
theorem dx_dictSet {Q : Unit → Shared → Prop} (hu : A.units + 8 < cLine) (I : Inv X pins σ H s) (hd : H d = some (DE X.w d es)) (m : MixE H es) (hk : KeyH H k y) (hd8 : k.depth ≤ 8) (hz : es.length < sizeLine) (ry : RelV y u) (rv : RelV v r)
    (h : ∀ s', Inv X pins σ (upd H d (DE X.w d (putE es k y v))) s' → Q () s') : wpAny (model X.prog X.w) A (dictSet d u r) Q E s := dx_dictSetS hu I hd m hk hd8 hz ry rv fun _ _ _ I' => h _ I'
end
end L2.MK
/-! {k: v for .. in ..}, keys of any kind -/
namespace L2.MK
open PySem PySem.Spec PyProof.Rows SeqAt
/-- what a turn stores -/
def StoX (w : World) (D : Addr) (y z : V) (H : Hp) (Nx : Hp → Prop) : Prop := ∃ (es : List En) (k : NestedKey), H D = some (DE w D es) ∧ MixE H es ∧ KeyH H k y ∧ k.depth ≤ 8 ∧ es.length < sizeLine ∧ Nx (upd H D (DE w D (putE es k y z)))
def DcXW (w : World) (J : It) (g : TG) (tt : TT) (tk tv : TE) (vs : List Nat) (σ : St) (H1 : Hp) (Q : Addr → Hp → Prop) : Prop := ∀ D, H1 D = none → ∃ W : Nat → Nat → Hp → Prop, (∃ m, W 0 m (upd H1 D (DE w D []))) ∧ ∀ i m H, W i m H →
  (J.stop i H ∧ Q D H) ∨ (J.go i H ∧ ∃ Nx : Hp → Prop, (∀ H', Nx H' → ∃ m', m' < m ∧ W (i + 1) m' H') ∧ ∀ x H', J.yld i H x H' → g x (wipe σ vs) H' fun σ2 H2 => wipe σ2 vs = wipe σ vs ∧ tt σ2 H2 fun b H3 =>
    if b = true then tk σ2 H3 fun y H4 => tv σ2 H4 fun z H5 => StoX w D y z H5 Nx else Nx H3)
def tDcX (w : World) (wi : TI) (g : TG) (tt : TT) (tk tv : TE) (vs : List Nat) : TE := fun σ H Q => wi σ H fun J H1 => DcXW w J g tt tk tv vs σ H1 fun D H => Q (.ref D) H
section
variable {X : Cx}
theorem dx_empty {P : Program} {w : World} {H : Hp} {h : Heap} (hb : sysModules < h.objs.size) : ObjOk P w H (h.push { cls := .type "dict", data := .dict #[] }) h.objs.size (DE w h.objs.size []) :=
  dx_new (beq_eq_false_iff_ne.mpr (Ne.symm (Nat.ne_of_lt hb))) rfl (Nat.zero_le _) (es := #[]) ⟨_, 0, Heap.get?_push_size _ rfl, ⟨rfl, rfl, rfl⟩, rfl⟩ rfl (fun i e k p a => by simp at a)
theorem pe_dcX {w : World} (hw : X.w = w) {kx vx tg iter : Expr} {ifs : List Expr} {scope : Scope} {own : List (Str × Nat)} {pos : Pos} {wi : TI} {g : TG} {tt : TT} {tk tv : TE} (hu : X.A.units + 8 < cLine) (calm : X.calm = true) (unlike : X.N.Nodup) (walked : PI X tg iter wi) (fits : BlkOk X.N X.env.scope scope own)
    (target : ∀ (s : Shared) (H : Hp) (C : Addr) (cl : List (Str × Addr)) (fp : List Addr), PG (X.blk s H scope (compEnvC scope cl C X.env) fp) tg g) (tests : ∀ (s : Shared) (H : Hp) (C : Addr) (cl : List (Str × Addr)) (fp : List Addr), PTs (X.blk s H scope (compEnvC scope cl C X.env) fp) ifs tt)
    (keyE : ∀ (s : Shared) (H : Hp) (C : Addr) (cl : List (Str × Addr)) (fp : List Addr), PE (X.blk s H scope (compEnvC scope cl C X.env) fp) kx tk)
    (valueE : ∀ (s : Shared) (H : Hp) (C : Addr) (cl : List (Str × Addr)) (fp : List Addr), PE (X.blk s H scope (compEnvC scope cl C X.env) fp) vx tv) (folded : ∀ x, foldedSetIterable iter X.env x = pure x := by intro _; rfl) :
    PE X (.DictComp kx vx [⟨tg, iter, ifs, 0⟩] scope pos) (tDcX w wi g tt tk tv (own.map (·.2))) := by
  subst hw
  refine ⟨fun pins s σ H Q I reading => ?_⟩
  rw [arm_eval_DictComp]
  have cells : ∀ y ∈ scope.names, y.2 = .free → ∃ c, X.env.cells.lookup y.1 = some c := fun y hy e => (fits.free y hy e).elim (fun k => I.ok.has _ (.inl k)) fun k => I.ok.has _ (.inr k)
  refine wpAny_comprehension_free rfl folded (closure_ok cells) fits.kind (fun y hy e => by rw [fits.uniq y hy, e]) (thn (walked.run pins s σ H _ I reading) fun xv s1 hx => thn hx fun itv sA ⟨it, fp, tn, J, HA, eit, IA, T, stA, offA, turns⟩ => ?_)
  subst eit
  refine wpAny_newObj_type (newEnv_comp ?_)
  have newD : HA sA.heap.objs.size = none := IA.hok.fresh (Nat.le_refl _)
  obtain ⟨W, ⟨m0, w0⟩, turn⟩ := turns _ newD
  have IB : Inv X pins σ (upd HA sA.heap.objs.size (DE X.w sA.heap.objs.size [])) { sA with heap := sA.heap.push { cls := .type "dict", data := .dict #[] } } := IA.laid (t' := sA.toks) (fun b o e => Heap.get?_push_of_some _ e) (Nat.le_refl _) (dx_empty IA.big)
  generalize eD : sA.heap.objs.size = D at newD turn w0 IB ⊢
  generalize eB : ({ sA with heap := sA.heap.push { cls := .type "dict", data := .dict #[] } } : Shared) = sB at IB
  have hB : sB.heap = sA.heap.push { cls := .type "dict", data := .dict #[] } := by rw [← eB]
  have offB : ∀ b ∈ fp, FpOk X pins (upd HA D (DE X.w D [])) b ∧ b < sB.heap.objs.size := fun b hb => by
    obtain ⟨o, e, _⟩ := T.obj _ _ stA b hb
    have lt : b < sA.heap.objs.size := Heap.lt_size e
    exact ⟨⟨by rw [upd_ne (by rw [← eD]; exact Nat.ne_of_lt lt)]; exact (offA b hb).1, (offA b hb).2⟩, by rw [hB, Heap.size_push]; exact Nat.lt_succ_of_lt lt⟩
  have stB : tn 0 sB.heap := T.keep _ _ _ stA fun b _ o e => by rw [hB]; exact Heap.get?_push_of_some _ e
  have IC := block_start IB fits unlike offB
  have rg := target sB (upd HA D (DE X.w D [])) sB.heap.objs.size (cellsFrom (sB.heap.objs.size + 1) scope.names (cloFrom X.env.cells scope.names [])) fp
  have rt := tests sB (upd HA D (DE X.w D [])) sB.heap.objs.size (cellsFrom (sB.heap.objs.size + 1) scope.names (cloFrom X.env.cells scope.names [])) fp
  have rk := keyE sB (upd HA D (DE X.w D [])) sB.heap.objs.size (cellsFrom (sB.heap.objs.size + 1) scope.names (cloFrom X.env.cells scope.names [])) fp
  have rv := valueE sB (upd HA D (DE X.w D [])) sB.heap.objs.size (cellsFrom (sB.heap.objs.size + 1) scope.names (cloFrom X.env.cells scope.names [])) fp
  show codeAny _ _ (.compStart (.DictComp kx vx [⟨tg, iter, ifs, 0⟩] scope pos) 0 (.ref it) (.ref D) (compEnvC scope (cellsFrom (sB.heap.objs.size + 1) scope.names (cloFrom X.env.cells scope.names [])) sB.heap.objs.size X.env)) (compPost (model X.prog X.w) X.A X.xe _ _ (.ref D) sB.heap.objs.size) { sB with heap := pushCells (sB.heap.push { cls := .type "dict", data := .dict #[] }) scope.names }
  have offC : ∀ b ∈ fp, (upd HA D (DE X.w D [])) b = none := fun b hb => (offB b hb).1.1
  generalize eE : compEnvC scope (cellsFrom (sB.heap.objs.size + 1) scope.names (cloFrom X.env.cells scope.names [])) sB.heap.objs.size X.env = ce at IC rg rt rk rv ⊢
  have locC : ce.locals = sB.heap.objs.size := by rw [← eE]; rfl
  generalize upd HA D (DE X.w D []) = HB at IB IC rg rt rk rv w0 offB offC
  generalize eC' : ({ sB with heap := pushCells (sB.heap.push { cls := .type "dict", data := .dict #[] }) scope.names } : Shared) = sC at IC ⊢
  have stC : tn 0 sC.heap := T.keep _ _ _ stB fun b _ o e => by rw [← eC']; exact pushCells_keeps _ _ _ _ (Heap.get?_push_of_some _ e)
  have still : ∀ {σ' : St} {H' : Hp} {s' : Shared}, Inv (X.blk sB HB scope ce fp) [] σ' H' s' → (∀ b ∈ fp, H' b = none) → ∀ b ∈ fp, FpOk (X.blk sB HB scope ce fp) [] H' b := fun I' free b hb =>
    ⟨free b hb, (I'.ok.exf b hb).1, I'.ok.exfs b hb, .inl hb, fun x c e => (I'.ok.exf b hb).2 x c e, fun p hp => by rcases List.mem_append.mp (show p ∈ ([] : List (Addr × Obj)) ++ [] from hp) with z | z <;> cases z⟩
  refine (fun body => codeAny_compStart_dict body (T.self X.A 0 _ _ _ stC body)) ?_
  · refine compLoop_anyD (fun n s' => ∃ i H', Inv (X.blk sB HB scope ce fp) [] (wipe σ (own.map (·.2))) H' s' ∧ tn i s'.heap ∧ (∀ b ∈ fp, H' b = none) ∧ W i n H') ?_ m0 ⟨0, HB, IC, stC, offC, w0⟩
    rintro n s5 ⟨i, H5, I5, st5, free5, w5⟩
    rcases turn i n H5 w5 with ⟨ends, goal⟩ | ⟨goes, Nx, lower, step⟩
    · refine thnF (T.done (X.blk sB HB scope ce fp) rfl rfl rfl calm i [] s5 _ H5 (fun _ _ => False) I5 (still I5 free5) st5 ends) fun r s6 ⟨hr, I6⟩ => ?_
      subst hr
      obtain ⟨m, hns, _⟩ := I6.loc
      rw [show (X.blk sB HB scope ce fp).env.locals = sB.heap.objs.size from locC] at hns
      have nC : H5 sB.heap.objs.size = none := by rw [← locC]; exact I6.free
      have back : Inv X pins σ H5 s6 := IB.call' (ch := fp) I6.os I6.base I6.hok I6.bare fun b hb => let f := (offB b hb).1; ⟨f.2.2.2.1, f.2.1, f.2.2.2.2.1, f.2.2.2.2.2⟩
      obtain ⟨_, f1, f2, f3, f4, f5⟩ := IB.fpOk (Nat.le_refl _) nC
      exact ⟨m, hns, fun h'' sb => ⟨.ref D, H5, back.turned (t' := s6.toks) (fun b o hb e => (sb.2 b hb).trans e) nC f1 f3 f4 f5, rfl, goal⟩⟩
    · refine thnF (T.item (X.blk sB HB scope ce fp) rfl rfl rfl calm i [] s5 _ H5 (fun _ _ => False) I5 (still I5 free5) st5 goes) fun r s6 ⟨u, hr, h6⟩ => ?_
      subst hr
      refine thnF h6 fun _ s7 ⟨x, H7, I7, r7, y7, st7, free7⟩ => thnF (rg.run _ s7 _ H7 x u _ (I7.pinned (still I7 free7) (T.obj _ _ st7)) r7 (step x H7 y7)) fun _ s8 ⟨σ8, H8, I8, same8, q8⟩ => thnF (rt.run _ s8 σ8 H8 _ I8 q8) fun yes s9 ⟨H9, I9, q9⟩ => ?_
      have next : ∀ {s' : Shared} {H' : Hp}, Inv (X.blk sB HB scope ce fp) ([] ++ pinsAt fp s7.heap) σ8 H' s' → Nx H' → ∃ m, m < n ∧ ∃ i H', Inv (X.blk sB HB scope ce fp) [] (wipe σ (own.map (·.2))) H' s' ∧ tn i s'.heap ∧ (∀ b ∈ fp, H' b = none) ∧ W i m H' := fun {s' H'} I' nx => by
        obtain ⟨m', less, w'⟩ := lower H' nx
        have pinned : ∀ b ∈ fp, ∀ o, s7.heap.get? b = some o → s'.heap.get? b = some o ∧ H' b = none := fun b hb o e => by
          obtain ⟨z1, z2, _⟩ := I'.pin (b, o) (List.mem_append_right _ (List.mem_append_right _ (mem_pinsAt hb e)))
          exact ⟨z1, z2⟩
        refine ⟨m', less, i + 1, H', (I'.unpinned (pins := [])).weak (by rw [← same8, wipe_length]) (fun j v e => ?_), T.keep _ _ _ st7 fun b hb o e => (pinned b hb o e).1, fun b hb => ?_, w'⟩
        · rw [← same8] at e
          exact (wipe_some e).1
        · obtain ⟨o, e, _⟩ := T.obj _ _ st7 b hb
          exact (pinned b hb o e).2
      cases yes with
      | false => exact next I9 q9
      | true =>
        refine thnF (rk.run _ s9 σ8 H9 _ I9 q9) fun z sK ⟨yk, HK, IK, relK, qK⟩ => thnF (rv.run _ sK σ8 HK _ IK qK) fun z2 sV ⟨yv, HV, IV, relV, es, k, oD, mx, hk, dk, short, nx⟩ => ?_
        exact dx_dictSet (X := X.blk sB HB scope ce fp) hu IV oD mx hk dk short relK relV fun s12 I12 => next I12 nx
end
end L2.MK
/-! k in d, d[k] = v, list(d), list(d.items()), dict(pairs): keys of any kind -/
namespace L2.MK
open PySem PySem.Spec PyProof.Rows SeqAt
section
variable {X : Cx} {pins : List (Addr × Obj)} {σ : L2.St} {H : Hp} {s : Shared} {A : Around} {E : Value → Shared → Prop} {d : Addr} {es : List En} {k : NestedKey} {y v : V} {u r : Value} {o i value : Expr} {td ty tv : TE} {w : World}
theorem valE_at {j : Nat} {e : En} (nd : (es.map (·.1)).Nodup) (h : es[j]? = some e) : valE es e.1 = some e.2.2 := by
  unfold valE
  cases q : es.find? (fun x => decide (x.1 = e.1)) with
  | none => exact absurd (decide_eq_true rfl) (List.find?_eq_none.mp q e (List.mem_of_getElem? h))
  | some x =>
    have ex : x.1 = e.1 := by simpa using List.find?_some q
    obtain ⟨i, hi⟩ := List.mem_iff_getElem?.mp (List.mem_of_find?_eq_some q)
    have e1 : (es.map (·.1))[i]? = some e.1 := by rw [List.getElem?_map, hi, Option.map_some, ex]
    have e2 : (es.map (·.1))[j]? = some e.1 := by rw [List.getElem?_map, h]; rfl
    obtain rfl : i = j := (List.getElem?_inj (List.getElem?_eq_some_iff.mp e1).1 nd).mp (e1.trans e2.symm)
    rw [h] at hi
    rw [← Option.some.inj hi]; rfl
theorem valE_in {v : V} (h : valE es k = some v) : ∃ (j : Nat) (e : En), es[j]? = some e ∧ e.1 = k ∧ e.2.2 = v := by
  unfold valE at h
  obtain ⟨e, q, ev⟩ := Option.map_eq_some_iff.mp h
  obtain ⟨j, hj⟩ := List.mem_iff_getElem?.mp (List.mem_of_find?_eq_some q)
  exact ⟨j, e, hj, by simpa using List.find?_some q, ev⟩
theorem valE_mem : (valE es k).isSome = decide (k ∈ es.map (·.1)) := by
  by_cases h : k ∈ es.map (·.1)
  · rw [decide_eq_true h]
    obtain ⟨e, he, q⟩ := List.mem_map.mp h
    cases z : valE es k with
    | some v => rfl
    | none =>
      unfold valE at z
      rw [Option.map_eq_none_iff] at z
      exact absurd (decide_eq_true q) (List.find?_eq_none.mp z e he)
  · rw [decide_eq_false h]
    cases z : valE es k with
    | none => rfl
    | some v =>
      obtain ⟨j, e, he, q, _⟩ := valE_in z
      exact absurd (List.mem_map.mpr ⟨e, List.mem_of_getElem? he, q⟩) h
/-- the machine's own look -/
theorem dx_get {Q : Option Value → Shared → Prop} (hu : A.units + 8 < cLine) (I : Inv X pins σ H s) (e : Rd H d (DE X.w d es)) (m : MixE H es) (hk : KeyH H k y) (hd8 : k.depth ≤ 8) (ry : RelV y u) (hn : valE es k = none → ∀ t, Q none { s with toks := t }) (hs : ∀ v z t, valE es k = some v → RelV v z → Q (some z) { s with toks := t }) :
    wpAny (model X.prog X.w) A (dictGet d u) Q E s := by
  obtain ⟨_, hl, _, ar, ⟨ob, ep, ho, hc, hdt⟩, hz, al⟩ := dx_rd I.hok e
  refine nk_get hu (hk.is I.hok ry) hd8 ho hdt (dx_ents I.hok m hl hz al) (fun nm => hn ?_ _) fun j en a b => ?_
  · cases z : valE es k with
    | none => rfl
    | some v => have q := valE_mem (es := es) (k := k); rw [z, decide_eq_false nm] at q; cases q
  · rw [List.getElem?_map] at a
    obtain ⟨x, ex, ek⟩ := Option.map_eq_some_iff.mp a
    have ev := valE_at m.nd ex
    rw [ek] at ev
    exact hs _ _ _ ev (al j en x.1 x.2 b (by rw [List.getElem?_map, ex]; rfl) (by rw [List.getElem?_map, ex]; rfl)).2.2
theorem dx_has {Q : Bool → Shared → Prop} (hu : A.in1.units + 8 < cLine) (I : Inv X pins σ H s) (e : Rd H d (DE X.w d es)) (m : MixE H es) (hk : KeyH H k y) (hd8 : k.depth ≤ 8) (ry : RelV y u) (h : ∀ s', Inv X pins σ H s' → Q (valE es k).isSome s') : wpAny (model X.prog X.w) A (contains (.ref d) u) Q E s := by
  have hT := dx_type I e
  obtain ⟨sysn, _⟩ := dx_rd I.hok e
  unfold contains
  try with_reducible refine wpAny_holding ?_
  refine wpAny_bind (wpAny_specialOf hT slot_dict_contains.lookup ?_)
  show wpAny _ _ (if (some (Value.builtin "dict.__contains__") == some Value.none) = true then _ else _) _ E s
  rw [if_neg (by rw [beq_builtin_none]; exact Bool.false_ne_true)]
  refine wpAny_bind (wpAny_callSpecialUnlessNone?_slot (name := Str.ofString "__contains__") hT slot_dict_contains (wpAny_call_entry slot_dict_contains hT entry_dict_contains ?_ (args_dict_contains _ _)))
  show wpAny _ _ (dictGet d u >>= fun _ => _) _ _ s
  refine wpAny_bind (dx_get hu I e m hk hd8 ry (fun z t => ?_) fun v x t z _ => ?_)
  · rw [z] at h
    show wpAny _ _ (Builtin.Dict.pendingKey? d u >>= fun _ => _) _ _ _
    exact wpAny_bind (wpAny_pendingKey_other sysn (wpAny_pure ⟨_, rfl, wpAny_truthy_bool (h _ (I.tok _))⟩))
  · rw [z] at h
    exact wpAny_pure ⟨_, rfl, wpAny_truthy_bool (h _ (I.tok _))⟩
def tDInX (w : World) (neg : Bool) (ty td : TE) : TE := fun σ H Q => ty σ H fun y H1 => td σ H1 fun x H2 => ∃ (d : Addr) (es : List En) (k : NestedKey), x = .ref d ∧ Rd H2 d (DE w d es) ∧ MixE H2 es ∧ KeyH H2 k y ∧ k.depth ≤ 8 ∧ Q (.bl (xor neg (valE es k).isSome)) H2
theorem pc_dinX (hw : X.w = w) (hu : X.A.in1.units + 8 < cLine) (hi : PE X i ty) (ho : PE X o td) : PC X .In i o (tDInX w false ty td) := by
  subst hw
  refine ⟨fun pins s σ H Q I h => thn (hi.run pins s σ H _ I h) fun iv s1 ⟨y, H1, I1, ry, q1⟩ => thn (ho.run pins s1 σ H1 _ I1 q1) fun u s2 ⟨x, H2, I2, rx, d, es, k, ex, e, m, hk, dk, q2⟩ => ?_⟩
  subst ex
  cases (show u = Value.ref d from rx)
  show wpAny _ _ (do return Value.bool (← contains (.ref d) iv)) _ _ s2
  exact wpAny_bind (dx_has hu I2 e m hk dk ry fun s3 I3 => wpAny_pure ⟨.bl (valE es k).isSome, H2, I3, rfl, by simpa using q2⟩)
theorem pc_dnotinX (hw : X.w = w) (hu : X.A.in1.units + 8 < cLine) (hi : PE X i ty) (ho : PE X o td) : PC X .NotIn i o (tDInX w true ty td) := by
  subst hw
  refine ⟨fun pins s σ H Q I h => thn (hi.run pins s σ H _ I h) fun iv s1 ⟨y, H1, I1, ry, q1⟩ => thn (ho.run pins s1 σ H1 _ I1 q1) fun u s2 ⟨x, H2, I2, rx, d, es, k, ex, e, m, hk, dk, q2⟩ => ?_⟩
  subst ex
  cases (show u = Value.ref d from rx)
  show wpAny _ _ (do return Value.bool (!(← contains (.ref d) iv))) _ _ s2
  exact wpAny_bind (dx_has hu I2 e m hk dk ry fun s3 I3 => wpAny_pure ⟨.bl (!(valE es k).isSome), H2, I3, rfl, by simpa using q2⟩)
/-- d[k] = v -/
def sDPutX (w : World) (td ty tv : TE) : TS := fun D σ H => tv σ H fun v H1 => td σ H1 fun x H2 => ty σ H2 fun y H3 => ∃ (d : Addr) (es : List En) (k : NestedKey), x = .ref d ∧ H3 d = some (DE w d es) ∧ MixE H3 es ∧ KeyH H3 k y ∧ k.depth ≤ 8 ∧ es.length < sizeLine ∧ D.nx σ (upd H3 d (DE w d (putE es k y v)))
theorem dx_setItem {Q : Unit → Shared → Prop} (hu : A.in1.units + 8 < cLine) (I : Inv X pins σ H s) (hd : H d = some (DE X.w d es)) (m : MixE H es) (hk : KeyH H k y) (hd8 : k.depth ≤ 8) (hz : es.length < sizeLine) (ry : RelV y u) (rv : RelV v r) (h : ∀ s', Inv X pins σ (upd H d (DE X.w d (putE es k y v))) s' → Q () s') :
    wpAny (model X.prog X.w) A (setItem (.ref d) u r) Q E s := by
  have hT := dx_type I (.inl hd)
  unfold setItem
  try with_reducible refine wpAny_holding ?_
  refine wpAny_bind (wpAny_sequenceKey hT (by decide) (wpAny_bind (wpAny_callSpecial?_slot (name := Str.ofString "__setitem__") hT slot_dict_setitem (wpAny_call_entry slot_dict_setitem hT entry_dict_setitem ?_ (args_dict_setitem _ _ _)))))
  show wpAny _ _ (Builtin.Dict.notOrdered "__setitem__" ⟨[.ref d, u, r], []⟩ >>= fun _ => _) _ _ s
  refine wpAny_bind (wpAny_notOrdered_dict hT ?_)
  show wpAny _ _ (dictSet d u r >>= fun _ => _) _ _ s
  exact wpAny_bind (dx_dictSet hu I hd m hk hd8 hz ry rv fun s' I' => wpAny_pure ⟨.none, rfl, wpAny_pure (h _ I')⟩)
theorem ps_dputX {pos pos' : Pos} (hw : X.w = w) (hu : X.A.in1.units + 8 < cLine) (ho : PE X o td) (hi : PE X i ty) (hv : PE X value tv) (hs : swapsWith value (some (.Subscript o i pos')) pos.line X.env = pure false) : PS X (.Assign [.Subscript o i pos'] value pos) (sDPutX w td ty tv) := by
  subst hw
  refine ⟨fun pins s σ H D I h => wpAny_Assign_Subscript (thn (hv.run pins s σ H _ I h) fun r s1 ⟨v, H1, I1, rv, q1⟩ => thn (ho.run pins s1 σ H1 _ I1 q1) fun u s2 ⟨x, H2, I2, rx, q2⟩ => thn (hi.run pins s2 σ H2 _ I2 q2) fun iv s3 ⟨y, H3, I3, ry, d, es, k, ex, e, m, hk, dk, hz, q3⟩ => ?_) hs⟩
  subst ex
  cases (show u = Value.ref d from rx)
  exact dx_setItem hu I3 e m hk dk hz ry rv fun s4 I4 => ⟨σ, _, I4, q3⟩
/-! ### list(d) -/
theorem call_listX (hc : X.calm = true) : CallR X (.type "list") (fun xs H Q => ∃ (d : Addr) (es : List En), xs = [V.ref d] ∧ Rd H d (DE X.w d es) ∧ ∀ p, H p = none → Q (.ref p) (upd H p (.lst (es.map fun e => e.2.1)))) := by
  intro pins s σ H xs us Q I r h
  obtain ⟨d, es, rfl, e, q⟩ := h
  obtain ⟨u, rfl, ru⟩ := vals1 r
  cases (show u = Value.ref d from ru)
  obtain ⟨hs, hl, hle, ar, ⟨ob, ep, ho, hx, hdt⟩, hz, al⟩ := dx_rd I.hok e
  rw [List.length_map] at hz hle
  refine PySem.W.kdl_call (kdl_raw hs hx hdt) (I.ok.hd hc) ho (by omega) fun h' tk acc c kp oL it => ?_
  have la : acc.toList.length = es.length := by rw [Array.length_toList, it.1, hz]
  have rel : Vals (es.map fun e => e.2.1) acc.toList := vals_of_at (by rw [List.length_map, la]) fun j x z ex ez => by
    rw [List.getElem?_map] at ex
    obtain ⟨en, ee, rfl⟩ := Option.map_eq_some_iff.mp ex
    obtain ⟨de, hde, rfl⟩ := it.2 j z (by rw [← Array.getElem?_toList]; exact ez)
    exact (al j de en.1 en.2 hde (by rw [List.getElem?_map, ee]; rfl) (by rw [List.getElem?_map, ee]; rfl)).2.1
  exact ⟨.ref s.heap.objs.size, _, I.laid (t' := tk) (o := .lst (es.map fun e => e.2.1)) kp (Nat.le_refl _) ⟨by rw [List.length_map]; exact hle, acc.toList, c, rel, by rw [Array.toArray_toList]; exact oL⟩, rfl, q _ (I.hok.fresh (Nat.le_refl _))⟩
end
end L2.MK
/-! list(d.items()), dict(pairs): keys of any kind -/
namespace L2.MK
open PySem PySem.Spec PyProof.Rows SeqAt
section
variable {prog : Program} {w : World} {A : Around} {E : Value → Shared → Prop} {s : Shared} {d r : Addr} {es : Array DictEntry} {ep : Nat}
/-- list(view of the pairs) -/
theorem list_view {Q : Value → Shared → Prop} (calm : A.handled = none) (view : s.heap.IsItemsView r d) (raw : DT.Raw s.heap d es ep) (few : es.size ≤ sizeLine)
    (fin : ∀ (h' : Heap) (tk : Nat) (acc : Array Value) (c : Nat) (as : List Addr), (∀ b o, s.heap.get? b = some o → h'.get? b = some o) → h'.get? s.heap.objs.size = some { cls := .type "list", dict := none, data := .seq acc c, slots := #[] } → as.length = es.size → DT.Made es s.heap.objs.size h' as → acc.toList = as.map Value.ref →
      Q (.ref s.heap.objs.size) { s with heap := h', toks := tk }) : wpAny (model prog w) A (call (.type "list") [.ref r]) Q E s := by
  have rlt : r < s.heap.objs.size := let ⟨_, e, _⟩ := view; Heap.lt_size e
  have dlt : d < s.heap.objs.size := raw.lt
  refine callType_codes (Q₁ := fun obj s1 => obj = .ref s.heap.objs.size ∧ s1 = { s with heap := s.heap.push { cls := .type "list", data := .seq #[] } }) PySem.F.called_list (PySem.F.typeCall_list_1 _) PySem.F.entry_list_init (code_list_new _ ⟨rfl, rfl⟩) ?_
  rintro obj s1 ⟨rfl, rfl⟩
  have laid : (s.heap.push { cls := .type "list", data := .seq #[] }).get? s.heap.objs.size = some { cls := .type "list", data := .seq #[] } := Heap.get?_push_size _ rfl
  have push : ∀ {b : Addr} {o : Obj}, s.heap.get? b = some o → (s.heap.push { cls := .type "list", data := .seq #[] }).get? b = some o := fun e => Heap.get?_push_of_some _ e
  refine ⟨⟨_, laid, rfl⟩, PySem.F.args_list_init_2 _ _, ?_⟩
  show wpAny _ _ (do let old ← Builtin.List.listItems (.ref s.heap.objs.size); Builtin.List.listUpdate (.ref s.heap.objs.size) (fun _ => #[]); letGo old.toList.reverse; Builtin.List.listExtendWith (.ref s.heap.objs.size) (.ref r) .none) _ _ _
  unfold Builtin.List.listItems
  refine wpAny_bind (wpAny_bind (wpAny_seqItems laid rfl (wpAny_pure ?_)))
  show wpAny _ _ (updateSeq s.heap.objs.size (fun _ => #[]) >>= fun _ => letGo (#[] : Array Value).toList.reverse >>= fun _ => Builtin.List.listExtendWith (.ref s.heap.objs.size) (.ref r) .none) _ _ _
  have laid2 := Heap.get?_update_self (Obj.mapSeq (fun _ => (#[] : Array Value))) laid rfl
  have other : ∀ {b : Addr} {o : Obj}, b ≠ s.heap.objs.size → (s.heap.push { cls := .type "list", data := .seq #[] }).get? b = some o → ((s.heap.push { cls := .type "list", data := .seq #[] }).update s.heap.objs.size (Obj.mapSeq (fun _ => (#[] : Array Value)))).get? b = some o := fun nb e => (Heap.get?_update_other _ _ (Ne.symm nb)).trans e
  refine wpAny_bind (wpAny_updateSeq laid rfl (wpAny_bind (wpAny_letGo ?_)))
  refine DT.extI (prog := prog) (w := w) (A := A.in1) (s := { s with heap := (s.heap.push { cls := .type "list", data := .seq #[] }).update s.heap.objs.size (Obj.mapSeq (fun _ => (#[] : Array Value))) }) calm (let ⟨o, e, x⟩ := view; ⟨o, other (Nat.ne_of_lt rlt) (push e), x⟩) (raw.at' fun o e => other (Nat.ne_of_lt dlt) (push e)) _ (Nat.ne_of_gt rlt) (Nat.ne_of_lt dlt) .none _ laid2 (fun h' tk acc c as keep oL la mk ea => ?_) few
  exact ⟨rfl, fin h' tk acc c as (fun b o e => keep b o (Nat.ne_of_lt (Heap.lt_size e)) (other (Nat.ne_of_lt (Heap.lt_size e)) (push e))) oL la (mk.low (Nat.le_of_lt (Heap.lt_size laid2))) ea⟩
end
section
variable {X : Cx} {pins : List (Addr × Obj)} {σ : L2.St} {H : Hp} {s : Shared} {e : Expr} {te : TE} {p apos cpos pos : Pos} {w : World}
/-- the pairs, each a new tuple, in a new list -/
def tItemsX (w : World) (te : TE) : TE := fun σ H Q => te σ H fun x H1 => ∃ (d : Addr) (es : List En), x = .ref d ∧ Rd H1 d (DE w d es) ∧ ∀ (H' : Hp) (q : Addr) (ts : List Addr), Same H1 H' → H1 q = none → H' q = some (.lst (ts.map V.ref)) → Paired (fun (t : Addr) (x : En) => H1 t = none ∧ H' t = some (.tup [x.2.1, x.2.2])) ts es → Q (.ref q) H'
theorem nth_pair {α β : Type} {R : α → β → Prop} : ∀ (xs : List α) (ys : List β), xs.length = ys.length → (∀ (i : Nat) (x : α) (y : β), xs[i]? = some x → ys[i]? = some y → R x y) → Paired R xs ys
  | [], [], _, _ => .nil
  | x :: xs, y :: ys, l, h => .cons (h 0 x y rfl rfl) (nth_pair xs ys (by simpa using l) fun i a b ea eb => h (i + 1) a b ea eb)
  | [], _ :: _, l, _ => by simp at l
  | _ :: _, [], l, _ => by simp at l
theorem pe_itemsX (hw : X.w = w) (hc : X.calm = true) (he : PE X e te) (hg : Gl X "list") (hm : X.mg "list" = none) (hv : bootBuiltins "list" = some (.type "list")) (hbase : attributeBase e "items" X.env (eval e X.env) = eval e X.env := by rfl) (hline : (apos.endLine == cpos.line) = true := by rfl)
    (hs : starEach [.Call (.Attribute e "items" apos) [] [] cpos] X.env = (false, eval (.Call (.Attribute e "items" apos) [] [] cpos) X.env) :: starEach [] X.env := by rfl) :
    PE X (.Call (.Name "list" p) [.Call (.Attribute e "items" apos) [] [] cpos] [] pos) (tItemsX w te) := by
  subst hw
  refine ⟨fun pins s σ H Q I reading => wpAny_Call_Name_kw (ld_blt I hg hm hv (PyProof.Rows.callWith_type1 ?_ hs rfl))⟩
  rw [hs]
  show wpAny _ _ (spliced ((false, eval (.Call (.Attribute e "items" apos) [] [] cpos) X.env) :: backTo pos (starEach [] X.env))) _ _ s
  refine Calls.spliced_cons (wpAny_Call_method (T := "dict") (id := "dict.items") hbase rfl hline F.plainAttrs_dict F.slot_dict_items F.type_dict_items (thn (he.run pins s σ H _ I reading) fun u sA ⟨x, HA, IA, rx, d, es, ex, rd, q⟩ => ?_))
  subst ex
  cases (show u = Value.ref d from rx)
  have hT := dx_type IA rd
  obtain ⟨sysn, hl, hle, ar, ⟨ob, ep, ho, hx, hdt⟩, hz, al⟩ := dx_rd IA.hok rd
  rw [List.length_map] at hle hz
  refine ⟨hT, dx_noDict IA rd, ?_⟩
  have IB : Inv X pins σ HA { sA with heap := sA.heap.push { cls := .type "dict_items", data := .fields #[.ref d] } } := IA.kept (t' := sA.toks) fun b ob q => Heap.get?_push_of_some _ q
  show wpAny _ _ (callWith cpos (.builtin "dict.items") [.ref d] [] []) _ X.xe sA
  refine method_meetsIn F.slot_dict_items F.entry_dict_items rfl (PySem.evalArgs_none ⟨rfl, hT, F.args_dict_items_1 _, _, DT.meetsItems (ep := ep) sysn, ⟨⟨ob, ho, hx, hdt⟩, ?_⟩⟩)
  refine Calls.spliced_nil (list_view (ep := ep) (es := ar) (d := d) (IA.ok.hd hc) ⟨_, Heap.get?_push_size _ rfl, rfl, rfl⟩ ⟨ob, Heap.get?_push_of_some _ ho, hx, hdt⟩ (by omega) fun h' tk acc c as keep oL la mk ea => ?_)
  generalize ({ sA with heap := sA.heap.push { cls := .type "dict_items", data := .fields #[.ref d] } } : Shared) = sB at IB keep oL mk
  have low : ∀ t ∈ as, sB.heap.objs.size < t := mk.above
  have unlike : as.Nodup := List.Pairwise.imp (fun {a b} (h : a < b) => Nat.ne_of_lt h) mk.rise
  have newS : HA sB.heap.objs.size = none := IB.hok.fresh (Nat.le_refl _)
  have newT : ∀ t ∈ as, HA t = none := fun t ht => IB.hok.fresh (Nat.le_of_lt (low t ht))
  have lae : as.length = es.length := by rw [la, hz]
  have relS : Vals (as.map V.ref) acc.toList := by rw [ea]; exact LiI.vals_refs as
  have IC : Inv X pins σ (upd HA sB.heap.objs.size (.lst (as.map V.ref))) { sB with heap := h', toks := tk } := IB.laid (t' := tk) keep (Nat.le_refl _) ⟨by rw [List.length_map, lae]; exact hle, acc.toList, c, relS, by rw [Array.toArray_toList]; exact oL⟩
  obtain ⟨HD, ID, grow, at_⟩ := DX.takeT (P := fun t vs => ∀ (j : Nat) (x : En), as[j]? = some t → es[j]? = some x → vs = [x.2.1, x.2.2]) IB as _ IC unlike fun t ht => by
    refine ⟨Nat.le_of_lt (low t ht), by rw [upd_ne (Nat.ne_of_gt (low t ht))]; exact newT t ht, ?_⟩
    obtain ⟨j, hj⟩ := List.mem_iff_getElem?.mp ht
    have lt : j < es.length := by rw [← lae]; exact (List.getElem?_eq_some_iff.mp hj).1
    obtain ⟨de, hde, obT⟩ := mk.pairs j t hj
    obtain ⟨_, r1, r2⟩ := al j de es[j].1 es[j].2 hde (by rw [List.getElem?_map, List.getElem?_eq_getElem lt]; rfl) (by rw [List.getElem?_map, List.getElem?_eq_getElem lt]; rfl)
    refine ⟨[es[j].2.1, es[j].2.2], fun i x e1 e2 => ?_, fun H2 => ⟨by show 2 ≤ sizeLine; decide, [de.key, de.val], .cons r1 (.cons r2 .nil), ⟨_, obT, rfl, _, rfl⟩⟩⟩
    obtain rfl : i = j := (List.getElem?_inj (List.getElem?_eq_some_iff.mp e1).1 unlike).mp (e1.trans hj.symm)
    rw [List.getElem?_eq_getElem lt] at e2
    rw [← Option.some.inj e2]
  have same : Same HA HD := fun b o z => grow b o (by rw [upd_ne (ne_of_none z newS)]; exact z)
  refine ⟨.ref _, HD, ID, rfl, q HD _ as same newS (grow _ _ upd_same) (nth_pair as es lae fun i t x e1 e2 => ⟨newT t (List.mem_of_getElem? e1), ?_⟩)⟩
  obtain ⟨vs, pv, ot⟩ := at_ t (List.mem_of_getElem? e1)
  rw [ot, pv i x e1 e2]
end
end L2.MK
/-! dict(pairs): keys of any kind -/
namespace L2.MK
open PySem PySem.Spec PyProof.Rows SeqAt
def putsE (acc rest : List En) : List En := rest.foldl (fun a x => putE a x.1 x.2.1 x.2.2) acc
theorem putsE_length : ∀ (rest acc : List En), (putsE acc rest).length ≤ acc.length + rest.length
  | [], acc => Nat.le_refl _
  | x :: rest, acc => by
    have h1 := putsE_length rest (putE acc x.1 x.2.1 x.2.2)
    have h2 := putE_length acc x.1 x.2.1 x.2.2
    show (putsE (putE acc x.1 x.2.1 x.2.2) rest).length ≤ _
    rw [List.length_cons]
    omega
section
variable {X : Cx} {pins : List (Addr × Obj)} {σ : L2.St} {H : Hp} {A : Around}
theorem sqT_keep {K : PySem.W.Frag} {H H' : Hp} {a : Addr} {xs : List V} (h : SqT K H a xs) (s : Same H H') : SqT K H' a xs := h.imp (fun r => r.imp (s _ _) fun ⟨o, e⟩ => ⟨o, s _ _ e⟩) id
theorem new_keeps {H : Hp} {p : Addr} {o : HO} (n : H p = none) : Same H (upd H p o) := fun c u z => by rw [upd_ne (ne_of_none z n)]; exact z
/-- what is known of a pair -/
structure PairX (K : PySem.W.Frag) (H : Hp) (b : Addr) (x : En) : Prop where
  t : SqT K H b [x.2.1, x.2.2]
  k : KeyH H x.1 x.2.1
  d : x.1.depth ≤ 8
theorem PairX.same {K : PySem.W.Frag} {H H' : Hp} {b : Addr} {x : En} (h : PairX K H b x) (s : Same H H') : PairX K H' b x := ⟨sqT_keep h.t s, h.k.mono fun _ _ e => s _ _ e, h.d⟩
theorem upd_walk {R : Result → Shared → Prop} {S it l : Addr} {bs : List Addr} {res : Value} (calm : A.handled = none) (hu : A.in1.units + 8 < cLine) (newS : H S = none) (newI : H it = none) (apart : it ≠ S) (il : l ≠ it) (ol : SqL X.K H l (bs.map V.ref))
    (off : it ≠ X.env.locals ∧ (it ∈ X.ex ∨ X.s_0.heap.objs.size ≤ it) ∧ (∀ (x : Str) (c : Addr), X.env.cells.lookup x = some c → c ≠ it) ∧ ∀ p ∈ X.pn ++ pins, p.1 ≠ it) :
    ∀ (rest : List En) (i : Nat) (acc : List En) (ix : Int) (t : Tok) (s : Shared), bs.length = i + rest.length → acc.length + rest.length ≤ sizeLine → (∀ (j : Nat) (x : En), rest[j]? = some x → ∃ b, bs[i + j]? = some b ∧ PairX X.K H b x) → s.heap.IsListIter it l i →
      MixE H acc → Inv X pins σ (upd H S (DE X.w S acc)) s → (∀ s', Inv X pins σ (upd H S (DE X.w S (putsE acc rest))) s' → R (.ok (.ret res)) s') → codeAny (model X.prog X.w) A (.builtin "dict.update.loop" ⟨[.ref S, .ref it, .int ix t, res], []⟩) R s := by
  have grow : ∀ es : List En, Same H (upd H S (DE X.w S es)) := fun es => new_keeps newS
  intro rest
  induction rest with
  | nil =>
    intro i acc ix t s len short pr iter mix I fin
    obtain ⟨its, rv, ls, _⟩ := I.list ((grow acc).seq ol)
    obtain rfl := refs_at rv
    refine codeAny_builtin ud_entry ?_
    rw [Around.under_plainId ud_plain _]
    show wpAny _ A.in1 (pyNext (.ref it) >>= fun _ => _) _ _ s
    refine wpAny_bind (wpAny_pyNext_list_end (A := A.in1) calm iter ls.isList (Array.getElem?_eq_none (by simp at len; simp [len])) fun h' ext => ?_)
    show wpAny _ A.in1 (Builtin.Dict.addKeywords S [] >>= fun _ => _) _ _ _
    refine wpAny_bind (wpAny_pure (wpAny_pure ?_))
    exact (fin _ (I.turned (t' := s.toks) (fun b ob hb e => ext b ob hb e) (by rw [upd_ne apart]; exact newI) off.1 off.2.1 off.2.2.1 off.2.2.2))
  | cons x rest more =>
    intro i acc ix t s len short pr iter mix I fin
    rw [List.length_cons] at len short
    obtain ⟨b, eb, px⟩ := pr 0 x rfl
    rw [Nat.add_zero] at eb
    obtain ⟨its, rv, ls, _⟩ := I.list ((grow acc).seq ol)
    obtain rfl := refs_at rv
    refine codeAny_builtin ud_entry ?_
    rw [Around.under_plainId ud_plain _]
    show wpAny _ A.in1 (pyNext (.ref it) >>= fun _ => _) _ _ s
    refine wpAny_bind (wpAny_pyNext_list_item (x := .ref b) iter ls.isList (by simp [eb]) fun h1 iter1 same1 => ?_)
    have I1 : Inv X pins σ (upd H S (DE X.w S acc)) { s with heap := h1 } := I.turned (t' := s.toks) (fun c ob hb e => (same1.2 c hb).trans e) (by rw [upd_ne apart]; exact newI) off.1 off.2.1 off.2.2.1 off.2.2.2
    have px1 := px.same (grow acc)
    obtain ⟨ws, rw_, tup, _⟩ := I1.tuple px1.t
    obtain ⟨u, r, rfl, ru, rr⟩ := vals2 rw_
    obtain ⟨o, ho, hcls, n, hdat⟩ := id tup
    show wpAny _ A.in1 (holding [Value.ref b] _ >>= fun _ => _) _ _ _
    refine wpAny_bind (wpAny_holding (wpAny_bind (wpAny_tryCatch ?_)))
    unfold Builtin.Dict.pairItems
    refine wpAny_bind (wpAny_typeOf (T := "tuple") ⟨o, ho, hcls⟩ ?_)
    rw [if_pos (by first | decide | rfl | simp)]
    refine wpAny_bind (wpAny_seqItems ho hdat (wpAny_pure ?_))
    show wpAny _ A.in1 (holding [u, r] (dictSet S u r)) _ _ _
    refine wpAny_holding (dx_dictSetS hu I1 upd_same (mix.mono fun a vs e => grow acc _ _ e) px1.k px.d (by omega) ru rr fun h2 t2 same2 I2 => ?_)
    rw [upd_upd] at I2
    refine wpAny_pure ⟨plainId_quiet ud_plain _, more (i + 1) (putE acc x.1 x.2.1 x.2.2) (ix + 1) 0 _ (by omega) (by have := putE_length acc x.1 x.2.1 x.2.2; omega) (fun j y e => ?_) (iter1.at fun ob e => same2.extBut it ob apart e) (mix.put px.k px.d) I2 fin⟩
    obtain ⟨b', e', p'⟩ := pr (j + 1) y (by simpa using e)
    exact ⟨b', by rw [show i + 1 + j = i + (j + 1) by omega]; exact e', p'⟩
/-- dict(xs), xs a list of pairs: later pairs win -/
theorem call_dictPX (hc : X.calm = true) (hu : X.A.in1.in1.units + 8 < cLine) : CallR X (.type "dict") (fun xs H Q => ∃ (a : Addr) (ps : List Addr) (es : List En), xs = [.ref a] ∧ SqL X.K H a (ps.map V.ref) ∧ Paired (fun b x => PairX X.K H b x) ps es ∧
    ∀ p, H p = none → MixE (upd H p (DE X.w p (putsE [] es))) (putsE [] es) → Q (.ref p) (upd H p (DE X.w p (putsE [] es)))) := by
  rintro pins s σ H xs us Q I r ⟨a, ps, es, rfl, ol, pr, q⟩
  obtain ⟨u, rfl, ru⟩ := vals1 r
  cases (show u = Value.ref a from ru)
  obtain ⟨its, rv, ⟨ob, n, ho, hcls, hnd, hdat⟩, hz⟩ := I.list ol
  rw [List.length_map] at hz
  have calm := I.ok.hd hc
  have lp : ps.length = es.length := Paired.length pr
  refine callType_codes (Q₁ := fun obj s1 => obj = .ref s.heap.objs.size ∧ s1 = { s with heap := s.heap.push { cls := .type "dict", data := .dict #[] } }) PySem.F.kt_called_dict (PySem.F.kt_typeCall_dict_1 _) PySem.F.entry_dict_init (kt_code_dict_new _ ⟨rfl, rfl⟩) ?_
  rintro obj s1 ⟨rfl, rfl⟩
  have newS : H s.heap.objs.size = none := I.hok.fresh (Nat.le_refl _)
  have I1 : Inv X pins σ (upd H s.heap.objs.size (DE X.w s.heap.objs.size [])) { s with heap := s.heap.push { cls := .type "dict", data := .dict #[] } } := I.laid (t' := s.toks) (fun b o e => Heap.get?_push_of_some _ e) (Nat.le_refl _) (dx_empty I.big)
  have hT := dx_type I1 (.inl upd_same)
  refine ⟨hT, PySem.F.args_dict_init_2 _ _, ?_⟩
  unfold Builtin.«dict.__init__»
  refine wpAny_bind ?_
  unfold Builtin.Dict.selfAndRest
  refine wpAny_bind (wpAny_notOrdered_dict hT ?_)
  show wpAny _ _ (pure (s.heap.objs.size, [Value.ref a])) _ _ _
  refine wpAny_pure ?_
  show wpAny _ _ (Builtin.Dict.updateFrom "dict.__init__" s.heap.objs.size (.ref a) [] .none) _ _ _
  unfold Builtin.Dict.updateFrom
  have ho1 : (s.heap.push { cls := .type "dict", data := .dict #[] }).get? a = some ob := Heap.get?_push_of_some _ ho
  refine wpAny_bind (wpAny_typeOf (T := "list") ⟨ob, ho1, hcls⟩ ?_)
  rw [if_pos (by first | decide | rfl | simp)]
  refine wpAny_bind (miss_list ho1 hcls hdat hnd calm fun h1 tk1 keep1 => ?_)
  rw [if_pos (show (none : Option Value).isNone = true from rfl)]
  refine wpAny_bind (wpAny_rule ?_)
  have I2 : Inv X pins σ (upd H s.heap.objs.size (DE X.w s.heap.objs.size [])) { s with heap := h1, toks := tk1 } := I1.kept (t' := tk1) keep1
  refine wpAny_bind (wpAny_pyIter_list ⟨ob, keep1 _ _ ho1, hcls, n, hdat⟩ ?_)
  have I3 : Inv X pins σ (upd H s.heap.objs.size (DE X.w s.heap.objs.size [])) { s with heap := h1.push { cls := .type "list_iterator", data := .fields #[.ref a, .int 0 0] }, toks := tk1 } := I2.kept (t' := tk1) fun b o e => Heap.get?_push_of_some _ e
  have freeI : (upd H s.heap.objs.size (DE X.w s.heap.objs.size [])) h1.objs.size = none := I2.hok.fresh (Nat.le_refl _)
  obtain ⟨_, f1, f2, f3, f4, f5⟩ := I2.fpOk (Nat.le_refl _) freeI
  have apart : h1.objs.size ≠ s.heap.objs.size := fun z => by rw [z, upd_same] at freeI; cases freeI
  rw [upd_ne apart] at freeI
  have go := upd_walk (X := X) (pins := pins) (σ := σ) (A := X.A.in1) (R := wants (fun r s2 => r = .none ∧ EP X pins σ Q (.ref s.heap.objs.size) s2) X.xe) (S := s.heap.objs.size) (it := h1.objs.size) (l := a) (bs := ps) (res := Value.none) calm hu newS freeI apart (Nat.ne_of_lt (Heap.lt_size (keep1 _ _ ho1))) ol ⟨f1, f3, f4, f5⟩ es 0 [] 0 0
    { s with heap := h1.push { cls := .type "list_iterator", data := .fields #[.ref a, .int 0 0] }, toks := tk1 } (by rw [Nat.zero_add]; exact lp) (by rw [List.length_nil, Nat.zero_add, ← lp]; exact hz)
    (fun j x e => by
      rw [Nat.zero_add]
      have lt : j < ps.length := by rw [lp]; exact (List.getElem?_eq_some_iff.mp e).1
      obtain ⟨y, ey, py⟩ := paired_get pr (List.getElem?_eq_getElem lt)
      rw [e] at ey
      obtain rfl := Option.some.inj ey
      exact ⟨_, List.getElem?_eq_getElem lt, py⟩)
    ⟨_, Heap.get?_push_size _ rfl, rfl, rfl⟩ ⟨fun i k p e => by simp at e, List.nodup_nil, fun _ z => by cases z⟩ I3
  have mixed : ∀ (rest acc : List En) (bs : List Addr), Paired (fun b x => PairX X.K H b x) bs rest → MixE H acc → MixE H (putsE acc rest) := fun rest => by
    induction rest with
    | nil => intro acc bs _ m; exact m
    | cons x rest ih =>
      intro acc bs pr m
      cases pr with
      | cons px pr => exact ih _ _ pr (m.put px.k px.d)
  have mx := mixed es [] ps pr ⟨fun i k p e => by simp at e, List.nodup_nil, fun _ z => by cases z⟩
  have fin := go fun s' I' => ⟨rfl, .ref s.heap.objs.size, _, I', rfl, q _ newS (mx.mono fun b vs e => new_keeps newS _ _ e)⟩
  first
    | exact wpAny_pure ⟨plainId_quiet ud_plain _, fin⟩
    | exact wpAny_bind (wpAny_pure (wpAny_pure ⟨plainId_quiet ud_plain _, fin⟩))
end
end L2.MK
/-! == and != of alike dicts: keys of any kind -/
namespace L2.MK
open PySem PySem.Spec PyProof.Rows SeqAt
section
variable {X : Cx} {pins : List (Addr × Obj)} {σ : L2.St} {H : Hp} {s : Shared} {A : Around} {E : Value → Shared → Prop} {a b : Addr} {es fs : List En}
theorem dx_same {nm : String} {Q : Bool → Shared → Prop} (hu : A.units + 8 < cLine) (I : Inv X pins σ H s) (ea : Rd H a (DE X.w a es)) (eb : Rd H b (DE X.w b fs)) (ma : MixE H es) (mb : MixE H fs) (len : es.length = fs.length) (alike : ∀ e ∈ es, valE fs e.1 = some e.2.2 ∧ flatB e.2.2 = true) (h : Q true s) :
    wpAny (model X.prog X.w) A (Builtin.Dict.samePairs nm a b) Q E s := by
  obtain ⟨sa, la, _, ra, ⟨oa, epa, hoa, _, hda⟩, za, ala⟩ := dx_rd I.hok ea
  obtain ⟨sb, lb, _, rb, ⟨ob, epb, hob, _, hdb⟩, zb, alb⟩ := dx_rd I.hok eb
  have ena := dx_ents I.hok ma la za ala
  have enb := dx_ents I.hok mb lb zb alb
  rw [List.length_map] at za zb
  unfold Builtin.Dict.samePairs Builtin.Dict.showsAll
  rw [if_neg (by rw [sa]; exact Bool.false_ne_true), if_neg (by rw [sb]; exact Bool.false_ne_true)]
  refine wpAny_bind (wpAny_pure (wpAny_bind (wpAny_pure (wpAny_bind (wpAny_dictEntries hoa hda ?_)))))
  dsimp only
  refine wpAny_bind (wpAny_dictEntries hob hdb ?_)
  rw [if_neg (by simp [za, zb, len])]
  refine wpAny_bind (wpAny_dictEpoch hoa hda (wpAny_bind ?_))
  rw [Std.Legacy.Range.forIn_eq_forIn_range']
  simp only [Std.Legacy.Range.size, Nat.sub_zero, Nat.add_sub_cancel, Nat.div_one]
  refine wpAny_forIn_list _ (fun rest q s' => s' = s ∧ q = (none, ()) ∧ ∀ i ∈ rest, i < ra.size) _ ?_ ?_ _ _ ⟨rfl, rfl, fun i hi => by have := List.mem_range'_1.mp hi; omega⟩
  · rintro i rest q s' ⟨rfl, rfl, below⟩
    have lt := below i (by simp)
    have lt2 : i < es.length := by omega
    obtain ⟨_, r1, r2⟩ := ala i ra[i] es[i].1 es[i].2 (Array.getElem?_eq_getElem lt) (by rw [List.getElem?_map, List.getElem?_eq_getElem lt2]; rfl) (by rw [List.getElem?_map, List.getElem?_eq_getElem lt2]; rfl)
    obtain ⟨k1, k2⟩ := ena.is_ i ra[i] es[i].1 (Array.getElem?_eq_getElem lt) (by rw [List.getElem?_map, List.getElem?_eq_getElem lt2]; rfl)
    have dp : es[i].1.depth ≤ 8 := ma.dp _ (List.mem_map.mpr ⟨_, List.getElem_mem lt2, rfl⟩)
    obtain ⟨va, fa⟩ := alike es[i] (List.getElem_mem lt2)
    obtain ⟨j, f, ef, fk, fv⟩ := valE_in va
    have keyj : (fs.map (·.1))[j]? = some es[i].1 := by rw [List.getElem?_map, ef, Option.map_some, fk]
    refine wpAny_bind (wpAny_dictEntries hoa hda ?_)
    rw [Array.getElem?_eq_getElem lt]
    dsimp only
    refine wpAny_bind (wpAny_holding (wpAny_bind ?_))
    rw [k2]
    refine nk_find hu k1 dp hob hdb enb (fun n => absurd (List.mem_of_getElem? keyj) n) fun j' hj' => ?_
    obtain rfl : j' = j := (List.getElem?_inj (List.getElem?_eq_some_iff.mp hj').1 mb.nd).mp (hj'.trans keyj.symm)
    have ltb : j' < rb.size := by rw [zb]; exact (List.getElem?_eq_some_iff.mp ef).1
    obtain ⟨_, _, r3⟩ := alb j' rb[j'] f.1 f.2 (Array.getElem?_eq_getElem ltb) (by rw [List.getElem?_map, ef]; rfl) (by rw [List.getElem?_map, ef]; rfl)
    rw [fv] at r3
    dsimp only
    refine wpAny_bind (wpAny_dictEntries hob hdb ?_)
    rw [Array.getElem?_eq_getElem ltb]
    dsimp only
    refine wpAny_holding (eqAt_same r2 r3 fa X.prog X.w _ _ ?_)
    show wpAny _ _ (if (!true) = true then _ else _) _ _ _
    rw [if_neg (by decide)]
    refine wpAny_bind (wpAny_dictEpoch hoa hda ?_)
    rw [if_neg (by simp)]
    exact wpAny_pure ⟨rfl, rfl, fun i hi => below i (List.mem_cons_of_mem _ hi)⟩
  · rintro q s' ⟨rfl, rfl, _⟩
    exact wpAny_pure h
def rEqX (w : World) (neg : Bool) : R2 := fun x y H Q => ∃ (a b : Addr) (es fs : List En), x = .ref a ∧ y = .ref b ∧ Rd H a (DE w a es) ∧ Rd H b (DE w b fs) ∧ MixE H es ∧ MixE H fs ∧ es.length = fs.length ∧ (∀ e ∈ es, valE fs e.1 = some e.2.2 ∧ flatB e.2.2 = true) ∧ Q (.bl (!neg)) H
theorem op_eqX {w : World} (hw : X.w = w) (hu : X.A.in1.units + 8 < cLine) (hr : X.A.units < cLine) : OpR X (compareOp .Eq) (rEqX w false) := by
  subst hw
  rintro pins s σ H x y v u Q I rx ry ⟨a, b, es, fs, rfl, rfl, ea, eb, ma, mb, len, al, q⟩
  cases (show v = Value.ref a from rx)
  cases (show u = Value.ref b from ry)
  have ta := dx_type I ea
  have tb := dx_type I eb
  refine wpAny_richCompare_same_room (op := .Eq) ta tb PySem.F.slot_dict_eq (wpAny_call_entry PySem.F.slot_dict_eq ta PySem.F.entry_dict_eq ?_ (PySem.F.args_dict_eq_2 _ _)) hr
  show wpAny _ _ (Builtin.Dict.dictSlotArgs "__eq__" ⟨[.ref a, .ref b], []⟩ >>= fun _ => _) _ _ s
  refine wpAny_bind ?_
  unfold Builtin.Dict.dictSlotArgs
  refine wpAny_bind (wpAny_notOrdered_dict ta ?_)
  show wpAny _ _ (pure (Value.ref a, Value.ref b)) _ _ s
  refine wpAny_pure (wpAny_bind (wpAny_isInstance (T := "dict") tb PySem.F.sub_dict_dict ?_))
  simp only [Bool.not_true, Bool.false_eq_true, if_false]
  refine wpAny_bind (wpAny_pure (wpAny_bind (wpAny_pure (wpAny_bind (dx_same hu I ea eb ma mb len al ?_)))))
  exact wpAny_pure ⟨_, rfl, (fun x => nomatch x), ⟨.bl true, H, I, rfl, q⟩⟩
theorem op_neX {w : World} (hw : X.w = w) (hu : X.A.in1.units + 8 < cLine) (hr : X.A.units < cLine) : OpR X (compareOp .NotEq) (rEqX w true) := by
  subst hw
  rintro pins s σ H x y v u Q I rx ry ⟨a, b, es, fs, rfl, rfl, ea, eb, ma, mb, len, al, q⟩
  cases (show v = Value.ref a from rx)
  cases (show u = Value.ref b from ry)
  have ta := dx_type I ea
  have tb := dx_type I eb
  refine wpAny_richCompare_same_room (op := .NotEq) ta tb PySem.F.slot_dict_ne (wpAny_call_entry PySem.F.slot_dict_ne ta PySem.F.entry_dict_ne ?_ (PySem.F.args_dict_ne_2 _ _)) hr
  show wpAny _ _ (Builtin.Dict.dictSlotArgs "__ne__" ⟨[.ref a, .ref b], []⟩ >>= fun _ => _) _ _ s
  refine wpAny_bind ?_
  unfold Builtin.Dict.dictSlotArgs
  refine wpAny_bind (wpAny_notOrdered_dict ta ?_)
  show wpAny _ _ (pure (Value.ref a, Value.ref b)) _ _ s
  refine wpAny_pure (wpAny_bind (wpAny_isInstance (T := "dict") tb PySem.F.sub_dict_dict ?_))
  simp only [Bool.not_true, Bool.false_eq_true, if_false]
  refine wpAny_bind (wpAny_pure (wpAny_bind (wpAny_pure (wpAny_bind (dx_same hu I ea eb ma mb len al ?_)))))
  exact wpAny_pure ⟨_, rfl, (fun x => nomatch x), ⟨.bl false, H, I, rfl, q⟩⟩
end
end L2.MK
namespace L2.TB
open PySem PySem.Spec PyProof.Rows
/-! ### the spring of draws -/
structure StrmAt (H : Hp) (l ls : Addr) (cs : List Int) (g k m N : Int) : Prop where
  o : H l = some (.lst [.ref ls, .int g, .int k, .int m])
  c : H ls = some (.lst (cs.map V.int))
  ne : ls ≠ l
  g0 : 0 ≤ g
  k0 : 0 ≤ k
  k1 : k ≤ N
  m0 : 0 ≤ m
  m1 : m < 2147483647
  sz : cs.length ≤ 100
def Strm (H : Hp) (l ls : Addr) (N : Int) : Prop := ∃ cs g k m, StrmAt H l ls cs g k m N
/-- all but the spring is as it was -/
def But (l ls : Addr) (H H' : Hp) : Prop := ∀ b o, b ≠ l → b ≠ ls → H b = some o → H' b = some o
theorem But.refl (l ls : Addr) (H : Hp) : But l ls H H := fun _ _ _ _ e => e
theorem But.trans {l ls : Addr} {H H1 H2 : Hp} (a : But l ls H H1) (b : But l ls H1 H2) : But l ls H H2 := fun c o h1 h2 e => b c o h1 h2 (a c o h1 h2 e)
theorem But.of {l ls : Addr} {H H' : Hp} (a : Same H H') : But l ls H H' := fun c o _ _ e => a c o e
theorem But.upd {l ls a : Addr} {H : Hp} {o : HO} (h : a = l ∨ a = ls) : But l ls H (upd H a o) := fun b u h1 h2 e => by
  have ne : b ≠ a := by rcases h with h | h <;> (subst h; assumption)
  rw [upd_ne ne]; exact e
theorem dp_ints {K : PySem.W.Frag} {H : Hp} : ∀ cs : List Int, DpAll K H (cs.map V.int) (cs.map PyData.int)
  | [] => .nil
  | c :: cs => .cons (.int c) (dp_ints cs)
def spDraw : Sp := fun vs H Q _ => ∃ (l ls : Addr) (many N : Int), vs = [.ref l, .int many] ∧ Strm H l ls N ∧ N ≤ 1000000 ∧ 0 < many ∧ many < 1000 ∧
  ∀ H' r, 0 ≤ r → r < many → Strm H' l ls (N + 1) → But l ls H H' → Q (.int r) H'
theorem scDraw : FnScope ["stream", "many", "cell", "digit", "mixed"] ["stream", "many"] (defScope sDraw) := ⟨rfl, rfl, rfl, by decide +kernel, rfl, by decide +kernel, by decide +kernel⟩
theorem pow_nn (a : Int) (h : 0 ≤ a) : 0 ≤ a ^ (Int.toNat 5) := Int.pow_nonneg h
theorem at0 {a b c d : V} : atI [a, b, c, d] 0 = some a := rfl
theorem at1 {a b c d : V} : atI [a, b, c, d] 1 = some b := rfl
theorem at2 {a b c d : V} : atI [a, b, c, d] 2 = some c := rfl
theorem at3 {a b c d : V} : atI [a, b, c, d] 3 = some d := rfl
theorem draw_end {A B C many : Int} (h : 0 < many) : 0 ≤ A % B % many ∧ A % B % many < many :=
  ⟨Int.emod_nonneg _ (by omega), Int.emod_lt_of_pos _ h⟩
section
variable {P : Program} {w : World} {K : PySem.W.Frag} {mg : Str → Option Value} {base : Heap} {f : Addr} {fd : FuncData}
theorem ok_draw (F : Fun K "_law_draw" "_law_draw" sDraw f fd) (gI : mg "int" = none) : FnOk P w K mg base CX0 1 f fd ["stream", "many"] spDraw := by
  refine F.ok scDraw (fun vs H Q E h => by obtain ⟨l, ls, many, N, e, _⟩ := h; rw [e]; rfl) fun cdv A outer s H vs Q E hr hsp => ?_
  obtain ⟨l, ls, many, N, rfl, ⟨cs, g, k, m, S⟩, hN, h0, h1, hq⟩ := hsp
  have nd := scDraw.nd
  have hu := hu_of hr
  have hu64 := hr.units
  obtain ⟨tl, ptl, htl⟩ : ∃ t, PSs (cxOf CX0 P w K mg base ["stream", "many", "cell", "digit", "mixed"] "_law_draw" (defScope sDraw) f cdv A outer s H E).nox ((defBody sDraw).drop 2) t ∧
      ∀ (H1 : Hp) (c : Option V) (cs : List Int) (g k m : Int), StrmAt H1 l ls cs g k m (N + 1) → But l ls H H1 →
        t { nx := fun _ H' => Q .non H', rt := Q } [some (.ref l), some (.int many), c, none, none] H1 := by
    refine ⟨_, pss_cons (ps_if (pt_cmpR op_gt (pe_ix ix_list (pv 0) pe_int (fun _ _ => rfl)) pe_int (nomark _))
      (pss_cons (ps_set (i := 3) nd rfl (Or.inl rfl) (pe_op op_mod (pe_callTy call_int1 rfl gI boot_int (pa_cons (pe_ix ix_list (pv 0) pe_int (fun _ _ => rfl)) pa_nil)) (pv 1)))
      (pss_cons (ps_asg (pe_op op_fdiv (pe_ix ix_list (pv 0) pe_int (fun _ _ => rfl)) (pv 1)) (pg_sub (pv 0) pe_int set_list))
      (pss_one (ps_ret (pv 3)))))
      pss_nil)
    (pss_cons (ps_set (i := 4) nd rfl (Or.inl rfl) (pe_op op_mod (pe_callTy call_int1 rfl gI boot_int (pa_cons (pe_op op_pow (pe_op op_add (pe_op op_add (pe_ix ix_list (pv 0) pe_int (fun _ _ => rfl)) (pe_op op_mul pe_int (pe_ix ix_list (pv 0) pe_int (fun _ _ => rfl)))) pe_int) pe_int) pa_nil)) pe_int))
    (pss_one (ps_ret (pe_op op_mod (pe_op op_mod (pe_callTy call_int1 rfl gI boot_int (pa_cons (pe_op op_pow (pe_op op_add (pe_op op_add (pe_op op_mul (pv 4) pe_int) (pe_op op_mul pe_int (pe_ix ix_list (pv 0) pe_int (fun _ _ => rfl)))) pe_int) pe_int) pa_nil)) pe_int) (pv 1))))), fun H1 c cs g k m S hB => ?_⟩
    refine ⟨_, rfl, _, _, _, _, rfl, rfl, SqL.of S.o, at1, _, _, rfl, rfl, _, rfl, ite2 (fun e => ?_) (fun e => ?_)⟩
    · refine ⟨_, rfl, _, _, _, _, rfl, rfl, SqL.of S.o, at1, .inl ⟨_, rfl, ?_⟩⟩
      refine ⟨_, rfl, _, _, rfl, rfl, h0, ?_⟩
      refine ⟨_, rfl, _, _, _, _, rfl, rfl, SqL.of S.o, at1, _, rfl, _, _, rfl, rfl, ⟨h0, by omega⟩, ?_⟩
      refine ⟨_, rfl, _, _, _, _, rfl, rfl, S.o, rfl, ?_⟩
      refine ⟨_, rfl, ?_⟩
      refine hq _ _ (Int.emod_nonneg _ (by omega)) (Int.emod_lt_of_pos _ h0) ⟨cs, g / many, k, m, ⟨upd_same, ?_, S.ne, Int.ediv_nonneg S.g0 (by omega), S.k0, S.k1, S.m0, S.m1, S.sz⟩⟩ (hB.trans (But.upd (.inl rfl)))
      rw [upd_ne S.ne]; exact S.c
    · have hk := S.k1
      have hk0 := S.k0
      have hm := S.m0
      have hm1 := S.m1
      refine ⟨_, rfl, _, _, _, _, rfl, rfl, SqL.of S.o, at3, _, rfl, _, _, _, _, rfl, rfl, SqL.of S.o, at2, _, _, rfl, rfl, .inl ⟨by decide, by decide⟩, _, _, rfl, rfl, _, _, rfl, rfl, _, _, rfl, rfl, ⟨by decide, by decide, ?_⟩, ?_⟩
      · omega
      refine .inl ⟨_, rfl, _, _, rfl, rfl, (by show (0 : Int) < 2147483629; decide), ?_⟩
      have e1 := Int.emod_nonneg ((m + 7919 * k + 104729) ^ Int.toNat 5) (show (2147483629 : Int) ≠ 0 by decide)
      have e2 := Int.emod_lt_of_pos ((m + 7919 * k + 104729) ^ Int.toNat 5) (show (0 : Int) < 2147483629 by decide)
      generalize (m + 7919 * k + 104729) ^ Int.toNat 5 % 2147483629 = z at e1 e2 ⊢
      refine ⟨_, rfl, _, _, rfl, rfl, .inr ⟨by decide, by decide⟩, _, rfl, _, _, _, _, rfl, rfl, SqL.of S.o, at2, _, _, rfl, rfl, .inl ⟨by decide, by decide⟩, _, _, rfl, rfl, _, _, rfl, rfl, _, _, rfl, rfl, ⟨by decide, by decide, ?_⟩, ?_⟩
      · omega
      refine .inl ⟨_, rfl, _, _, rfl, rfl, (by show (0 : Int) < 1000000007; decide), _, rfl, _, _, rfl, rfl, h0, ?_⟩
      exact hq _ _ (Int.emod_nonneg _ (by omega)) (Int.emod_lt_of_pos _ h0) ⟨cs, g, k, m, S⟩ hB
  refine ⟨_, pss_cons (ps_asg (pe_op op_add (pe_ix ix_list (pv 0) pe_int (fun _ _ => rfl)) pe_int) (pg_sub (pv 0) pe_int set_list))
    (pss_cons (ps_if (PW.pt (pw_and (pt_cmpR op_eq (pe_ix ix_list (pv 0) pe_int (fun _ _ => rfl)) pe_int (nomark _))
        (pw_and1 (pt_cmpR (op_neD hu64) (pe_ix ix_list (pv 0) pe_int (fun _ _ => rfl)) (pe_lst pa_nil) (nomark _)))))
      (pss_cons (ps_set (i := 2) nd rfl (Or.inl rfl) (pe_bm PySem.F.plainAttrs_list PySem.F.slot_list_pop PySem.F.type_list_pop mt_popAt (pe_ix ix_list (pv 0) pe_int (fun _ _ => rfl)) (pa_cons pe_int pa_nil)))
      (pss_cons (ps_asg (pe_op op_mod (pe_callTy call_int1 rfl gI boot_int (pa_cons (pe_op op_add (pe_op op_add (pe_op op_mul (pe_ix ix_list (pv 0) pe_int (fun _ _ => rfl)) pe_int) (pv 2)) pe_int) pa_nil)) pe_int) (pg_sub (pv 0) pe_int set_list))
      (pss_one (ps_asg (pe_ifExp (pt_cmpR op_ge (pv 2) (pe_op op_pow pe_int pe_int) (nomark _)) (pv 2) pe_int) (pg_sub (pv 0) pe_int set_list)))))
      pss_nil) ptl), ?_⟩
  refine ⟨_, rfl, _, _, _, _, rfl, rfl, SqL.of S.o, at2, _, _, rfl, rfl, _, rfl, _, _, _, _, rfl, rfl, S.o, rfl, ?_⟩
  have S1 : StrmAt (upd H l (.lst [.ref ls, .int g, .int (k + 1), .int m])) l ls cs g (k + 1) m (N + 1) :=
    ⟨upd_same, by rw [upd_ne S.ne]; exact S.c, S.ne, S.g0, by have := S.k0; omega, by have := S.k1; omega, S.m0, S.m1, S.sz⟩
  have B1 : But l ls H (upd H l (.lst [.ref ls, .int g, .int (k + 1), .int m])) := But.upd (.inl rfl)
  refine ⟨_, rfl, _, _, _, _, rfl, rfl, SqL.of S1.o, at1, rfl, _, rfl, ite2 (fun e => ?_) (fun e => ?_)⟩
  · refine ⟨_, rfl, _, _, _, _, rfl, rfl, SqL.of S1.o, at0, Nat.zero_le _, fun q nq => ?_⟩
    have ql : q ≠ l := by
      intro z; rw [z, upd_same] at nq; cases nq
    have qs : q ≠ ls := by
      intro z; rw [z, upd_ne S.ne] at nq; rw [S.c] at nq; cases nq
    have S2 : StrmAt (upd (upd H l (.lst [.ref ls, .int g, .int (k + 1), .int m])) q (.lst [])) l ls cs g (k + 1) m (N + 1) :=
      ⟨by rw [upd_ne (Ne.symm ql)]; exact S1.o, by rw [upd_ne (Ne.symm qs)]; exact S1.c, S.ne, S1.g0, S1.k0, S1.k1, S1.m0, S1.m1, S1.sz⟩
    have B2 : But l ls H (upd (upd H l (.lst [.ref ls, .int g, .int (k + 1), .int m])) q (.lst [])) := B1.trans (But.of fun b o eb => by
      rw [upd_ne (ne_of_none eb nq)]; exact eb)
    refine ⟨.list (cs.map .int), .list [], .lst (SqL.of S2.c) (dp_ints cs), .lst (SqL.of upd_same) .nil, PySem.W.shaped_ints cs, by decide, ?_⟩
    cases cs with
    | nil =>
      refine ⟨_, rfl, iteF ?_⟩
      exact htl _ none [] g (k + 1) m S2 B2
    | cons c cs =>
      refine ⟨_, rfl, iteT ?_⟩
      refine ⟨_, rfl, _, _, _, _, rfl, rfl, SqL.of S2.o, at0, .inl ⟨rfl, _, SqL.of S2.c⟩, ?_⟩
      have ix0 : ixN ((c :: cs).map V.int).length 0 = some 0 := by
        simp [ixN]
      refine ⟨ls, _, 0, 0, .int c, rfl, rfl, S2.c, by decide, by decide, (ixN_seq ix0).1, rfl, ?_⟩
      have S3 : StrmAt (upd (upd (upd H l (.lst [.ref ls, .int g, .int (k + 1), .int m])) q (.lst [])) ls (.lst (cs.map V.int))) l ls cs g (k + 1) m (N + 1) :=
        ⟨by rw [upd_ne (Ne.symm S.ne)]; exact S2.o, upd_same, S.ne, S2.g0, S2.k0, S2.k1, S2.m0, S2.m1, by have := S2.sz; simp only [List.length_cons] at this; omega⟩
      have B3 := B2.trans (But.upd (l := l) (ls := ls) (a := ls) (H := upd (upd H l (.lst [.ref ls, .int g, .int (k + 1), .int m])) q (.lst [])) (o := .lst (cs.map V.int)) (.inr rfl))
      have hm0 := S.m0
      have hm1 := S.m1
      refine ⟨_, rfl, _, _, _, _, rfl, rfl, SqL.of S3.o, at3, _, _, rfl, rfl, .inl ⟨by omega, by omega⟩, _, rfl, _, _, rfl, rfl, _, _, rfl, rfl, .inl ⟨_, rfl, _, _, rfl, rfl, (by show (0 : Int) < 2147483647; decide), ?_⟩⟩
      refine ⟨_, rfl, _, _, _, _, rfl, rfl, S3.o, rfl, ?_⟩
      have S4 : StrmAt (upd (upd (upd (upd H l (.lst [.ref ls, .int g, .int (k + 1), .int m])) q (.lst [])) ls (.lst (cs.map V.int))) l (.lst [.ref ls, .int g, .int (k + 1), .int ((m * 8191 + c + 3) % 2147483647)])) l ls cs g (k + 1) ((m * 8191 + c + 3) % 2147483647) (N + 1) :=
        ⟨upd_same, by rw [upd_ne S.ne]; exact S3.c, S.ne, S3.g0, S3.k0, S3.k1, Int.emod_nonneg _ (by decide), Int.emod_lt_of_pos _ (by decide), S3.sz⟩
      have B4 := B3.trans (But.upd (l := l) (ls := ls) (a := l) (o := .lst [.ref ls, .int g, .int (k + 1), .int ((m * 8191 + c + 3) % 2147483647)]) (.inl rfl))
      refine ⟨_, rfl, _, _, rfl, rfl, ⟨by decide, by decide, by decide⟩, _, _, rfl, rfl, _, rfl, ite2 (fun e4 => ?_) (fun e4 => ?_)⟩
      · refine ⟨_, rfl, _, rfl, _, _, _, _, rfl, rfl, S4.o, rfl, ?_⟩
        have hc : (0 : Int) ≤ c := by
          have z := of_decide_eq_true e4
          have z2 : (0 : Int) ≤ 10 ^ (Int.toNat 18) := Int.pow_nonneg (by decide)
          omega
        exact htl _ (some (.int c)) cs c (k + 1) ((m * 8191 + c + 3) % 2147483647)
          ⟨upd_same, by rw [upd_ne S.ne]; exact S4.c, S.ne, hc, S4.k0, S4.k1, S4.m0, S4.m1, S4.sz⟩ (B4.trans (But.upd (.inl rfl)))
      · refine ⟨_, rfl, _, _, _, _, rfl, rfl, S4.o, rfl, ?_⟩
        exact htl _ (some (.int c)) cs 0 (k + 1) ((m * 8191 + c + 3) % 2147483647)
          ⟨upd_same, by rw [upd_ne S.ne]; exact S4.c, S.ne, by decide, S4.k0, S4.k1, S4.m0, S4.m1, S4.sz⟩ (B4.trans (But.upd (.inl rfl)))
  · refine iteF ?_
    exact htl _ none cs g (k + 1) m S1 B1
def spStart (K : PySem.W.Frag) : Sp := fun vs H Q _ => ∃ (a : Addr) (ns : List Int), vs = [.ref a] ∧ SqL K H a (ns.map V.int) ∧ ns.length ≤ 100 ∧
  ∀ H' l ls, H l = none → Same H H' → Strm H' l ls 0 → H ls = none → Q (.ref l) H'
theorem scStart : FnScope ["script"] ["script"] (defScope sStart) := ⟨rfl, rfl, rfl, by decide +kernel, rfl, by decide +kernel, by decide +kernel⟩
theorem ok_start (F : Fun K "_law_start" "_law_start" sStart f fd) (gL : mg "list" = none) : FnOk P w K mg base CX0 1 f fd ["script"] (spStart K) := by
  refine F.ok scStart (fun vs H Q E h => by obtain ⟨a, ns, e, _⟩ := h; rw [e]; rfl) fun cdv A outer s H vs Q E hr hsp => ?_
  obtain ⟨a, ns, rfl, hS, hn, hq⟩ := hsp
  refine ⟨_, pss_one (ps_ret (pe_lst (pa_cons (pe_callTy call_list_of rfl gL (by decide +kernel) (pa_cons (pv 0) pa_nil)) (pa_cons pe_int (pa_cons pe_int (pa_cons pe_int pa_nil)))))), ?_⟩
  refine ⟨_, rfl, _, _, rfl, .inl hS, fun ls hls => ⟨by rw [sizeLine_eq]; show 4 ≤ _; omega, fun l hl => ?_⟩⟩
  have ne : ls ≠ l := by
    intro z; rw [← z, upd_same] at hl; cases hl
  have hl2 : H l = none := by rw [upd_ne (Ne.symm ne)] at hl; exact hl
  exact hq _ l ls hl2 (fun b o e => by rw [upd_ne (ne_of_none e hl2), upd_ne (ne_of_none e hls)]; exact e)
    ⟨ns, 0, 0, 11, ⟨upd_same, by rw [upd_ne ne, upd_same], ne, by decide, by decide, by decide, by decide, by decide, hn⟩⟩ hls
def spPick (K : PySem.W.Frag) : Sp := fun vs H Q _ => ∃ (l ls c : Addr) (xs : List V) (N : Int), vs = [.ref l, .ref c] ∧ Strm H l ls N ∧ N ≤ 1000000 ∧
  c ≠ l ∧ c ≠ ls ∧ H c = some (.lst xs) ∧ 0 < xs.length ∧ xs.length < 1000 ∧
  ∀ H' x, x ∈ xs → Strm H' l ls (N + 1) → But l ls H H' → Q x H'
theorem scPick : FnScope ["stream", "some"] ["stream", "some"] (defScope sPick) := ⟨rfl, rfl, rfl, by decide +kernel, rfl, by decide +kernel, by decide +kernel⟩
theorem ok_pick {fD : Addr} {fdD : FuncData} (F : Fun K "_law_pick" "_law_pick" sPick f fd) (FD : Fun K "_law_draw" "_law_draw" sDraw fD fdD)
    (gD : mg "_law_draw" = some (.ref fD)) (gI : mg "int" = none) (gN : mg "len" = none) : FnOk P w K mg base CX0 2 f fd ["stream", "some"] (spPick K) := by
  have G : FnOk P w K mg base CX0 1 fD fdD ["stream", "many"] spDraw := ok_draw FD gI
  have b := FD.binds (ps := ["stream", "many"]) fun _ _ _ _ _ _ us hl => match us, hl with | [_, _], _ => rfl
  refine F.ok scPick (fun vs H Q E h => by obtain ⟨l, ls, c, xs, N, e, _⟩ := h; rw [e]; rfl) fun cdv A outer s H vs Q E hr hsp => ?_
  obtain ⟨l, ls, c, xs, N, rfl, hS, hN, n1, n2, hc, h0, h1, hq⟩ := hsp
  refine ⟨_, pss_one (ps_ret (pe_ix ix_list (pv 1) (pe_call G hr rfl gD FD.kp b .nil pass0 (pa_cons (pv 0) (pa_cons (pe_callB call_len rfl gN boot_len (pa_cons (pv 1) pa_nil)) pa_nil))) (fun _ _ => rfl))), ?_⟩
  refine ⟨_, rfl, _, rfl, _, rfl, _, xs.length, rfl, .inl ⟨_, SqL.of hc, rfl⟩, ?_⟩
  refine ⟨l, ls, _, N, rfl, hS, hN, by omega, by omega, fun H' r r0 r1 S' B' => ?_⟩
  have hr2 : r.toNat < xs.length := by omega
  refine ⟨_, _, _, xs[r.toNat], rfl, rfl, SqL.of (B' c _ n1 n2 hc), ?_, hq H' _ (List.getElem_mem _) S' B'⟩
  have e : ((r.toNat : Nat) : Int) = r := by omega
  have z := atI_nat (xs := xs) (j := r.toNat) (v := xs[r.toNat]) (by simp)
  rw [e] at z
  exact z
end
end L2.TB
namespace L2.TB
open PySem PySem.Spec PyProof.Rows
theorem same_new {H : Hp} {p : Addr} {o : HO} (n : H p = none) : Same H (upd H p o) := fun c u z => by rw [upd_ne (ne_of_none z n)]; exact z
theorem Strm.same {H H' : Hp} {l ls : Addr} {N : Int} (h : Strm H l ls N) (s : Same H H') : Strm H' l ls N := by
  obtain ⟨cs, g, k, m, S⟩ := h
  exact ⟨cs, g, k, m, s _ _ S.o, s _ _ S.c, S.ne, S.g0, S.k0, S.k1, S.m0, S.m1, S.sz⟩
theorem Strm.some {H : Hp} {l ls : Addr} {N : Int} (h : Strm H l ls N) : (∃ o, H l = some o) ∧ ∃ o, H ls = some o := by
  obtain ⟨cs, g, k, m, S⟩ := h
  exact ⟨⟨_, S.o⟩, ⟨_, S.c⟩⟩
/-- what was not there is not the spring -/
theorem Strm.apart {H H' : Hp} {l ls p : Addr} {N : Int} (h : Strm H l ls N) (s : Same H H') (n : H' p = none) : p ≠ l ∧ p ≠ ls := by
  obtain ⟨⟨o, e⟩, ⟨o', e'⟩⟩ := h.some
  exact ⟨(fun z => by rw [z, s _ _ e] at n; cases n), (fun z => by rw [z, s _ _ e'] at n; cases n)⟩
def spPickS : Sp := fun vs H Q _ => ∃ (l ls : Addr) (x : Str) (N : Int), vs = [.ref l, .str x] ∧ Strm H l ls N ∧ N ≤ 1000000 ∧ 0 < x.cps.size ∧ x.cps.size < 1000 ∧
  ∀ H' c, c ∈ x.cps.toList → Strm H' l ls (N + 1) → But l ls H H' → Q (.str ⟨#[c]⟩) H'
theorem pop_perm : ∀ (l : List V) (k : Nat) (y : V), l[k]? = some y → (y :: l.eraseIdx k).Perm l
  | [], k, y, h => by simp at h
  | a :: l, 0, y, h => by
    obtain rfl : a = y := by simpa using h
    exact List.Perm.refl _
  | a :: l, k + 1, y, h => by
    have z := pop_perm l k y (by simpa using h)
    exact (List.Perm.swap a y _).trans (z.cons a)
section
variable {P : Program} {w : World} {K : PySem.W.Frag} {mg : Str → Option Value} {base : Heap} {f fD fP fM : Addr} {fd fdD fdP fdM : FuncData}
theorem ok_pickS (F : Fun K "_law_pick" "_law_pick" sPick f fd) (FD : Fun K "_law_draw" "_law_draw" sDraw fD fdD)
    (gD : mg "_law_draw" = some (.ref fD)) (gI : mg "int" = none) (gN : mg "len" = none) : FnOk P w K mg base CX0 2 f fd ["stream", "some"] spPickS := by
  have G : FnOk P w K mg base CX0 1 fD fdD ["stream", "many"] spDraw := ok_draw FD gI
  have b := FD.binds (ps := ["stream", "many"]) fun _ _ _ _ _ _ us hl => match us, hl with | [_, _], _ => rfl
  refine F.ok scPick (fun vs H Q E h => by obtain ⟨l, ls, x, N, e, _⟩ := h; rw [e]; rfl) fun cdv A outer s H vs Q E hr hsp => ?_
  obtain ⟨l, ls, x, N, rfl, hS, hN, h0, h1, hq⟩ := hsp
  refine ⟨_, pss_one (ps_ret (pe_ix ix_str (pv 1) (pe_call G hr rfl gD FD.kp b .nil pass0 (pa_cons (pv 0) (pa_cons (pe_callB call_len rfl gN boot_len (pa_cons (pv 1) pa_nil)) pa_nil))) (fun _ _ => rfl))), ?_⟩
  have hz : x.length ≤ sizeLine := by rw [sizeLine_eq]; show x.cps.size ≤ _; omega
  have hl : ((x.length : Nat) : Int) = (x.cps.size : Int) := rfl
  refine ⟨_, rfl, _, rfl, _, rfl, _, x.length, rfl, ⟨hz, rfl⟩, ?_⟩
  refine ⟨l, ls, _, N, rfl, hS, hN, by omega, by omega, fun H' r r0 r1 S' B' => ?_⟩
  have hr2 : r.toNat < x.cps.toList.length := by rw [Array.length_toList]; omega
  refine ⟨x, r, x.cps.toList[r.toNat], rfl, rfl, hz, ?_, hq H' _ (List.getElem_mem _) S' B'⟩
  have e : ((r.toNat : Nat) : Int) = r := by omega
  have z := atI_nat (xs := x.cps.toList) (j := r.toNat) (v := x.cps.toList[r.toNat]) (by simp)
  rw [e] at z
  exact z
end
end L2.TB
namespace L2.TB
open PySem PySem.Spec PyProof.Rows
theorem Strm.mono {H : Hp} {l ls : Addr} {N M : Int} (h : Strm H l ls N) (le : N ≤ M) : Strm H l ls M := by
  obtain ⟨cs, g, k, m, S⟩ := h
  exact ⟨cs, g, k, m, S.o, S.c, S.ne, S.g0, S.k0, by have := S.k1; omega, S.m0, S.m1, S.sz⟩
theorem cut_to (xs : List V) (r : Int) (h0 : 0 ≤ r) (h1 : r < xs.length + 1) : cutV xs none (some r) = xs.take r.toNat := by
  have e1 : HT.sIx xs.length 0 none = 0 := rfl
  have e2 : HT.sIx xs.length xs.length (some r) = r.toNat := by
    unfold HT.sIx
    simp only []
    rw [if_neg (show ¬ r < 0 by omega)]
    omega
  unfold cutV
  rw [e1, e2]; simp
end L2.TB
namespace L2.TB
open PySem PySem.Spec PyProof.Rows
def signsL : List Nat := (Str.ofString "abcdefghijklmnopqrstuvwxyz0123456789.").cps.toList
/-- a name that is_name lets pass -/
def NmOk (x : Str) : Prop := 1 ≤ x.cps.toList.length ∧ x.cps.toList.length ≤ 40 ∧ ∀ c ∈ x.cps.toList, c ∈ signsL
def wordL : List Nat := (Str.ofString "abcxyz019").cps.toList
def letL : List Nat := (Str.ofString "abcdefghijklmnopqrstuvwxyz").cps.toList
/-- a name as the law draws it -/
def NmS (x : Str) : Prop := NmOk x ∧ x.cps.toList.length ≤ 3
theorem word_sub : ∀ c ∈ wordL, c ∈ signsL := by decide +kernel
theorem let_sub : ∀ c ∈ letL, c ∈ signsL := by decide +kernel
theorem join_flat : ∀ cs : List Nat, TL.joinL [] (cs.map fun c => [c]) = cs
  | [] => rfl
  | [c] => rfl
  | c :: d :: r => by
    show [c] ++ ([] ++ TL.joinL [] ((d :: r).map fun c => [c])) = _
    rw [join_flat (d :: r)]; rfl
theorem join_cps (cs : List Nat) : (Txt.join (Str.ofString "") (cs.map fun c => (⟨#[c]⟩ : Str))).cps.toList = cs := by
  rw [TL.join_eq]
  have e := TL.tl_join (Str.ofString "") (cs.map fun c => (⟨#[c]⟩ : Str))
  have e2 : (cs.map fun c => (⟨#[c]⟩ : Str)).map TL.tl = cs.map fun c => [c] := by rw [List.map_map]; rfl
  have e3 : TL.tl (Str.ofString "") = [] := by decide +kernel
  rw [e2, e3, join_flat] at e
  exact e
/-- the spare names: a letter and q -/
def spare (c : Nat) : Str := (⟨#[c]⟩ : Str) ++ Str.ofString "q"
theorem spare_ok : ∀ c ∈ letL, NmS (spare c) := by
  unfold NmS NmOk
  decide +kernel
theorem spare_nd : (letL.map spare).Nodup := by decide +kernel
theorem str_inj (a b : Str) : eqV (.str a) (.str b) = decide (a = b) := by
  show (a == b) = _
  by_cases h : a = b
  · subst h; simp
  · rw [decide_eq_false h]; simpa using h
theorem inV_strs (x : Str) : ∀ xs : List Str, inV (.str x) (xs.map V.str) = decide (x ∈ xs)
  | [] => by simp [inV]
  | a :: xs => by
    have e := inV_strs x xs
    unfold inV at e ⊢
    rw [List.map_cons, List.any_cons, e, str_inj]
    by_cases h : a = x
    · subst h; simp
    · by_cases h2 : x ∈ xs
      · simp [h2]
      · simp [h, h2, Ne.symm h]
theorem flat_strs (xs : List Str) : (xs.map V.str).all flatV = true := by
  rw [List.all_map]; exact List.all_eq_true.mpr fun _ _ => rfl
/-- some spare name is not among the found ones -/
theorem spare_left (w : Str) (found : List Str) (h : found.length < 26) : ((w :: letL.map spare).filter fun x => decide (x ∉ found)) ≠ [] := by
  intro e
  have sub : ∀ x ∈ letL.map spare, x ∈ found := fun x hx => by
    by_cases h2 : x ∈ found
    · exact h2
    · have z : x ∈ (w :: letL.map spare).filter fun x => decide (x ∉ found) := List.mem_filter.mpr ⟨List.mem_cons_of_mem _ hx, by simp [h2]⟩
      rw [e] at z; cases z
  have le := List.Nodup.length_le_of_subset spare_nd (fun x hx => sub x hx)
  have e26 : (letL.map spare).length = 26 := by decide +kernel
  omega
def spNames : Sp := fun vs H Q _ => ∃ (l ls : Addr) (many N : Int), vs = [.ref l, .int many] ∧ Strm H l ls N ∧ N ≤ 900000 ∧ 0 ≤ many ∧ many ≤ 20 ∧
  ∀ H' q (ns : List Str), (ns.length : Int) = many → ns.Nodup → (∀ x ∈ ns, NmS x) → H q = none → H' q = some (.lst (ns.map V.str)) → Strm H' l ls (N + 5 * many) → But l ls H H' → Q (.ref q) H'
abbrev NN : List Str := ["stream", "many", "found", "k", "word", "spares", "sign", "letter", "one"]
theorem scNames : FnScope NN ["stream", "many"] (defScope sNames) := ⟨rfl, rfl, rfl, by decide +kernel, rfl, by decide +kernel, by decide +kernel⟩
section
variable {P : Program} {w : World} {K : PySem.W.Frag} {mg : Str → Option Value} {base : Heap} {f fD fP fM : Addr} {fd fdD fdP fdM : FuncData}
theorem ok_names (F : Fun K "_law_t_names" "_law_t_names" sNames f fd) (FP : Fun K "_law_pick" "_law_pick" sPick fP fdP) (gP : mg "_law_pick" = some (.ref fP)) (FD : Fun K "_law_draw" "_law_draw" sDraw fD fdD)
    (gD : mg "_law_draw" = some (.ref fD)) (gI : mg "int" = none) (gN : mg "len" = none) (gR : mg "range" = none) : FnOk P w K mg base CX0 3 f fd ["stream", "many"] spNames := by
  have G : FnOk P w K mg base CX0 1 fD fdD ["stream", "many"] spDraw := ok_draw FD gI
  have b := FD.binds (ps := ["stream", "many"]) fun _ _ _ _ _ _ us hl => match us, hl with | [_, _], _ => rfl
  have GP : FnOk P w K mg base CX0 2 fP fdP ["stream", "some"] spPickS := ok_pickS FP FD gD gI gN
  have bP := FP.binds (ps := ["stream", "some"]) fun _ _ _ _ _ _ us hl => match us, hl with | [_, _], _ => rfl
  refine F.ok scNames (fun vs H Q E h => by obtain ⟨l, ls, many, N, e, _⟩ := h; rw [e]; rfl) fun cdv A outer s H vs Q E hr hsp => ?_
  obtain ⟨l, ls, many, N, rfl, hS, hN, h0, h1, hq⟩ := hsp
  have nd := scNames.nd
  refine ⟨_, pss_cons (ps_set (i := 2) nd rfl (Or.inr rfl) (pe_lst pa_nil))
    (pss_cons (ps_for PassesOwn.never rfl (pi_range1 rfl gR (pa_cons (pv 1) pa_nil)) (pg_name (i := 3) nd rfl (Or.inl rfl))
      (pss_cons (ps_set (i := 4) nd rfl (Or.inl rfl) (pe_join pe_str (pe_lc (own := [("sign", 6)]) (tt := tYes) rfl nd (pi_range1 rfl gR (pa_cons (pe_op op_add pe_int (pe_call G (hr.mono (by decide)) rfl gD FD.kp b .nil pass0 (pa_cons (pv 0) (pa_cons pe_int pa_nil)))) pa_nil))
          (blkOk_by (N := NN) (sc := defScope sNames) (by decide +kernel)) (fun _ _ _ _ _ => pg_name (i := 6) nd rfl (Or.inl rfl)) (fun _ _ _ _ _ => pts_nil) (fun _ _ _ _ _ => pe_call GP hr rfl gP FP.kp bP .nil pass0 (pa_cons (pv 0) (pa_cons pe_str pa_nil))))))
      (pss_cons (ps_set (i := 5) nd rfl (Or.inl rfl) (pe_op op_cat (pe_lst (pa_cons (pv 4) pa_nil)) (pe_lc (own := [("letter", 7)]) (tt := tYes) rfl nd (pi_str pe_str) (blkOk_by (N := NN) (sc := defScope sNames) (by decide +kernel))
          (fun _ _ _ _ _ => pg_name (i := 7) nd rfl (Or.inl rfl)) (fun _ _ _ _ _ => pts_nil) (fun _ _ _ _ _ => pe_op op_add_str (pv 7) pe_str))))
      (pss_one (ps_expr (pe_bm PySem.F.plainAttrs_list PySem.F.slot_list_append PySem.F.type_list_append mt_append (pv 2) (pa_cons (pe_ix ix_list (pe_lc (own := [("one", 8)]) (tt := tTest (tOp (rIn K true) (tVar 8) (tVar 2))) rfl nd (pi_list (pv 5)) (blkOk_by (N := NN) (sc := defScope sNames) (by decide +kernel))
          (fun _ _ _ _ _ => pg_name (i := 8) nd rfl (Or.inl rfl)) (fun _ _ _ _ _ => pts_one (pt_cmpR op_notIn_seq (pv 8) (pv 2) rfl)) (fun _ _ _ _ _ => pv 8)) pe_int (fun _ _ => rfl)) pa_nil)))))))
    (pss_one (ps_ret (pv 2)))), ?_⟩
  refine ⟨Nat.zero_le _, fun q nq => ?_⟩
  have aq := hS.apart (Same.refl _) nq
  refine ⟨_, rfl, many, rfl, by omega, by omega, for_range (n := many.toNat) (fun i σ H' => ∃ ns : List Str, H' q = some (.lst (ns.map V.str)) ∧ ns.length = i ∧ ns.Nodup ∧ (∀ x ∈ ns, NmS x) ∧ Strm H' l ls (N + 5 * i) ∧ But l ls H H' ∧
    ∃ s3 s4 s5 s6 s7 s8, σ = [some (.ref l), some (.int many), some (.ref q), s3, s4, s5, s6, s7, s8])
    ⟨[], upd_same, rfl, .nil, fun x hx => by simp at hx, by simpa using hS.same (same_new nq), But.of (same_new nq), _, _, _, _, _, _, rfl⟩ ?_ ?_⟩
  · rintro i σ H1 hi ⟨ns, oq, ln, nn, nok, S1, B1, s3, s4, s5, s6, s7, s8, rfl⟩
    have hi2 : (i : Int) < 20 := by omega
    -- the word
    refine ⟨⟨_, rfl⟩, _, rfl, l, ls, 3, _, rfl, S1, by omega, by decide, by decide, fun H2 r r0 r1 S2 B2 => ?_⟩
    refine ⟨_, _, rfl, rfl, 1 + r, rfl, by omega, by omega, fun D nD => ?_⟩
    have aD := S2.apart (Same.refl _) nD
    refine lc_range (n := (1 + r).toNat) (fun j H' => ∃ cs : List Nat, H' D = some (.lst (cs.map fun c => V.str ⟨#[c]⟩)) ∧ cs.length = j ∧ (∀ c ∈ cs, c ∈ wordL) ∧ Strm H' l ls (N + 5 * i + 1 + j) ∧ But l ls H2 H')
      ⟨[], upd_same, rfl, fun c hc => by simp at hc, by simpa using S2.same (same_new nD), But.of (same_new nD)⟩ ?_ ?_
    · rintro j H3 hj ⟨cs, oD, lc, cok, S3, B3⟩
      refine ⟨rfl, ?_⟩
      refine ⟨_, rfl, l, ls, _, _, rfl, S3, by omega, by decide +kernel, by decide +kernel, fun H4 c hc S4 B4 => ?_⟩
      have oD4 := B4 _ _ aD.1 aD.2 oD
      refine ⟨_, oD4, (by rw [sizeLine_eq, List.length_map]; omega), cs ++ [c], by rw [upd_same]; simp, by simp [lc], ?_, ?_, ?_⟩
      · intro d hd
        rcases List.mem_append.mp hd with h | h
        · exact cok d h
        · obtain rfl : d = c := by simpa using h
          exact hc
      · obtain ⟨cs', g, k, m, S⟩ := S4
        exact Strm.mono ⟨cs', g, k, m, by rw [upd_ne (Ne.symm aD.1)]; exact S.o, by rw [upd_ne (Ne.symm aD.2)]; exact S.c, S.ne, S.g0, S.k0, S.k1, S.m0, S.m1, S.sz⟩ (by omega)
      · intro b o h1 h2 e
        have nb : b ≠ D := ne_of_none e nD
        rw [upd_ne nb]
        exact B4 _ _ h1 h2 (B3 _ _ h1 h2 e)
    · rintro H3 ⟨cs, oD, lc, cok, S3, B3⟩
      have lc3 : 1 ≤ cs.length ∧ cs.length ≤ 3 := by omega
      have em : (cs.map fun c => V.str ⟨#[c]⟩) = (cs.map fun c => (⟨#[c]⟩ : Str)).map V.str := by rw [List.map_map]; rfl
      rw [em] at oD
      have sums : ∀ l : List Nat, ((l.map fun c => (⟨#[c]⟩ : Str)).map (·.length)).sum = l.length := fun l => by
        induction l with
        | nil => rfl
        | cons a l ih => rw [List.map_cons, List.map_cons, List.sum_cons, ih, List.length_cons]; show 1 + _ = _; omega
      refine ⟨_, D, _, rfl, rfl, .inl (SqL.of oD), ?_, ?_⟩
      · rw [sums, List.length_map]; show cs.length + cs.length * 0 ≤ _; omega
      have hw : (Txt.join (Str.ofString "") (cs.map fun c => (⟨#[c]⟩ : Str))).cps.toList = cs := join_cps cs
      generalize Txt.join (Str.ofString "") (cs.map fun c => (⟨#[c]⟩ : Str)) = wd at hw
      have wok : NmS wd := by
        unfold NmS NmOk
        rw [hw]
        exact ⟨⟨lc3.1, by omega, fun c hc => word_sub c (cok c hc)⟩, by omega⟩
      have B13 := B2.trans B3
      have oq3 := B13 _ _ aq.1 aq.2 oq
      -- the spare names
      refine ⟨_, rfl, (by rw [sizeLine_eq]; show 1 ≤ _; omega), fun a1 n1 => ?_⟩
      have k1 := same_new (o := .lst [.str wd]) n1
      have e26 : (Str.ofString "abcdefghijklmnopqrstuvwxyz").cps.size = 26 := by decide +kernel
      have l26 : letL.length = 26 := by decide +kernel
      refine ⟨_, rfl, fun D2 nD2 => ⟨fun j m H' => m = 26 - j ∧ j ≤ 26 ∧ H' D2 = some (.lst ((letL.take j).map fun c => V.str (spare c))) ∧ Same (upd H3 a1 (.lst [.str wd])) H',
        ⟨26, rfl, by decide, upd_same, same_new nD2⟩, ?_⟩⟩
      rintro j m H4 ⟨rfl, hj, oD2, sm4⟩
      by_cases lt : j < 26
      · refine .inr ⟨(by show j < _; rw [e26]; exact lt), fun H' => H' D2 = some (.lst ((letL.take (j + 1)).map fun c => V.str (spare c))) ∧ Same (upd H3 a1 (.lst [.str wd])) H', fun H' h => ⟨26 - (j + 1), by omega, rfl, lt, h⟩, ?_⟩
        rintro v H' ⟨rfl, c, hc, rfl⟩
        have hc2 : letL[j]? = some c := by
          unfold letL
          rw [Array.getElem?_toList]; exact hc
        refine ⟨rfl, ?_⟩
        refine ⟨_, rfl, _, _, rfl, rfl, (by rw [sizeLine_eq]; show 1 + 1 ≤ _; omega), _, oD2, (by rw [sizeLine_eq, List.length_map, List.length_take]; omega), ?_, fun b o e => by rw [upd_ne (ne_of_none e nD2)]; exact sm4 b o e⟩
        rw [upd_same, List.take_succ, hc2]
        simp [spare]
      · have j26 : j = 26 := by omega
        refine .inl ⟨(by show _ ≤ j; rw [e26]; omega), ?_⟩
        have et : letL.take j = letL := List.take_of_length_le (by omega)
        rw [et] at oD2
        refine ⟨a1, D2, _, _, rfl, rfl, sm4 _ _ upd_same, oD2, (by rw [sizeLine_eq, List.length_map, l26]; show 1 + 26 ≤ _; omega), fun p np => ?_⟩
        have esp : [V.str wd] ++ letL.map (fun c => V.str (spare c)) = (wd :: letL.map spare).map V.str := by simp [List.map_map]
        rw [esp]
        have spl : (wd :: letL.map spare).length = 27 := by rw [List.length_cons, List.length_map, l26]
        have spok : ∀ x ∈ (wd :: letL.map spare), NmS x := fun x hx => by
          rcases List.mem_cons.mp hx with h | h
          · rw [h]; exact wok
          · obtain ⟨c, hc, rfl⟩ := List.mem_map.mp h
            exact spare_ok c hc
        have hne := spare_left wd ns (by omega)
        generalize wd :: letL.map spare = sp at spl spok hne
        have k5 := same_new (o := .lst (sp.map V.str)) np
        have k35 := (k1.trans sm4).trans k5
        refine ⟨_, rfl, .inl ⟨rfl, _, SqL.of (k35 _ _ oq3)⟩, _, rfl, p, rfl, ⟨_, SqL.of upd_same⟩, fun D3 nD3 => ?_⟩
        refine lc_list (xs := sp.map V.str) (fun j H' => H' D3 = some (.lst (((sp.take j).filter fun x => decide (x ∉ ns)).map V.str)) ∧ Same (upd H4 p (.lst (sp.map V.str))) H')
          ⟨by rw [upd_same]; rfl, same_new nD3⟩ (fun j H' _ h => SqL.of (h.2 _ _ upd_same)) ?_ ?_
        · rintro j v H6 ev ⟨oD3, sm6⟩
          rw [List.getElem?_map] at ev
          obtain ⟨x, ex, rfl⟩ := Option.map_eq_some_iff.mp ev
          have et2 : sp.take (j + 1) = sp.take j ++ [x] := by rw [List.take_succ, ex]; rfl
          refine ⟨rfl, ?_⟩
          refine ⟨_, rfl, _, rfl, q, ns.map V.str, rfl, .inl (SqL.of (sm6 _ _ (k35 _ _ oq3))), rfl, flat_strs ns, _, rfl, ?_⟩
          rw [inV_strs]
          by_cases hx : x ∈ ns
          · rw [decide_eq_true hx]
            refine iteF ?_
            refine ⟨?_, sm6⟩
            rw [et2, List.filter_append]
            simpa [hx] using oD3
          · rw [decide_eq_false hx]
            refine iteT ?_
            refine ⟨_, rfl, _, oD3, ?_, ?_, fun b o e => by rw [upd_ne (ne_of_none e nD3)]; exact sm6 b o e⟩
            · have z := List.length_filter_le (fun x => decide (x ∉ ns)) (sp.take j)
              rw [List.length_take] at z
              rw [sizeLine_eq, List.length_map]; omega
            · rw [upd_same, et2, List.filter_append]
              simp [hx]
        · rintro H6 ⟨oD3, sm6⟩
          have ef : sp.take (sp.map V.str).length = sp := List.take_of_length_le (by rw [List.length_map]; omega)
          rw [ef] at oD3
          have oq6 := sm6 _ _ (k35 _ _ oq3)
          cases efl : sp.filter fun x => decide (x ∉ ns) with
          | nil => exact absurd efl hne
          | cons y rest =>
            rw [efl] at oD3
            have hy : y ∈ sp.filter fun x => decide (x ∉ ns) := by rw [efl]; exact List.mem_cons_self
            obtain ⟨hy1, hy2⟩ := List.mem_filter.mp hy
            have hy3 : y ∉ ns := by simpa using hy2
            refine ⟨D3, _, 0, .str y, rfl, rfl, SqL.of oD3, atI_nat (j := 0) (by simp), ?_⟩
            refine ⟨q, ns.map V.str, .str y, rfl, rfl, oq6, (by rw [sizeLine_eq, List.length_map]; omega), ns ++ [y], by rw [upd_same]; simp, by simp [ln], ?_, ?_, ?_, ?_, _, _, _, _, _, _, rfl⟩
            · rw [List.nodup_append]
              exact ⟨nn, by simp, fun a ha b hb => by
                obtain rfl : b = y := by simpa using hb
                exact fun z => hy3 (z ▸ ha)⟩
            · intro x hx
              rcases List.mem_append.mp hx with h | h
              · exact nok x h
              · obtain rfl : x = y := by simpa using h
                exact spok _ hy1
            · obtain ⟨cs', g, k, m, S⟩ := (S3.same k35).same sm6
              exact Strm.mono ⟨cs', g, k, m, by rw [upd_ne (Ne.symm aq.1)]; exact S.o, by rw [upd_ne (Ne.symm aq.2)]; exact S.c, S.ne, S.g0, S.k0, S.k1, S.m0, S.m1, S.sz⟩ (by omega)
            · intro b o h1 h2 e
              have nb : b ≠ q := ne_of_none e nq
              rw [upd_ne nb]
              exact sm6 _ _ (k35 _ _ (B13 _ _ h1 h2 (B1 _ _ h1 h2 e)))
  · rintro σ H1 ⟨ns, oq, ln, nn, nok, S1, B1, s3, s4, s5, s6, s7, s8, rfl⟩
    have em : ((many.toNat : Nat) : Int) = many := by omega
    rw [em] at S1
    exact ⟨_, rfl, hq H1 q ns (by omega) nn nok nq oq S1 B1⟩
end
end L2.TB
namespace L2.TB
open PySem PySem.Spec PyProof.Rows
theorem paired_snoc {α β : Type} {F : α → β → Prop} {x : α} {y : β} (h : F x y) : ∀ {xs : List α} {ys : List β}, Paired F xs ys → Paired F (xs ++ [x]) (ys ++ [y])
  | _, _, .nil => .cons h .nil
  | _, _, .cons r t => .cons r (paired_snoc h t)
theorem paired_map {α β γ : Type} {F : α → γ → Prop} {g : β → γ} : ∀ {xs : List α} {ys : List β}, Paired (fun x y => F x (g y)) xs ys → Paired F xs (ys.map g)
  | _, _, .nil => .nil
  | _, _, .cons r t => .cons r (paired_map t)
/-- the pairs of a row: names and ints -/
def dk (ns : List Str) (vs : List Int) : List (Key × V) := (ns.zip vs).map fun p => (Sum.inr p.1, V.int p.2)
theorem merge_new : ∀ (more acc : List (Key × V)), ((acc ++ more).map (·.1)).Nodup → mergeK acc more = acc ++ more
  | [], acc, _ => by simp [mergeK]
  | p :: more, acc, h => by
    have hn : valV acc p.1 = none := by
      cases e : valV acc p.1 with
      | none => rfl
      | some v =>
        exfalso
        have z : (valV acc p.1).isSome = true := by rw [e]; rfl
        rw [← valV_any, List.any_eq_true] at z
        obtain ⟨q, hq, hq2⟩ := z
        have hq3 : q.1 = p.1 := of_decide_eq_true hq2
        rw [List.map_append, List.nodup_append] at h
        exact h.2.2 q.1 (List.mem_map_of_mem hq) p.1 (List.mem_map_of_mem List.mem_cons_self) hq3
    show mergeK (putK acc p.1 p.2) more = _
    rw [putK_new p.2 hn, merge_new more _ (by rw [List.append_assoc]; exact h), List.append_assoc]
    rfl
theorem merge_nd {kvs : List (Key × V)} (h : (kvs.map (·.1)).Nodup) : mergeK [] kvs = kvs := by
  rw [merge_new kvs [] (by simpa using h), List.nil_append]
theorem dk_keys {ns : List Str} {vs : List Int} (h : ns.length = vs.length) : (dk ns vs).map (·.1) = ns.map Sum.inr := by
  unfold dk
  rw [List.map_map]
  have e : ((fun x => x.1) ∘ fun p : Str × Int => ((Sum.inr p.1 : Key), V.int p.2)) = (fun p : Str × Int => (Sum.inr p.1 : Key)) := rfl
  rw [e]
  have e2 : (ns.zip vs).map (fun p : Str × Int => (Sum.inr p.1 : Key)) = ((ns.zip vs).map Prod.fst).map Sum.inr := by rw [List.map_map]; rfl
  rw [e2, List.map_fst_zip (by omega)]
theorem dk_nd {ns : List Str} {vs : List Int} (h : ns.length = vs.length) (nd : ns.Nodup) : ((dk ns vs).map (·.1)).Nodup := by
  rw [dk_keys h]
  exact List.Pairwise.map Sum.inr (fun a b h e => h (Sum.inr.inj e)) nd
/-- rows as they are drawn: at as dicts with the names ns and the ints of tbl -/
def RowsAt (H : Hp) (l ls : Addr) (ns : List Str) : List Addr → List (List Int) → Prop :=
  Paired fun a vs => H a = some (.dK (dk ns vs)) ∧ vs.length = ns.length ∧ a ≠ l ∧ a ≠ ls
theorem RowsAt.but {H H' : Hp} {l ls : Addr} {ns : List Str} {as : List Addr} {tbl : List (List Int)} (r : RowsAt H l ls ns as tbl) (b : But l ls H H') : RowsAt H' l ls ns as tbl :=
  Paired.mapP r fun a vs h => ⟨b _ _ h.2.2.1 h.2.2.2 h.1, h.2⟩
def spRows : Sp := fun vs H Q _ => ∃ (l ls : Addr) (many rows values N : Int), vs = [.ref l, .int many, .int rows, .int values] ∧ Strm H l ls N ∧ N ≤ 500000 ∧ 0 < many ∧ many ≤ 10 ∧ 0 < rows ∧ rows ≤ 20 ∧ 0 < values ∧ values ≤ 100 ∧
  ∀ H' q as ns tbl, (ns : List Str).length ≤ 10 → ns ≠ [] → ns.Nodup → (∀ x ∈ ns, NmS x) → (tbl : List (List Int)).length ≤ 20 → tbl ≠ [] → (∀ u ∈ tbl, ∀ z ∈ u, -1 ≤ z ∧ z + 2 ≤ values) → H q = none → q ≠ l → q ≠ ls → H' q = some (.lst (as.map V.ref)) → RowsAt H' l ls ns as tbl →
    Strm H' l ls (N + 1000) → But l ls H H' → Q (.ref q) H'
abbrev NR : List Str := ["stream", "many", "rows", "values", "names", "found", "k", "name"]
theorem scRows : FnScope NR ["stream", "many", "rows", "values"] (defScope sRows) := ⟨rfl, rfl, rfl, by decide +kernel, rfl, by decide +kernel, by decide +kernel⟩
section
variable {P : Program} {w : World} {K : PySem.W.Frag} {mg : Str → Option Value} {base : Heap} {f fD fP fN : Addr} {fd fdD fdP fdN : FuncData}
theorem ok_rows (F : Fun K "_law_t_rows" "_law_t_rows" sRows f fd) (FN : Fun K "_law_t_names" "_law_t_names" sNames fN fdN) (gNm : mg "_law_t_names" = some (.ref fN)) (FP : Fun K "_law_pick" "_law_pick" sPick fP fdP) (gP : mg "_law_pick" = some (.ref fP)) (FD : Fun K "_law_draw" "_law_draw" sDraw fD fdD)
    (gD : mg "_law_draw" = some (.ref fD)) (gI : mg "int" = none) (gN : mg "len" = none) (gR : mg "range" = none) (gDi : mg "dict" = none) : FnOk P w K mg base CX0 4 f fd ["stream", "many", "rows", "values"] spRows := by
  have G : FnOk P w K mg base CX0 1 fD fdD ["stream", "many"] spDraw := ok_draw FD gI
  have b := FD.binds (ps := ["stream", "many"]) fun _ _ _ _ _ _ us hl => match us, hl with | [_, _], _ => rfl
  have GN : FnOk P w K mg base CX0 3 fN fdN ["stream", "many"] spNames := ok_names FN FP gP FD gD gI gN gR
  have bN := FN.binds (ps := ["stream", "many"]) fun _ _ _ _ _ _ us hl => match us, hl with | [_, _], _ => rfl
  refine F.ok scRows (fun vs H Q E h => by obtain ⟨l, ls, a, b, c, N, e, _⟩ := h; rw [e]; rfl) fun cdv A outer s H vs Q E hr hsp => ?_
  obtain ⟨l, ls, many, rws, vals, N, rfl, hS, hN, m0, m1, w0, w1, v0, v1, hq⟩ := hsp
  have nd := scRows.nd
  refine ⟨_, pss_cons (ps_par (i := 4) (j := 5) rfl nd rfl rfl (by decide) rfl rfl (pa_cons (pe_call GN hr rfl gNm FN.kp bN .nil pass0 (pa_cons (pv 0) (pa_cons (pe_op op_add pe_int (pe_call G (hr.mono (by decide)) rfl gD FD.kp b .nil pass0 (pa_cons (pv 0) (pa_cons (pv 1) pa_nil)))) pa_nil))) (pa_cons (pe_lst pa_nil) pa_nil)) (by rfl))
    (pss_cons (ps_for PassesOwn.never rfl (pi_range1 rfl gR (pa_cons (pe_op op_add pe_int (pe_call G (hr.mono (by decide)) rfl gD FD.kp b .nil pass0 (pa_cons (pv 0) (pa_cons (pv 2) pa_nil)))) pa_nil)) (pg_name (i := 6) nd rfl (Or.inl rfl))
      (pss_one (ps_expr (pe_bm PySem.F.plainAttrs_list PySem.F.slot_list_append PySem.F.type_list_append mt_append (pv 5) (pa_cons (pe_callTy (call_dictP rfl) rfl gDi (by decide +kernel) (pa_cons (pe_lc (own := [("name", 7)]) (tt := tYes) rfl nd (pi_list (pv 4)) (blkOk_by (N := NR) (sc := defScope sRows) (by decide +kernel))
        (fun _ _ _ _ _ => pg_name (i := 7) nd rfl (Or.inl rfl)) (fun _ _ _ _ _ => pts_nil) (fun _ _ _ _ _ => pe_tup (pa_cons (pv 7) (pa_cons (pe_op op_sub (pe_call G (hr.mono (by decide)) rfl gD FD.kp b .nil pass0 (pa_cons (pv 0) (pa_cons (pv 3) pa_nil))) pe_int) pa_nil)))) pa_nil)) pa_nil)))))
    (pss_one (ps_ret (pv 5)))), ?_⟩
  refine ⟨_, rfl, _, rfl, _, rfl, l, ls, many, N, rfl, hS, by omega, by omega, by omega, fun H1 r r0 r1 S1 B1 => ?_⟩
  refine ⟨_, _, rfl, rfl, l, ls, 1 + r, N + 1, rfl, S1, by omega, by omega, by omega, fun H2 c ns lns nds oks nc oc S2 B2 => ?_⟩
  have ac := S1.apart (Same.refl _) nc
  have nl : 1 ≤ ns.length ∧ ns.length ≤ 10 := by omega
  refine ⟨Nat.zero_le _, fun q nq => ?_⟩
  have aq := S2.apart (Same.refl _) nq
  have S2' : Strm H2 l ls (N + 60) := S2.mono (by omega)
  have B12 := B1.trans B2
  have cq : c ≠ q := fun z => by rw [z, nq] at oc; cases oc
  refine ⟨_, _, rfl, ?_⟩
  refine ⟨_, rfl, _, rfl, l, ls, rws, _, rfl, S2'.same (same_new nq), by omega, w0, by omega, fun H3 r' r0' r1' S3 B3 => ?_⟩
  have oc3 := B3 _ _ ac.1 ac.2 (same_new nq _ _ oc)
  have oq3 := B3 _ _ aq.1 aq.2 (upd_same (H := H2) (a := q) (o := .lst []))
  have B03 : But l ls H H3 := (B12.trans (But.of (same_new nq))).trans B3
  refine ⟨_, _, rfl, rfl, 1 + r', rfl, by omega, by omega, for_range (n := (1 + r').toNat) (fun i σ H' => (∃ as tbl, H' q = some (.lst ((as : List Addr).map V.ref)) ∧ RowsAt H' l ls ns as tbl ∧ tbl.length = i ∧ ∀ u ∈ tbl, ∀ z ∈ u, -1 ≤ z ∧ z + 2 ≤ vals) ∧ H' c = some (.lst (ns.map V.str)) ∧ Strm H' l ls (N + 70 + 12 * i) ∧ But l ls H H' ∧
    ∃ s6 s7, σ = [some (.ref l), some (.int many), some (.int rws), some (.int vals), some (.ref c), some (.ref q), s6, s7]) ⟨⟨[], [], oq3, .nil, rfl, fun u hu => by cases hu⟩, oc3, S3.mono (by omega), B03, _, _, rfl⟩ ?_ ?_⟩
  · rintro i σ H4 hi ⟨⟨as, tbl, oq4, R4, lt4, bd4⟩, oc4, S4, B4, s6, s7, rfl⟩
    have hi2 : (i : Int) < 20 := by omega
    refine ⟨_, rfl, .inl ⟨rfl, _, SqL.of oq4⟩, _, rfl, c, rfl, ⟨_, SqL.of oc4⟩, fun D nD => ?_⟩
    have aD := S4.apart (Same.refl _) nD
    have Dq : D ≠ q := fun z => by rw [z, oq4] at nD; cases nD
    refine lc_list (xs := ns.map V.str) (fun j H' => ∃ ps vs, H' D = some (.lst ((ps : List Addr).map V.ref)) ∧ Paired (fun p (kv : Str × Int) => H' p = some (.tup [.str kv.1, .int kv.2]) ∧ p ≠ l ∧ p ≠ ls) ps ((ns.take j).zip vs) ∧ vs.length = j ∧ (∀ z ∈ vs, -1 ≤ z ∧ z + 2 ≤ vals) ∧
      Strm H' l ls (N + 70 + 12 * i + j) ∧ But l ls H4 H') ⟨[], [], upd_same, .nil, rfl, (fun z hz => by cases hz), by simpa using S4.same (same_new nD), But.of (same_new nD)⟩ (fun j H' _ h => SqL.of (h.choose_spec.choose_spec.2.2.2.2.2 _ _ ac.1 ac.2 oc4)) ?_ ?_
    · rintro j v H5 ev ⟨ps, vs, oD, pr, lv, bv, S5, B5⟩
      rw [List.getElem?_map] at ev
      obtain ⟨x, ex, rfl⟩ := Option.map_eq_some_iff.mp ev
      have hj : j < ns.length := (List.getElem?_eq_some_iff.mp ex).1
      have et : ns.take (j + 1) = ns.take j ++ [x] := by rw [List.take_succ, ex]; rfl
      refine ⟨rfl, ?_⟩
      refine ⟨_, rfl, _, rfl, _, rfl, l, ls, vals, _, rfl, S5, by omega, v0, by omega, fun H6 z z0 z1 S6 B6 => ?_⟩
      refine ⟨_, _, rfl, rfl, (by rw [sizeLine_eq]; show 2 ≤ _; omega), fun p np => ?_⟩
      have ap := S6.apart (Same.refl _) np
      have k6 := same_new (o := .tup [.str x, .int (z - 1)]) np
      have oD6 := B6 _ _ aD.1 aD.2 oD
      have pD : p ≠ D := fun y => by rw [y, oD6] at np; cases np
      have lps : ps.length = j := by
        have e := Paired.length pr
        rw [List.length_zip, List.length_take] at e
        omega
      refine ⟨_, k6 _ _ oD6, (by rw [sizeLine_eq, List.length_map]; omega), ps ++ [p], vs ++ [z - 1], by rw [upd_same]; simp, ?_, by simp [lv], (fun y hy => by
        rcases List.mem_append.mp hy with hy | hy
        · exact bv y hy
        · rw [List.mem_singleton] at hy; omega), ?_, ?_⟩
      · rw [et, List.zip_append (by rw [List.length_take]; omega)]
        refine paired_snoc ⟨by rw [upd_ne pD, upd_same], ap⟩ (Paired.mapP pr fun a kv h => ⟨?_, h.2⟩)
        have na : a ≠ D := fun y => by rw [y, oD] at h; cases h.1
        rw [upd_ne na]
        exact k6 _ _ (B6 _ _ h.2.1 h.2.2 h.1)
      · obtain ⟨cs', g, k, m, S⟩ := S6.same k6
        exact Strm.mono ⟨cs', g, k, m, by rw [upd_ne (Ne.symm aD.1)]; exact S.o, by rw [upd_ne (Ne.symm aD.2)]; exact S.c, S.ne, S.g0, S.k0, S.k1, S.m0, S.m1, S.sz⟩ (by omega)
      · intro b' o h1 h2 e
        have nb : b' ≠ D := ne_of_none e nD
        rw [upd_ne nb]
        exact k6 _ _ (B6 _ _ h1 h2 (B5 _ _ h1 h2 e))
    · rintro H5 ⟨ps, vs, oD, pr, lv, bv, S5, B5⟩
      have etk : ns.take (ns.map V.str).length = ns := List.take_of_length_le (by rw [List.length_map]; omega)
      rw [etk] at pr
      have lv2 : vs.length = ns.length := by rw [lv, List.length_map]
      refine ⟨D, ps, dk ns vs, rfl, SqL.of oD, paired_map (Paired.mapP pr fun p kv h => SqT.of h.1), fun p np => ?_⟩
      rw [merge_nd (dk_nd lv2.symm nds)]
      have ap := S5.apart (Same.refl _) np
      have k5 := same_new (o := .dK (dk ns vs)) np
      have oq5 := k5 _ _ (B5 _ _ aq.1 aq.2 oq4)
      have las : as.length = i := by rw [Paired.length R4, lt4]
      have pq : p ≠ q := fun y => by rw [y, B5 _ _ aq.1 aq.2 oq4] at np; cases np
      have B6 : But l ls (upd H5 p (.dK (dk ns vs))) (upd (upd H5 p (.dK (dk ns vs))) q (.lst (as.map V.ref ++ [.ref p]))) → True := fun _ => trivial
      refine ⟨q, as.map V.ref, .ref p, rfl, rfl, oq5, (by rw [sizeLine_eq, List.length_map]; omega), ⟨as ++ [p], tbl ++ [vs], by rw [upd_same]; simp, ?_, by simp [lt4], fun u hu => by
        rcases List.mem_append.mp hu with hu | hu
        · exact bd4 u hu
        · rw [List.mem_singleton] at hu; rw [hu]; exact bv⟩, ?_, ?_, ?_, _, _, rfl⟩
      · refine paired_snoc ⟨by rw [upd_ne pq, upd_same], lv2, ap⟩ (Paired.mapP R4 fun a vs' h => ⟨?_, h.2⟩)
        have na : a ≠ q := fun y => by rw [y, oq4] at h; cases h.1
        rw [upd_ne na]
        exact k5 _ _ (B5 _ _ h.2.2.1 h.2.2.2 h.1)
      · rw [upd_ne cq]
        exact k5 _ _ (B5 _ _ ac.1 ac.2 oc4)
      · obtain ⟨cs', g, k, m, S⟩ := S5.same k5
        have lx : (ns.map V.str).length ≤ 10 := by rw [List.length_map]; omega
        exact Strm.mono ⟨cs', g, k, m, by rw [upd_ne (Ne.symm aq.1)]; exact S.o, by rw [upd_ne (Ne.symm aq.2)]; exact S.c, S.ne, S.g0, S.k0, S.k1, S.m0, S.m1, S.sz⟩ (by omega)
      · intro b' o h1 h2 e
        have nb : b' ≠ q := fun y => by
          have z := B12 _ _ h1 h2 e
          rw [y, nq] at z; cases z
        rw [upd_ne nb]
        exact k5 _ _ (B5 _ _ h1 h2 (B4 _ _ h1 h2 e))
  · rintro σ H4 ⟨⟨as, tbl, oq4, R4, lt4, bd4⟩, oc4, S4, B4, s6, s7, rfl⟩
    have nq0 : H q = none := by
      cases e : H q with
      | none => rfl
      | some o => have z := B12 _ _ aq.1 aq.2 e; rw [nq] at z; cases z
    have nn : ns ≠ [] := fun z => by rw [z] at nl; simp at nl
    have tn : tbl ≠ [] := fun z => by rw [z] at lt4; simp at lt4; omega
    exact ⟨_, rfl, hq H4 q as ns tbl nl.2 nn nds oks (by omega) tn bd4 nq0 aq.1 aq.2 oq4 R4 (S4.mono (by omega)) B4⟩
end
end L2.TB
namespace L2.TB
open PySem
open PySem.Spec PyProof.Rows
/-! for i, x in enumerate(thing), thing a list or a tuple -/
abbrev tupIter (t : Addr) : Obj := { cls := .type "tuple_iterator", data := .fields #[.ref t, .int 0 0] }
abbrev enumRec (q : Addr) : Obj := { cls := .type "enumerate", data := .fields #[.none, .bool false, .ref q, rawInt 0, .none, .none] }
section
variable {P : Program} {w : World}
/-- what enumerate's maker does with a tuple -/
theorem made_enum (t : Addr) (ys : Array Value) : Meets (Builtin.«enumerate.__new__» ⟨[.type "enumerate", .ref t], []⟩) fun _ done z =>
    z.heap.IsTuple t ys ∧ done (.ok (.ret (.ref (z.heap.push (tupIter t)).objs.size))) { z with heap := (z.heap.push (tupIter t)).push (enumRec z.heap.objs.size) } :=
  .of_wp fun _ _ _ _ z hz => by
    obtain ⟨h0, gs, ds, tk, os⟩ := z
    obtain ⟨isT, fin⟩ := hz
    have sub := sub_enumerate
    have step : ∀ {A' : Around} {E' : Value → Shared → Prop} {Q' : Value → Shared → Prop} {P' : Program} {w' : World}, Q' (.ref h0.objs.size) ⟨h0.push (tupIter t), gs, ds, tk, os⟩ → wpAny (model P' w') A' (pyIter (.ref t)) Q' E' ⟨h0, gs, ds, tk, os⟩ :=
      fun more => wpAny_pyIter_tuple (s := ⟨h0, gs, ds, tk, os⟩) isT more
    wp_walk using step
    refine wpAny_stack_any (fun _ => wpAny_pure ?_)
    split
    · rename_i c _ _ _ _ _
      rcases (c == Value.type "enumerate") with _ | _ <;> (wp_walk using step; exact ⟨_, rfl, fin⟩)
    · wp_walk using step
      exact ⟨_, rfl, fin⟩
/-- the call -/
theorem enum_of_tuple {A : Around} {z : Shared} {E Q : Value → Shared → Prop} {t : Addr} {ys : Array Value} (isT : z.heap.IsTuple t ys)
    (more : IsEnum ((z.heap.push (tupIter t)).push (enumRec z.heap.objs.size)) (z.heap.objs.size + 1) z.heap.objs.size 0 .none →
      Q (.ref (z.heap.objs.size + 1)) { z with heap := (z.heap.push (tupIter t)).push (enumRec z.heap.objs.size) }) : wpAny (model P w) A (call (.type "enumerate") [.ref t]) Q E z := by
  refine callType_new F.called_enumerate (by decide) (F.typeCall_enumerate_1 _) (F.newCall_enumerate_1 _) (fun b => F.args_object_init_2 b _) F.entry_enumerate_new (made_enum t ys) ⟨isT, ?_⟩
  have size1 : (z.heap.push (tupIter t)).objs.size = z.heap.objs.size + 1 := Heap.size_push ..
  have rec1 := Heap.get?_push_size (z.heap.push (tupIter t)) (o := enumRec z.heap.objs.size) rfl
  rw [size1] at rec1
  show _ ∧ _
  rw [size1]
  exact ⟨⟨_, rec1, rfl⟩, more rec1⟩
end
/-- the items of the tuple at t, each in a new pair with its number -/
def IteT (K : PySem.W.Frag) (t : Addr) : It where
  go i H := ∃ (ys : List V) (y : V), SqT K H t ys ∧ ys[i]? = some y
  yld i H v H' := ∃ T y, v = .ref T ∧ H T = none ∧ H' = upd H T (.tup [.int (i : Nat), y]) ∧ ∀ ys, SqT K H t ys → ys[i]? = some y
  stop i H := ∃ ys : List V, SqT K H t ys ∧ ys.length ≤ i
/-- three records of three classes stand at three places -/
theorem three {h : Heap} {t q r : Addr} {ys : Array Value} {i : Nat} {c : Int} {old : Value} (isT : h.IsTuple t ys) (isQ : h.IsTupleIter q t i) (isR : IsEnum h r q c old) : t ≠ q ∧ r ≠ t := by
  obtain ⟨ot, gt, ct, _⟩ := isT
  obtain ⟨oq, gq, cq, _⟩ := isQ
  have ct : ot.cls = Value.type "tuple" := ct
  have cq : oq.cls = Value.type "tuple_iterator" := cq
  constructor
  · rintro rfl
    rw [gt] at gq
    injection gq with same
    rw [← same, ct] at cq
    exact absurd cq (by decide)
  · rintro rfl
    have gr := isR
    unfold IsEnum at gr
    rw [gt] at gr
    injection gr with same
    rw [same] at ct
    exact absurd (show Value.type "enumerate" = Value.type "tuple" from ct) (by decide)
theorem two_of {b r q : Addr} {p : Addr → Prop} (hr : p r) (hq : p q) (hb : b ∈ [r, q]) : p b := by
  rcases List.mem_cons.mp hb with rfl | hb
  · exact hr
  · obtain rfl := List.mem_singleton.mp hb
    exact hq
theorem turn_enumT {P : Program} {w : World} {K : PySem.W.Frag} {elts : List Expr} {kk : Nat} {tpos : Pos} (t r q : Addr) :
    Turn P w K (.Tuple elts kk tpos) (IteT K t) [r, q] r (fun i h => r ≠ q ∧ h.IsTupleIter q t i ∧ ∃ old, IsEnum h r q ((i : Nat) : Int) old) := by
  refine ⟨List.mem_cons_self, fun i h st b hb => ?_, fun i h h' st same => ?_, ?_, ?_, fun A i z Q E st more => ?_⟩
  · obtain ⟨_, ⟨oq, gq, _, dq⟩, old, gr⟩ := st
    exact two_of (p := fun b => ∃ o, h.get? b = some o ∧ ∀ v, o.data ≠ .cell v) ⟨_, gr, fun _ e => nomatch e⟩ ⟨oq, gq, fun _ e => by rw [dq] at e; exact nomatch e⟩ hb
  · obtain ⟨ne, gq, old, gr⟩ := st
    exact ⟨ne, gq.at fun o e => same q (List.mem_cons_of_mem _ List.mem_cons_self) o e, old, same r List.mem_cons_self _ gr⟩
  · rintro X rfl rfl rfl calm i pins z σ H E I room ⟨ne, gq, old, gr⟩ ⟨ys, y, isY, nth⟩
    obtain ⟨vs, rel, isT, _⟩ := I.tuple isY
    obtain ⟨v, nthV, relV⟩ := rel.get nth
    have isT : z.heap.IsTuple t vs.toArray := isT
    obtain ⟨tq, rt⟩ := three isT gq gr
    have lr : r < z.heap.objs.size := Heap.lt_size gr
    have lq : q < z.heap.objs.size := gq.elim fun _ e => Heap.lt_size e.1
    have inside : i < vs.toArray.size := by
      have := (List.getElem?_eq_some_iff.mp nthV).1
      simpa using this
    have draws := Draws.tuple (prog := X.prog) (w := X.w) (A := X.A.in1) (I.ok.hd calm) q t tq vs.toArray
    refine wpAny_pyNext_enum_itemC draws gr ⟨gq, isT⟩ inside ne (fun m => two_of (p := fun b => r = b → False) ne rt m rfl) fun v' h1 tk hv out stQ newT _ kept1 => ?_
    obtain rfl : v' = v := by
      have hv : vs.toArray[i]? = some v' := hv
      rw [List.getElem?_toArray, nthV] at hv
      exact (Option.some.inj hv).symm
    refine ⟨_, rfl, wpAny_letOwnedTupleGo_enum (s := { z with heap := h1, toks := tk + 1 }) out fun h2 back same2 => ?_⟩
    have at2 : ∀ b o, b ∉ [r, q] → z.heap.get? b = some o → h2.get? b = some o := fun b o away e =>
      (same2.2 b fun k => away (k ▸ List.mem_cons_self)).trans (kept1 b o (fun k => away (k ▸ List.mem_cons_self)) (fun k => away (k ▸ List.mem_cons_of_mem _ List.mem_cons_self)) e)
    have pair : ObjOk X.prog X.w (upd H z.heap.objs.size (.tup [.int (i : Nat), y])) h2 z.heap.objs.size (.tup [.int (i : Nat), y]) :=
      ⟨show 2 ≤ sizeLine by decide, [.int i tk, v'], .cons ⟨tk, rfl⟩ (.cons relV .nil), _, (same2.2 _ (Nat.ne_of_gt lr)).trans newT, rfl, _, rfl⟩
    refine ⟨.ref z.heap.objs.size, _, I.turnedNew (t' := tk + 1) at2 room (Nat.le_refl _) pair, rfl, ⟨_, y, rfl, I.hok.fresh (Nat.le_refl _), rfl, fun ys' is' => ?_⟩, ⟨ne, ?_, v', ?_⟩, fun b hb => ?_⟩
    · rw [I.tuple_inj is' isY]; exact nth
    · exact stQ.1.at fun o e => (same2.2 q ne.symm).trans e
    · rw [show ((i + 1 : Nat) : Int) = (i : Int) + 1 from by omega]; exact back
    · have lb : b < z.heap.objs.size := two_of (p := fun b => b < z.heap.objs.size) lr lq hb
      rw [upd_ne (Nat.ne_of_lt lb)]
      exact (room b hb).1
  · rintro X rfl rfl rfl calm i pins z σ H E I room ⟨ne, gq, old, gr⟩ ⟨ys, isY, past⟩
    obtain ⟨vs, rel, isT, _⟩ := I.tuple isY
    have isT : z.heap.IsTuple t vs.toArray := isT
    obtain ⟨k0, k1, k2, k3, k4, k5⟩ := room q (List.mem_cons_of_mem _ List.mem_cons_self)
    have isE : z.TypeIs (.ref r) "enumerate" := ⟨_, gr, rfl⟩
    have len := rel.length
    have past : vs.toArray[i]? = none := by rw [List.getElem?_toArray, List.getElem?_eq_none_iff]; omega
    unfold pyNext
    refine wpAny_bind (wpAny_attempt (wpAny_callSpecial?_slot (name := Str.ofString "__next__") isE F.slot_enumerate_next (wpAny_call_entry F.slot_enumerate_next isE F.entry_enumerate_next ?_ (F.args_enumerate_next_1 _))))
    show wpAny _ _ (field (.ref r) 2 >>= _) _ _ z
    refine wpAny_bind (wpAny_field gr rfl (x := .ref q) rfl (wpAny_bind (wpAny_nextOf_tuple_end (I.ok.hd calm) gq isT past fun h1 x but ⟨ox, gx, cx⟩ => ?_)))
    exact wpAny_bind (wpAny_isInstance (T := "StopIteration") (b := true) ⟨ox, gx, cx⟩ isSubtype_stop (wpAny_pure ⟨rfl, I.turned (t' := z.toks) (fun b o away e => but b o away e) k0 k1 k3 k4 k5⟩))
  · obtain ⟨_, _, old, gr⟩ := st
    exact wpAny_pyIter_enum gr more
/-- the reading of enumerate over a list or over a tuple -/
def iEnumS (K : PySem.W.Frag) (ta : TA) : TI := fun σ H R => ta σ H fun vs H1 => ∃ a xs, vs = [.ref a] ∧ ((SqL K H1 a xs ∧ R (Ite K a) H1) ∨ (SqT K H1 a xs ∧ R (IteT K a) H1))
theorem pi_enumS {X : Cx} {e : Expr} {ta : TA} {p pos tpos : Pos} {elts : List Expr} {kk : Nat} (hg : Gl X "enumerate") (hm : X.mg "enumerate" = none) (ha : PA X [e] ta) (hs : starEach [e] X.env = [(false, eval e X.env)] := by rfl) :
    PI X (.Tuple elts kk tpos) (.Call (.Name "enumerate" p) [e] [] pos) (iEnumS X.K ta) := by
  refine PI.mk fun pins z σ H R I reading => Call_ (ld_blt I hg hm boot_enumerate (PyProof.Rows.callWith_type1 (thn (ha.run pos pins z σ H _ I reading) fun us z1 hu => ?_) hs rfl))
  obtain ⟨vs, H1, I1, rel, a, xs, rfl, cases2⟩ := hu
  match us, rel with
  | [u], .cons ru .nil =>
    obtain rfl : u = Value.ref a := ru
    have fresh : ∀ b ∈ [z1.heap.objs.size + 1, z1.heap.objs.size], FpOk X pins H1 b := fun b hb =>
      have far : z1.heap.objs.size ≤ b := two_of (p := fun b => z1.heap.objs.size ≤ b) (Nat.le_succ _) (Nat.le_refl _) hb
      I1.fpOk far (I1.hok.fresh far)
    rcases cases2 with ⟨sq, q⟩ | ⟨sq, q⟩
    · obtain ⟨its, rv, isL, _⟩ := I1.list sq
      exact call_enumerate_list isL.isList fun h' gE gI _ kept => wpAny_pyIter_enum gE ⟨_, _, _, _, H1, rfl, I1.kept (t' := z1.toks) kept, turn_enum a _ _, ⟨⟨.none, gE⟩, gI, Nat.succ_ne_self _⟩, fresh, q⟩
    · obtain ⟨its, rv, isT, _⟩ := I1.tuple sq
      have isT : z1.heap.IsTuple a its.toArray := isT
      refine enum_of_tuple isT fun gE => wpAny_pyIter_enum gE ⟨_, _, _, _, H1, rfl, I1.kept (t' := z1.toks) fun b o e => ?_, turn_enumT a _ _, ⟨Nat.succ_ne_self _, ?_, .none, gE⟩, fresh, q⟩
      · exact Heap.get?_push_of_some _ (Heap.get?_push_of_some _ e)
      · exact ⟨_, Heap.get?_push_of_some _ (Heap.get?_push_size _ rfl), rfl, rfl⟩
end L2.TB
namespace L2.TB
open PySem PySem.Spec PyProof.Rows
/-! the program's looks at what it is passed -/
theorem boot_int' : bootBuiltins "int" = some (.type "int") := by decide +kernel
theorem boot_bool' : bootBuiltins "bool" = some (.type "bool") := by decide +kernel
theorem boot_str' : bootBuiltins "str" = some (.type "str") := by decide +kernel
theorem boot_list' : bootBuiltins "list" = some (.type "list") := by decide +kernel
theorem boot_tuple' : bootBuiltins "tuple" = some (.type "tuple") := by decide +kernel
theorem boot_dict' : bootBuiltins "dict" = some (.type "dict") := by decide +kernel
theorem boot_isi : bootBuiltins "isinstance" = some (.builtin "isinstance") := by decide +kernel
/-- the list or the tuple at a -/
def SqA (K : PySem.W.Frag) (H : Hp) (a : Addr) (xs : List V) : Prop := H a = some (.lst xs) ∨ H a = some (.tup xs)
theorem SqA.seq {K : PySem.W.Frag} {H : Hp} {a : Addr} {xs : List V} (h : SqA K H a xs) : SqL K H a xs ∨ SqT K H a xs := h.imp SqL.of SqT.of
theorem SqA.same {K : PySem.W.Frag} {H H' : Hp} {a : Addr} {xs : List V} (h : SqA K H a xs) (s : Same H H') : SqA K H' a xs := h.imp (s _ _) (s _ _)
theorem kit_two_l {K : PySem.W.Frag} : PySem.W.kitAny K (.type "list") [.type "list", .type "tuple"] = some true := by
  unfold PySem.W.kitAny
  rw [kit_ty (K := K) (a := "list") (b := "list") (r := true) (by decide +kernel)]
theorem kit_two_t {K : PySem.W.Frag} : PySem.W.kitAny K (.type "tuple") [.type "list", .type "tuple"] = some true := by
  unfold PySem.W.kitAny
  rw [kit_ty (K := K) (a := "tuple") (b := "list") (r := false) (by decide +kernel)]
  dsimp only
  unfold PySem.W.kitAny
  rw [kit_ty (K := K) (a := "tuple") (b := "tuple") (r := true) (by decide +kernel)]
def spIsInt : Sp := fun vs H Q _ => ∃ k : Int, vs = [.int k] ∧ Q (.bl true) H
def spIsList (K : PySem.W.Frag) : Sp := fun vs H Q _ => ∃ (a : Addr) (xs : List V), vs = [.ref a] ∧ SqA K H a xs ∧ ∀ H', Same H H' → Q (.bl true) H'
def spIsOne (K : PySem.W.Frag) : Sp := fun vs H Q _ => ∃ (c : Addr) (ns : List Str) (x : Str), vs = [.ref c, .str x] ∧ SqL K H c (ns.map V.str) ∧ Q (.bl (decide (x ∈ ns))) H
/-- no bad one -/
def spFirst (K : PySem.W.Frag) : Sp := fun vs H Q _ => ∃ (c a : Addr) (ns known : List Str), vs = [.ref c, .ref a] ∧ H c = some (.lst (ns.map V.str)) ∧ SqA K H a (known.map V.str) ∧ known.Nodup ∧ (∀ x ∈ known, x ∈ ns) ∧ known.length < 1000 ∧ ∀ H', Same H H' → Q .non H'
theorem scIsInt : FnScope ["thing"] ["thing"] (defScope sIsInt) := ⟨rfl, rfl, rfl, by decide +kernel, rfl, by decide +kernel, by decide +kernel⟩
theorem scIsList : FnScope ["thing"] ["thing"] (defScope sIsList) := ⟨rfl, rfl, rfl, by decide +kernel, rfl, by decide +kernel, by decide +kernel⟩
theorem scIsOne : FnScope ["names", "thing"] ["names", "thing"] (defScope sIsOne) := ⟨rfl, rfl, rfl, by decide +kernel, rfl, by decide +kernel, by decide +kernel⟩
abbrev NF : List Str := ["names", "things", "seen", "index", "thing"]
theorem scFirst : FnScope NF ["names", "things"] (defScope sFirst) := ⟨rfl, rfl, rfl, by decide +kernel, rfl, by decide +kernel, by decide +kernel⟩
section
variable {P : Program} {w : World} {K : PySem.W.Frag} {mg : Str → Option Value} {base : Heap} {f fL fO : Addr} {fd fdL fdO : FuncData}
theorem ok_isInt (F : Fun K "is_integer" "is_integer" sIsInt f fd) (gI : mg "isinstance" = none) (gInt : mg "int" = none) (gB : mg "bool" = none) : FnOk P w K mg base CX0 1 f fd ["thing"] spIsInt := by
  refine F.ok scIsInt (fun vs H Q E h => by obtain ⟨k, e, _⟩ := h; rw [e]; rfl) fun cdv A outer s H vs Q E hr hsp => ?_
  obtain ⟨k, rfl, hq⟩ := hsp
  refine ⟨_, pss_one (ps_ret (pe_and (pe_callB (r := rIsi K) call_isi rfl gI boot_isi (pa_cons (pv 0) (pa_cons (pe_bltn (v := .ty "int") rfl gInt boot_int' rfl) pa_nil)))
    (pe_one (pe_not (pe_callB (r := rIsi K) call_isi rfl gI boot_isi (pa_cons (pv 0) (pa_cons (pe_bltn (v := .ty "bool") rfl gB boot_bool' rfl) pa_nil))))))), ?_⟩
  exact ⟨_, rfl, _, _, _, _, true, rfl, .ty _, .base (.int k), kit_ty (by decide +kernel), true, rfl, _, rfl, _, _, _, _, false, rfl, .ty _, .base (.int k), kit_ty (by decide +kernel), false, rfl, hq⟩
theorem ok_isList (F : Fun K "is_list" "is_list" sIsList f fd) (gI : mg "isinstance" = none) (gL : mg "list" = none) (gT : mg "tuple" = none) : FnOk P w K mg base CX0 1 f fd ["thing"] (spIsList K) := by
  refine F.ok scIsList (fun vs H Q E h => by obtain ⟨a, xs, e, _⟩ := h; rw [e]; rfl) fun cdv A outer s H vs Q E hr hsp => ?_
  obtain ⟨a, xs, rfl, hS, hq⟩ := hsp
  refine ⟨_, pss_one (ps_ret (pe_callB (r := rIsiT K) call_isiT rfl gI boot_isi (pa_cons (pv 0) (pa_cons (pe_tup (pa_cons (pe_bltn (v := .ty "list") rfl gL boot_list' rfl) (pa_cons (pe_bltn (v := .ty "tuple") rfl gT boot_tuple' rfl) pa_nil))) pa_nil)))), ?_⟩
  refine ⟨_, rfl, (by show 2 ≤ sizeLine; decide), fun t nt => ?_⟩
  have kt := same_new (o := .tup [.ty "list", .ty "tuple"]) nt
  rcases hS.same kt with e | e
  · exact ⟨_, _, _, _, _, true, rfl, upd_same, .cons (.ty _) (.cons (.ty _) .nil), .base (.lst e), kit_two_l, hq _ kt⟩
  · exact ⟨_, _, _, _, _, true, rfl, upd_same, .cons (.ty _) (.cons (.ty _) .nil), .base (.tup e), kit_two_t, hq _ kt⟩
theorem ok_isOne (F : Fun K "is_one_of" "is_one_of" sIsOne f fd) (gI : mg "isinstance" = none) (gS : mg "str" = none) : FnOk P w K mg base CX0 1 f fd ["names", "thing"] (spIsOne K) := by
  refine F.ok scIsOne (fun vs H Q E h => by obtain ⟨c, ns, x, e, _⟩ := h; rw [e]; rfl) fun cdv A outer s H vs Q E hr hsp => ?_
  obtain ⟨c, ns, x, rfl, hS, hq⟩ := hsp
  refine ⟨_, pss_one (ps_ret (pe_and (pe_callB (r := rIsi K) call_isi rfl gI boot_isi (pa_cons (pv 1) (pa_cons (pe_bltn (v := .ty "str") rfl gS boot_str' rfl) pa_nil)))
    (pe_one (pe_cmpR op_in_seq (pv 1) (pv 0) rfl)))), ?_⟩
  refine ⟨_, rfl, _, _, _, _, true, rfl, .ty _, .base (.str x), kit_ty (by decide +kernel), true, rfl, _, rfl, _, rfl, c, _, rfl, .inl hS, rfl, flat_strs ns, ?_⟩
  rw [inV_strs]
  exact hq
/-- the dict of what was seen -/
def seenD (xs : List Str) : List (Key × V) := xs.map fun x => (Sum.inr x, V.bl true)
theorem seen_none {xs : List Str} {x : Str} (h : x ∉ xs) : valV (seenD xs) (Sum.inr x) = none := by
  cases e : valV (seenD xs) (Sum.inr x) with
  | none => rfl
  | some v =>
    exfalso
    have z : (valV (seenD xs) (Sum.inr x)).isSome = true := by rw [e]; rfl
    rw [← valV_any, List.any_eq_true] at z
    obtain ⟨q, hq, hq2⟩ := z
    obtain ⟨y, hy, rfl⟩ := List.mem_map.mp hq
    have hq3 : (Sum.inr y : Key) = Sum.inr x := of_decide_eq_true hq2
    exact h (Sum.inr.inj hq3 ▸ hy)
theorem seen_put {xs : List Str} {x : Str} (h : x ∉ xs) : putK (seenD xs) (Sum.inr x) (.bl true) = seenD (xs ++ [x]) := by
  rw [putK_new (.bl true) (seen_none h)]
  simp [seenD]
/-- what the for loop asks of its turns -/
def ForW (J : It) (g : TG) (tb : TS) (D : Ends) (σ : St) (H : Hp) : Prop := ∃ W : Nat → Nat → St → Hp → Prop, (∃ m, W 0 m σ H) ∧ ∀ i m σ H, W i m σ H →
  (J.stop i H ∧ D.nx σ H) ∨ (J.go i H ∧ ∃ N : St → Hp → Prop, (∀ σ' H', N σ' H' → ∃ m', m' < m ∧ W (i + 1) m' σ' H') ∧ ∀ x H', J.yld i H x H' → g x σ H' fun σ2 H2 => tb { D with nx := N, ct := N, bk := D.nx } σ2 H2)
theorem enum_seq {K : PySem.W.Frag} {a : Addr} {xs : List V} {o : HO} {g : TG} {tb : TS} {D : Ends} {σ : St} {H : Hp} (ko : o = .lst xs ∨ o = .tup xs) (Pv : Nat → St → Hp → Prop) (h0 : Pv 0 σ H) (hl : ∀ i σ H, i ≤ xs.length → Pv i σ H → H a = some o)
    (hs : ∀ i x σ H T, xs[i]? = some x → Pv i σ H → H T = none → g (.ref T) σ (upd H T (.tup [.int (i : Nat), x])) fun σ2 H2 => tb { D with nx := Pv (i + 1), ct := Pv (i + 1), bk := D.nx } σ2 H2) (hd : ∀ σ H, Pv xs.length σ H → D.nx σ H) :
    ∃ b ys, [V.ref a] = [V.ref b] ∧ ((SqL K H b ys ∧ ForW (Ite K b) g tb D σ H) ∨ (SqT K H b ys ∧ ForW (IteT K b) g tb D σ H)) := by
  have fin : ∀ J : It, (∀ i H, i < xs.length → H a = some o → J.go i H) → (∀ i H, i = xs.length → H a = some o → J.stop i H) → (∀ i H v H', i < xs.length → H a = some o → J.yld i H v H' → ∃ T x, v = .ref T ∧ H T = none ∧ H' = upd H T (.tup [.int (i : Nat), x]) ∧ xs[i]? = some x) → ForW J g tb D σ H := by
    intro J go stop yld
    refine ⟨fun i m σ H => m = xs.length - i ∧ i ≤ xs.length ∧ Pv i σ H, ⟨_, rfl, Nat.zero_le _, h0⟩, ?_⟩
    rintro i m σ H ⟨rfl, le, p⟩
    have q := hl i σ H le p
    by_cases lt : i < xs.length
    · refine .inr ⟨go i H lt q, Pv (i + 1), fun σ' H' p' => ⟨xs.length - (i + 1), by omega, rfl, lt, p'⟩, fun v H' y => ?_⟩
      obtain ⟨T, x, rfl, nT, rfl, ex⟩ := yld i H v H' lt q y
      exact hs i x σ H T ex p nT
    · obtain rfl : i = xs.length := by omega
      exact .inl ⟨stop _ H rfl q, hd σ H p⟩
  have q0 := hl 0 σ H (Nat.zero_le _) h0
  rcases ko with rfl | rfl
  · exact ⟨a, xs, rfl, .inl ⟨SqL.of q0, fin _ (fun i H lt q => ⟨xs, xs[i], SqL.of q, by simp [lt]⟩) (fun i H e' q => ⟨xs, SqL.of q, by omega⟩)
      (fun i H v H' lt q ⟨T, x, e1, e2, e3, e4⟩ => ⟨T, x, e1, e2, e3, e4 xs (SqL.of q)⟩)⟩⟩
  · exact ⟨a, xs, rfl, .inr ⟨SqT.of q0, fin _ (fun i H lt q => ⟨xs, xs[i], SqT.of q, by simp [lt]⟩) (fun i H e' q => ⟨xs, SqT.of q, by omega⟩)
      (fun i H v H' lt q ⟨T, x, e1, e2, e3, e4⟩ => ⟨T, x, e1, e2, e3, e4 xs (SqT.of q)⟩)⟩⟩
theorem ok_first (F : Fun K "first_bad" "first_bad" sFirst f fd) (FL : Fun K "is_list" "is_list" sIsList fL fdL) (gIL : mg "is_list" = some (.ref fL)) (FO : Fun K "is_one_of" "is_one_of" sIsOne fO fdO) (gIO : mg "is_one_of" = some (.ref fO))
    (gI : mg "isinstance" = none) (gL : mg "list" = none) (gT : mg "tuple" = none) (gS : mg "str" = none) (gE : mg "enumerate" = none) : FnOk P w K mg base CX0 2 f fd ["names", "things"] (spFirst K) := by
  have GL : FnOk P w K mg base CX0 1 fL fdL ["thing"] (spIsList K) := ok_isList FL gI gL gT
  have bL := FL.binds (ps := ["thing"]) fun _ _ _ _ _ _ us hl => match us, hl with | [_], _ => rfl
  have GO : FnOk P w K mg base CX0 1 fO fdO ["names", "thing"] (spIsOne K) := ok_isOne FO gI gS
  have bO := FO.binds (ps := ["names", "thing"]) fun _ _ _ _ _ _ us hl => match us, hl with | [_, _], _ => rfl
  refine F.ok scFirst (fun vs H Q E h => by obtain ⟨c, a, ns, known, e, _⟩ := h; rw [e]; rfl) fun cdv A outer s H vs Q E hr hsp => ?_
  obtain ⟨c, a, ns, known, rfl, hc, hS, nd1, sub, short, hq⟩ := hsp
  have nd := scFirst.nd
  have hu := hu_of hr
  refine ⟨_, pss_cons (ps_if (pt_not (pt_val (pe_call GL hr rfl gIL FL.kp bL .nil pass0 (pa_cons (pv 1) pa_nil)))) (pss_one ps_never) pss_nil)
    (pss_cons (ps_set (i := 2) nd rfl (Or.inl rfl) pe_dnewK)
    (pss_cons (ps_for PassesOwn.never rfl (pi_enumS rfl gE (pa_cons (pv 1) pa_nil)) (pg_tup rfl (pgs_cons (pg_name (i := 3) nd rfl (Or.inl rfl)) (pgs_cons (pg_name (i := 4) nd rfl (Or.inl rfl)) pgs_nil)))
      (pss_cons (ps_if (PW.pt (pw_or (pt_not (pt_val (pe_call GO hr rfl gIO FO.kp bO .nil pass0 (pa_cons (pv 0) (pa_cons (pv 4) pa_nil))))) (pw_or1 (pt_cmp (pc_din hu (pv 4) (pv 2)))))) (pss_one ps_never) pss_nil)
      (pss_one (ps_dput hu (pv 2) (pv 4) pe_bl rfl))))
    (pss_one (ps_ret pe_non)))), ?_⟩
  refine ⟨_, rfl, a, _, rfl, hS, fun H1 k1 => ⟨_, rfl, iteF fun d nd2 => ?_⟩⟩
  have kd := same_new (o := .dK []) nd2
  obtain ⟨o, ho, ko⟩ : ∃ o, H1 a = some o ∧ (o = .lst (known.map V.str) ∨ o = .tup (known.map V.str)) := by
    rcases hS.same k1 with e | e
    · exact ⟨_, e, .inl rfl⟩
    · exact ⟨_, e, .inr rfl⟩
  refine ⟨_, rfl, enum_seq ko (fun i σ H' => H' d = some (.dK (seenD (known.take i))) ∧ Same H1 H' ∧ ∃ s3 s4, σ = [some (.ref c), some (.ref a), some (.ref d), s3, s4])
    ⟨upd_same, kd, _, _, rfl⟩ (fun i σ H' _ h => h.2.1 _ _ ho) ?_ ?_⟩
  · rintro i v σ H2 T ev ⟨od, s2, s3, s4, rfl⟩ nT
    rw [List.getElem?_map] at ev
    obtain ⟨x, ex, rfl⟩ := Option.map_eq_some_iff.mp ev
    have hi : i < known.length := (List.getElem?_eq_some_iff.mp ex).1
    have kT := same_new (o := .tup [.int (i : Nat), .str x]) nT
    refine ⟨T, _, rfl, SqT.of upd_same, rfl, ?_⟩
    have e1 : known.take (i + 1) = known.take i ++ [x] := by rw [List.take_succ, ex]; rfl
    have notin : x ∉ known.take i := fun m => by
      have z := nd1
      rw [← List.take_append_drop (i + 1) known, e1, List.append_assoc, List.nodup_append] at z
      exact z.2.2 x m x (by simp) rfl
    have xin : x ∈ ns := sub x (List.mem_of_getElem? ex)
    refine ⟨_, _, rfl, _, _, rfl, rfl, ?_⟩
    refine ⟨_, rfl, _, rfl, c, ns, x, rfl, SqL.of (kT _ _ (s2 _ _ (k1 _ _ hc))), _, rfl, ?_⟩
    rw [decide_eq_true xin]
    refine iteF ⟨_, rfl, _, rfl, d, _, rfl, DGet.k (k := Sum.inr x) (kT _ _ od), ?_⟩
    rw [seen_none notin]
    refine ⟨_, rfl, iteF ?_⟩
    have small : (seenD (known.take i)).length < sizeLine := by
      rw [sizeLine_eq]
      unfold seenD
      rw [List.length_map, List.length_take]; omega
    refine ⟨_, rfl, _, rfl, d, _, rfl, DPut.k (k := Sum.inr x) (kT _ _ od) small, ?_, ?_, _, _, rfl⟩
    · rw [upd_same, seen_put notin, ← e1]
    · intro b u e
      have nb : b ≠ d := ne_of_none e nd2
      rw [upd_ne nb]
      exact kT _ _ (s2 _ _ e)
  · rintro σ H2 ⟨od, s2, s3, s4, rfl⟩
    exact hq _ (k1.trans s2)
end
end L2.TB
namespace L2.TB
open PySem PySem.Spec PyProof.Rows
/-! the checks, where nothing is wrong -/
def spCkA (K : PySem.W.Frag) : Sp := fun vs H Q _ => ∃ (c : Addr) (ns : List Str) (x : Str), vs = [.ref c, .str x] ∧ SqL K H c (ns.map V.str) ∧ x ∈ ns ∧ Q .non H
def spCkB (K : PySem.W.Frag) : Sp := fun vs H Q _ => ∃ (c a : Addr) (ns known : List Str) (x : Str), vs = [.ref c, .ref a, .str x] ∧ H c = some (.lst (ns.map V.str)) ∧ SqA K H a (known.map V.str) ∧ known.Nodup ∧ (∀ x ∈ known, x ∈ ns) ∧ known.length < 1000 ∧ x ∈ ns ∧ ∀ H', Same H H' → Q .non H'
theorem scCkK : FnScope ["names", "known", "index"] ["names", "known"] (defScope sCkK) := ⟨rfl, rfl, rfl, by decide +kernel, rfl, by decide +kernel, by decide +kernel⟩
theorem scCkA : FnScope ["names", "asked"] ["names", "asked"] (defScope sCkA) := ⟨rfl, rfl, rfl, by decide +kernel, rfl, by decide +kernel, by decide +kernel⟩
theorem scCkB : FnScope ["names", "known", "asked"] ["names", "known", "asked"] (defScope sCkB) := ⟨rfl, rfl, rfl, by decide +kernel, rfl, by decide +kernel, by decide +kernel⟩
/-- what the checks need of the module -/
structure Chk (K : PySem.W.Frag) (mg : Str → Option Value) (aF aL aO aK aA aB : Addr) : Prop where
  F : ∃ fd, Fun K "first_bad" "first_bad" sFirst aF fd
  L : ∃ fd, Fun K "is_list" "is_list" sIsList aL fd
  O : ∃ fd, Fun K "is_one_of" "is_one_of" sIsOne aO fd
  CK : ∃ fd, Fun K "check_known" "check_known" sCkK aK fd
  CA : ∃ fd, Fun K "check_asked" "check_asked" sCkA aA fd
  CB : ∃ fd, Fun K "check_both" "check_both" sCkB aB fd
  gF : mg "first_bad" = some (.ref aF)
  gL : mg "is_list" = some (.ref aL)
  gO : mg "is_one_of" = some (.ref aO)
  gCK : mg "check_known" = some (.ref aK)
  gCA : mg "check_asked" = some (.ref aA)
  gCB : mg "check_both" = some (.ref aB)
  nI : mg "isinstance" = none
  nL : mg "list" = none
  nT : mg "tuple" = none
  nS : mg "str" = none
  nE : mg "enumerate" = none
section
variable {P : Program} {w : World} {K : PySem.W.Frag} {mg : Str → Option Value} {base : Heap} {aF aL aO aK aA aB : Addr} {fd : FuncData}
theorem ok_ckK (C : Chk K mg aF aL aO aK aA aB) (F : Fun K "check_known" "check_known" sCkK aK fd) : FnOk P w K mg base CX0 3 aK fd ["names", "known"] (spFirst K) := by
  obtain ⟨fdF, FF⟩ := C.F
  obtain ⟨fdL, FL⟩ := C.L
  obtain ⟨fdO, FO⟩ := C.O
  have G : FnOk P w K mg base CX0 2 aF fdF ["names", "things"] (spFirst K) := ok_first FF FL C.gL FO C.gO C.nI C.nL C.nT C.nS C.nE
  have b := FF.binds (ps := ["names", "things"]) fun _ _ _ _ _ _ us hl => match us, hl with | [_, _], _ => rfl
  refine F.ok scCkK (fun vs H Q E h => by obtain ⟨c, a, ns, known, e, _⟩ := h; rw [e]; rfl) fun cdv A outer s H vs Q E hr hsp => ?_
  obtain ⟨c, a, ns, known, rfl, hc, hS, nd1, sub, short, hq⟩ := hsp
  have nd := scCkK.nd
  refine ⟨_, pss_cons (ps_set (i := 2) nd rfl (Or.inl rfl) (pe_call G hr rfl C.gF FF.kp b .nil pass0 (pa_cons (pv 0) (pa_cons (pv 1) pa_nil))))
    (pss_one (ps_if (pt_cmp (pc_notN (pv 2))) (pss_one ps_never) pss_nil)), ?_⟩
  refine ⟨_, rfl, _, rfl, c, a, ns, known, rfl, hc, hS, nd1, sub, short, fun H1 k1 => ?_⟩
  exact ⟨_, rfl, _, rfl, iteF (hq H1 k1)⟩
theorem ok_ckA (C : Chk K mg aF aL aO aK aA aB) (F : Fun K "check_asked" "check_asked" sCkA aA fd) : FnOk P w K mg base CX0 2 aA fd ["names", "asked"] (spCkA K) := by
  obtain ⟨fdO, FO⟩ := C.O
  have G : FnOk P w K mg base CX0 1 aO fdO ["names", "thing"] (spIsOne K) := ok_isOne FO C.nI C.nS
  have b := FO.binds (ps := ["names", "thing"]) fun _ _ _ _ _ _ us hl => match us, hl with | [_, _], _ => rfl
  refine F.ok scCkA (fun vs H Q E h => by obtain ⟨c, ns, x, e, _⟩ := h; rw [e]; rfl) fun cdv A outer s H vs Q E hr hsp => ?_
  obtain ⟨c, ns, x, rfl, hc, xin, hq⟩ := hsp
  refine ⟨_, pss_one (ps_if (pt_not (pt_val (pe_call G hr rfl C.gO FO.kp b .nil pass0 (pa_cons (pv 0) (pa_cons (pv 1) pa_nil))))) (pss_one ps_never) pss_nil), ?_⟩
  refine ⟨_, rfl, _, rfl, c, ns, x, rfl, hc, _, rfl, ?_⟩
  rw [decide_eq_true xin]
  exact iteF hq
theorem ok_ckB (C : Chk K mg aF aL aO aK aA aB) (F : Fun K "check_both" "check_both" sCkB aB fd) : FnOk P w K mg base CX0 4 aB fd ["names", "known", "asked"] (spCkB K) := by
  obtain ⟨fdK, FK⟩ := C.CK
  obtain ⟨fdA, FA⟩ := C.CA
  have GK := ok_ckK (P := P) (w := w) (base := base) C FK
  have bK := FK.binds (ps := ["names", "known"]) fun _ _ _ _ _ _ us hl => match us, hl with | [_, _], _ => rfl
  have GA := ok_ckA (P := P) (w := w) (base := base) C FA
  have bA := FA.binds (ps := ["names", "asked"]) fun _ _ _ _ _ _ us hl => match us, hl with | [_, _], _ => rfl
  refine F.ok scCkB (fun vs H Q E h => by obtain ⟨c, a, ns, known, x, e, _⟩ := h; rw [e]; rfl) fun cdv A outer s H vs Q E hr hsp => ?_
  obtain ⟨c, a, ns, known, x, rfl, hc, hS, nd1, sub, short, xin, hq⟩ := hsp
  refine ⟨_, pss_cons (ps_expr (pe_call GK hr rfl C.gCK FK.kp bK .nil pass0 (pa_cons (pv 0) (pa_cons (pv 1) pa_nil))))
    (pss_one (ps_expr (pe_call GA (hr.mono (by decide)) rfl C.gCA FA.kp bA .nil pass0 (pa_cons (pv 0) (pa_cons (pv 2) pa_nil))))), ?_⟩
  refine ⟨_, rfl, _, rfl, c, a, ns, known, rfl, hc, hS, nd1, sub, short, fun H1 k1 => ?_⟩
  exact ⟨_, rfl, _, rfl, c, ns, x, rfl, SqL.of (k1 _ _ hc), xin, hq H1 k1⟩
end
end L2.TB
namespace L2.TB
open PySem PySem.Spec PyProof.Rows
/-! what is walked is a list or a tuple -/
def iSeq (K : PySem.W.Frag) (tl : TE) : TI := fun σ H R => tl σ H fun x H1 => ∃ a xs, x = .ref a ∧ ((SqL K H1 a xs ∧ R (Itl K a) H1) ∨ (SqT K H1 a xs ∧ R (Itt K a) H1))
theorem pi_seq {X : Cx} {tg l : Expr} {tl : TE} (hl : PE X l tl) : PI X tg l (iSeq X.K tl) := by
  refine PI.mk fun pins z σ H R I reading => thn (hl.run pins z σ H _ I reading) fun v z1 ⟨x, H1, I1, rel, a, xs, ex, both⟩ => ?_
  subst ex
  obtain rfl : v = Value.ref a := rel
  have one : ∀ (o : Obj), FpOk X pins H1 z1.heap.objs.size := fun _ => I1.fpOk (Nat.le_refl _) (I1.hok.fresh (Nat.le_refl _))
  have fresh : ∀ b ∈ [z1.heap.objs.size], FpOk X pins H1 b := fun b hb => by
    obtain rfl := List.mem_singleton.mp hb
    exact I1.fpOk (Nat.le_refl _) (I1.hok.fresh (Nat.le_refl _))
  rcases both with ⟨sq, q⟩ | ⟨sq, q⟩
  · obtain ⟨its, rv, isL, _⟩ := I1.list sq
    exact wpAny_pyIter_list isL.isList ⟨_, _, _, _, H1, rfl, I1.kept (t' := z1.toks) (fun b o e => Heap.get?_push_of_some _ e), turn_list a _, ⟨_, Heap.get?_push_size _ rfl, rfl, rfl⟩, fresh, q⟩
  · obtain ⟨its, rv, isT, _⟩ := I1.tuple sq
    exact wpAny_pyIter_tuple (show z1.heap.IsTuple a its.toArray from isT) ⟨_, _, _, _, H1, rfl, I1.kept (t' := z1.toks) (fun b o e => Heap.get?_push_of_some _ e), turn_tuple a _, ⟨_, Heap.get?_push_size _ rfl, rfl, rfl⟩, fresh, q⟩
/-- a for loop over it -/
theorem for_seq {K : PySem.W.Frag} {a : Addr} {xs : List V} {o : HO} {g : TG} {tb : TS} {D : Ends} {σ : St} {H : Hp} (ko : o = .lst xs ∨ o = .tup xs) (Pv : Nat → St → Hp → Prop) (h0 : Pv 0 σ H) (hl : ∀ i σ H, i ≤ xs.length → Pv i σ H → H a = some o)
    (hs : ∀ i x σ H, xs[i]? = some x → Pv i σ H → g x σ H fun σ2 H2 => tb { D with nx := Pv (i + 1), ct := Pv (i + 1), bk := D.nx } σ2 H2) (hd : ∀ σ H, Pv xs.length σ H → D.nx σ H) :
    ∃ b ys, V.ref a = V.ref b ∧ ((SqL K H b ys ∧ ForW (Itl K b) g tb D σ H) ∨ (SqT K H b ys ∧ ForW (Itt K b) g tb D σ H)) := by
  have q0 := hl 0 σ H (Nat.zero_le _) h0
  rcases ko with rfl | rfl
  · exact ⟨a, xs, rfl, .inl ⟨SqL.of q0, for_list Pv h0 (fun i σ H le p => SqL.of (hl i σ H le p)) hs hd⟩⟩
  · exact ⟨a, xs, rfl, .inr ⟨SqT.of q0, for_tup Pv h0 (fun i σ H le p => SqT.of (hl i σ H le p)) hs hd⟩⟩
/-- what a list comprehension asks of its turns -/
def LcW (J : It) (g : TG) (tt : TT) (te : TE) (vs : List Nat) (σ : St) (H1 : Hp) (Q : Addr → Hp → Prop) : Prop := ∀ D, H1 D = none → ∃ W : Nat → Nat → Hp → Prop, (∃ m, W 0 m (upd H1 D (.lst []))) ∧ ∀ i m H, W i m H →
  (J.stop i H ∧ Q D H) ∨ (J.go i H ∧ ∃ Nx : Hp → Prop, (∀ H', Nx H' → ∃ m', m' < m ∧ W (i + 1) m' H') ∧ ∀ x H', J.yld i H x H' → g x (wipe σ vs) H' fun σ2 H2 => wipe σ2 vs = wipe σ vs ∧ tt σ2 H2 fun b H3 =>
    if b = true then te σ2 H3 fun y H4 => ∃ acc, H4 D = some (.lst acc) ∧ acc.length < sizeLine ∧ Nx (upd H4 D (.lst (acc ++ [y]))) else Nx H3)
/-- a turn of a comprehension: keep tells whether x is kept, fv x is what is made of it; nothing that was there is changed -/
def LcTurn (g : TG) (tt : TT) (te : TE) (vs : List Nat) (σ : St) (xs : List V) (keep : V → Bool) (fv : V → V) (H1 : Hp) : Prop :=
  ∀ (i : Nat) (x : V) (H : Hp) (C : V → Hp → Prop) (N : Hp → Prop), xs[i]? = some x → Same H1 H → (keep x = true → ∀ H4, Same H H4 → C (fv x) H4) → (keep x = false → ∀ H4, Same H H4 → N H4) →
    g x (wipe σ vs) H fun σ2 H2 => wipe σ2 vs = wipe σ vs ∧ tt σ2 H2 fun b H3 => if b = true then te σ2 H3 C else N H3
theorem filter_snoc (keep : V → Bool) (fv : V → V) {xs : List V} {i : Nat} {x : V} (ex : xs[i]? = some x) :
    ((xs.take (i + 1)).filter keep).map fv = ((xs.take i).filter keep).map fv ++ (if keep x = true then [fv x] else []) := by
  have e1 : xs.take (i + 1) = xs.take i ++ [x] := by rw [List.take_succ, ex]; rfl
  rw [e1, List.filter_append, List.map_append]
  congr 1
  cases h : keep x <;> simp [h]
theorem lc_seq {K : PySem.W.Frag} {a : Addr} {xs : List V} {o : HO} {g : TG} {tt : TT} {te : TE} {vs : List Nat} {σ : St} {H1 : Hp} {Q : Addr → Hp → Prop} (ko : o = .lst xs ∨ o = .tup xs) (ho : H1 a = some o) (short : xs.length < 1000000) (keep : V → Bool) (fv : V → V)
    (turn : LcTurn g tt te vs σ xs keep fv H1) (fin : ∀ H D, H1 D = none → H D = some (.lst ((xs.filter keep).map fv)) → Same H1 H → Q D H) :
    ∃ b ys, V.ref a = V.ref b ∧ ((SqL K H1 b ys ∧ LcW (Itl K b) g tt te vs σ H1 Q) ∨ (SqT K H1 b ys ∧ LcW (Itt K b) g tt te vs σ H1 Q)) := by
  have go : ∀ D, H1 D = none → ∀ (i : Nat) (x : V) (H : Hp), xs[i]? = some x → (H D = some (.lst (((xs.take i).filter keep).map fv)) ∧ Same H1 H) → g x (wipe σ vs) H fun σ2 H2 => wipe σ2 vs = wipe σ vs ∧ tt σ2 H2 fun b H3 =>
      if b = true then te σ2 H3 fun y H4 => ∃ acc, H4 D = some (.lst acc) ∧ acc.length < sizeLine ∧ ((upd H4 D (.lst (acc ++ [y]))) D = some (.lst (((xs.take (i + 1)).filter keep).map fv)) ∧ Same H1 (upd H4 D (.lst (acc ++ [y])))) else (H3 D = some (.lst (((xs.take (i + 1)).filter keep).map fv)) ∧ Same H1 H3) := by
    rintro D nD i x H ex ⟨oD, s1⟩
    refine turn i x H _ _ ex s1 (fun k H4 s4 => ⟨_, s4 _ _ oD, ?_, ?_, ?_⟩) (fun k H4 s4 => ⟨?_, s1.trans s4⟩)
    · rw [sizeLine_eq, List.length_map]
      have := List.length_filter_le keep (xs.take i)
      rw [List.length_take] at this
      omega
    · rw [upd_same, filter_snoc keep fv ex, if_pos k]
    · intro b u e
      have nb : b ≠ D := ne_of_none e nD
      rw [upd_ne nb]
      exact s4 _ _ (s1 _ _ e)
    · rw [filter_snoc keep fv ex, k]
      simpa using s4 _ _ oD
  have all : xs.take xs.length = xs := List.take_length
  rcases ko with rfl | rfl
  · exact ⟨a, xs, rfl, .inl ⟨SqL.of ho, fun D nD => lc_list (xs := xs) (fun i H => H D = some (.lst (((xs.take i).filter keep).map fv)) ∧ Same H1 H) ⟨upd_same, same_new nD⟩ (fun i H _ p => SqL.of (p.2 _ _ ho)) (fun i x H ex p => go D nD i x H ex p)
      (fun H p => fin H D nD (by rw [all] at p; exact p.1) p.2)⟩⟩
  · exact ⟨a, xs, rfl, .inr ⟨SqT.of ho, fun D nD => lc_tup (xs := xs) (fun i H => H D = some (.lst (((xs.take i).filter keep).map fv)) ∧ Same H1 H) ⟨upd_same, same_new nD⟩ (fun i H _ p => SqT.of (p.2 _ _ ho)) (fun i x H ex p => go D nD i x H ex p)
      (fun H p => fin H D nD (by rw [all] at p; exact p.1) p.2)⟩⟩
end L2.TB
namespace L2.TB
open PySem PySem.Spec PyProof.Rows
/-! the table and its methods -/
def tabF (qa ra : Addr) : List (Str × V) := [("_questions", .ref qa), ("_rows", .ref ra)]
theorem tabF_q (qa ra : Addr) : (tabF qa ra).lookup ("_questions" : Str) = some (V.ref qa) := rfl
theorem tabF_r (qa ra : Addr) : (tabF qa ra).lookup ("_rows" : Str) = some (V.ref ra) := rfl
/-- the rows of the list at ra -/
def TRows (H : Hp) (ra : Addr) (n : Nat) (tbl : List (List Int)) : Prop := ∃ ps : List Addr, H ra = some (.lst (ps.map V.ref)) ∧ Paired (fun p vs => H p = some (.tup (vs.map V.int)) ∧ vs.length = n) ps tbl
structure TabAt (H : Hp) (C a : Addr) (ns : List Str) (tbl : List (List Int)) : Prop where
  ex : ∃ dx qa ra, H a = some (.ins C dx (tabF qa ra)) ∧ H qa = some (.lst (ns.map V.str)) ∧ TRows H ra ns.length tbl
theorem TRows.same {H H' : Hp} {ra : Addr} {n : Nat} {tbl : List (List Int)} (t : TRows H ra n tbl) (s : Same H H') : TRows H' ra n tbl := by
  obtain ⟨ps, o, r⟩ := t
  exact ⟨ps, s _ _ o, Paired.mapP r fun p vs h => ⟨s _ _ h.1, h.2⟩⟩
theorem TabAt.same {H H' : Hp} {C a : Addr} {ns : List Str} {tbl : List (List Int)} (t : TabAt H C a ns tbl) (s : Same H H') : TabAt H' C a ns tbl := by
  obtain ⟨dx, qa, ra, h1, h2, h3⟩ := t.ex
  exact ⟨dx, qa, ra, s _ _ h1, s _ _ h2, h3.same s⟩
structure TabC (K : PySem.W.Frag) (C : Addr) : Prop where
  cl : Cls K C
  nQ : NoAttr K C "_questions"
  nR : NoAttr K C "_rows"
def spQs (K : PySem.W.Frag) (C : Addr) : Sp := fun vs H Q _ => ∃ (a : Addr) (ns : List Str) (tbl : List (List Int)), vs = [.ref a] ∧ TabAt H C a ns tbl ∧ ∀ H' q, H q = none → H' q = some (.lst (ns.map V.str)) → Same H H' → Q (.ref q) H'
def idx (ns : List Str) (x : Str) : Nat := ns.idxOf x
def spPlaces (K : PySem.W.Frag) (C : Addr) : Sp := fun vs H Q _ => ∃ (a b : Addr) (ns known : List Str) (tbl : List (List Int)), vs = [.ref a, .ref b] ∧ TabAt H C a ns tbl ∧ SqA K H b (known.map V.str) ∧ (∀ x ∈ known, x ∈ ns) ∧ known.length < 1000 ∧
  ∀ H' q, H q = none → H' q = some (.lst (known.map fun x => V.int (idx ns x : Nat))) → Same H H' → Q (.ref q) H'
theorem scQs : FnScope ["self"] ["self"] (defScope sQs) := ⟨rfl, rfl, rfl, by decide +kernel, rfl, by decide +kernel, by decide +kernel⟩
abbrev NP : List Str := ["self", "names", "name"]
theorem scPlaces : FnScope NP ["self", "names"] (defScope sPlaces) := ⟨rfl, rfl, rfl, by decide +kernel, rfl, by decide +kernel, by decide +kernel⟩
theorem idx_at {ns : List Str} {x : Str} (h : x ∈ ns) : (ns.map V.str)[idx ns x]? = some (.str x) ∧ ∀ (m : Nat) (z : V), m < idx ns x → (ns.map V.str)[m]? = some z → eqV z (.str x) = false := by
  have lt : idx ns x < ns.length := List.idxOf_lt_length_of_mem h
  refine ⟨?_, fun m z lm ez => ?_⟩
  · rw [List.getElem?_map, List.getElem?_eq_getElem lt]
    have e : ns[idx ns x] = x := List.getElem_idxOf lt
    rw [e]; rfl
  · rw [List.getElem?_map] at ez
    obtain ⟨y, ey, rfl⟩ := Option.map_eq_some_iff.mp ez
    rw [str_inj]
    refine decide_eq_false fun q => ?_
    subst q
    have : idx ns y ≤ m := by
      obtain ⟨hm, em⟩ := List.getElem?_eq_some_iff.mp ey
      by_cases c : m < idx ns y
      · have z := List.not_of_lt_findIdx (p := fun a => a == y) (xs := ns) (i := m) c
        rw [em] at z
        simp at z
      · omega
    omega
section
variable {P : Program} {w : World} {K : PySem.W.Frag} {mg : Str → Option Value} {base : Heap} {f C : Addr} {fd : FuncData}
theorem ok_qs (F : Fun K "questions" "Table.questions" sQs f fd) (T : TabC K C) (gL : mg "list" = none) : FnOk P w K mg base CX0 1 f fd ["self"] (spQs K C) := by
  refine F.ok scQs (fun vs H Q E h => by obtain ⟨a, ns, tbl, e, _⟩ := h; rw [e]; rfl) fun cdv A outer s H vs Q E hr hsp => ?_
  obtain ⟨a, ns, tbl, rfl, ⟨dx, qa, ra, ha, hqa, hra⟩, hq⟩ := hsp
  refine ⟨_, pss_one (ps_ret (pe_callTy call_list_of rfl gL (by decide +kernel) (pa_cons (pe_fld (pv 0) rfl) pa_nil))), ?_⟩
  exact ⟨_, rfl, _, _, _, _, _, rfl, ha, T.cl, T.nQ, tabF_q _ _, _, _, rfl, .inl (SqL.of hqa), fun q nq => hq _ q nq upd_same (same_new nq)⟩
theorem ok_places (F : Fun K "_places" "Table._places" sPlaces f fd) (T : TabC K C) : FnOk P w K mg base CX0 1 f fd ["self", "names"] (spPlaces K C) := by
  refine F.ok scPlaces (fun vs H Q E h => by obtain ⟨a, b, ns, known, tbl, e, _⟩ := h; rw [e]; rfl) fun cdv A outer s H vs Q E hr hsp => ?_
  obtain ⟨a, b, ns, known, tbl, rfl, ⟨dx, qa, ra, ha, hqa, hra⟩, hb, sub, short, hq⟩ := hsp
  have nd := scPlaces.nd
  refine ⟨_, pss_one (ps_ret (pe_lc (own := [("name", 2)]) (tt := tYes) (te := tBM K "list" (rIndex K) (tFld K (tVar 0) "_questions") (tCons (tVar 2) tNil)) rfl nd (pi_seq (pv 1)) (blkOk_by (N := NP) (sc := defScope sPlaces) (by decide +kernel))
    (fun _ _ _ _ _ => pg_name (i := 2) nd rfl (Or.inl rfl)) (fun _ _ _ _ _ => pts_nil) (fun _ _ _ _ _ => pe_bm PySem.F.plainAttrs_list PySem.F.slot_list_index PySem.F.type_list_index mt_index (pe_fld (pv 0) rfl) (pa_cons (pv 2) pa_nil)))), ?_⟩
  obtain ⟨o, ho, ko⟩ : ∃ o, H b = some o ∧ (o = .lst (known.map V.str) ∨ o = .tup (known.map V.str)) := by
    rcases hb with e | e
    · exact ⟨_, e, .inl rfl⟩
    · exact ⟨_, e, .inr rfl⟩
  refine ⟨_, rfl, lc_seq ko ho (by rw [List.length_map]; omega) (fun _ => true) (fun v => match v with | .str x => .int (idx ns x : Nat) | _ => .non) ?_ ?_⟩
  · rintro i v H2 D N ev s2 yes no
    rw [List.getElem?_map] at ev
    obtain ⟨x, ex, rfl⟩ := Option.map_eq_some_iff.mp ev
    have xin : x ∈ ns := sub x (List.mem_of_getElem? ex)
    obtain ⟨i1, i2⟩ := idx_at xin
    refine ⟨rfl, ?_⟩
    refine ⟨_, rfl, _, _, _, _, _, rfl, s2 _ _ ha, T.cl, T.nQ, tabF_q _ _, .inl ⟨rfl, _, SqL.of (s2 _ _ hqa)⟩, _, rfl, ?_⟩
    exact ⟨qa, _, .str x, idx ns x, .str x, rfl, rfl, SqL.of (s2 _ _ hqa), rfl, flat_strs ns, i1, by rw [str_inj]; simp, i2, yes rfl H2 (Same.refl _)⟩
  · intro H2 q nq oq s2
    refine hq H2 q nq ?_ s2
    rw [oq, List.filter_eq_self.mpr (fun _ _ => rfl), List.map_map]
    rfl
end
end L2.TB
namespace L2.TB
open PySem PySem.Spec PyProof.Rows
/-! two rows that part -/
/-- the answer of a row -/
def av (ns : List Str) (vs : List Int) (x : Str) : Int := vs.getD (idx ns x) 0
def keyR (ns known : List Str) (vs : List Int) : List Int := known.map (av ns vs)
def keyK (ks : List Int) : List Key := ks.map Sum.inl
theorem keyK_kV (ks : List Int) : (keyK ks).map kV = ks.map V.int := by
  unfold keyK; rw [List.map_map]; rfl
theorem keyK_inj {a b : List Int} (h : keyK a = keyK b) : a = b := by
  unfold keyK at h
  exact (List.map_inj_right (fun x y e => Sum.inl.inj e)).mp h
/-- known tells asked, over these rows -/
def Tells (ns : List Str) (tbl : List (List Int)) (known : List Str) (x : Str) : Prop := ∀ u ∈ tbl, ∀ v ∈ tbl, keyR ns known u = keyR ns known v → av ns u x = av ns v x
instance (ns tbl known x) : Decidable (Tells ns tbl known x) := by unfold Tells; exact inferInstance
def spParting (K : PySem.W.Frag) (C : Addr) : Sp := fun vs H Q _ => ∃ (a b : Addr) (ns known : List Str) (x : Str) (tbl : List (List Int)), vs = [.ref a, .ref b, .str x] ∧ TabAt H C a ns tbl ∧ SqA K H b (known.map V.str) ∧ (∀ x ∈ known, x ∈ ns) ∧ known.length < 1000 ∧ x ∈ ns ∧ tbl.length < 1000 ∧
  (Tells ns tbl known x → ∀ H', Same H H' → Q .non H') ∧
  (¬ Tells ns tbl known x → ∀ H' t p q u v, H t = none → H' t = some (.tup [.ref p, .ref q]) → u ∈ tbl → v ∈ tbl → H' p = some (.tup (u.map V.int)) → H' q = some (.tup (v.map V.int)) → keyR ns known u = keyR ns known v → av ns u x ≠ av ns v x → Same H H' → Q (.ref t) H')
abbrev NPa : List Str := ["self", "known", "asked", "places", "place", "first", "row", "key", "k"]
theorem scParting : FnScope NPa ["self", "known", "asked"] (defScope sParting) := ⟨rfl, rfl, rfl, by decide +kernel, rfl, by decide +kernel, by decide +kernel⟩
/-- what the dict of first rows knows behind i rows -/
structure First (ns known : List Str) (x : Str) (ps : List Addr) (tbl : List (List Int)) (i : Nat) (kvs : List (List Key × V)) : Prop where
  has : ∀ (j : Nat) (v : List Int), j < i → tbl[j]? = some v → ∃ (j0 : Nat) (u : List Int), tbl[j0]? = some u ∧ ∃ p : Addr, ps[j0]? = some p ∧ valV kvs (keyK (keyR ns known v)) = some (.ref p) ∧ keyR ns known u = keyR ns known v ∧ av ns u x = av ns v x
  from_ : ∀ (k : List Key) (y : V), valV kvs k = some y → ∃ (j : Nat) (u : List Int) (p : Addr), tbl[j]? = some u ∧ ps[j]? = some p ∧ y = .ref p ∧ k = keyK (keyR ns known u)
  len : kvs.length ≤ i
theorem av_at {ns : List Str} {vs : List Int} {x : Str} (h : x ∈ ns) (hl : vs.length = ns.length) : atI (vs.map V.int) ((idx ns x : Nat) : Int) = some (.int (av ns vs x)) := by
  have lt : idx ns x < ns.length := List.idxOf_lt_length_of_mem h
  refine atI_nat ?_
  rw [List.getElem?_map, List.getElem?_eq_getElem (by omega)]
  unfold av
  rw [List.getD_eq_getElem?_getD, List.getElem?_eq_getElem (by omega)]
  rfl
theorem paired_get {α β : Type} {F : α → β → Prop} {as : List α} {bs : List β} (p : Paired F as bs) : ∀ {i : Nat} {a : α}, as[i]? = some a → ∃ b, bs[i]? = some b ∧ F a b := by
  induction p with
  | nil => intro i a h; simp at h
  | cons h t ih =>
    intro i a e
    cases i with
    | zero =>
      obtain rfl := Option.some.inj e
      exact ⟨_, rfl, h⟩
    | succ i => exact ih (i := i) e
section
variable {P : Program} {w : World} {K : PySem.W.Frag} {mg : Str → Option Value} {base : Heap} {f C fP : Addr} {fd fdP : FuncData}
theorem ok_parting (F : Fun K "_parting_rows" "Table._parting_rows" sParting f fd) (FP : Fun K "_places" "Table._places" sPlaces fP fdP) (mP : Meth K C "_places" fP) (T : TabC K C) (gT : mg "tuple" = none) : FnOk P w K mg base CX0 2 f fd ["self", "known", "asked"] (spParting K C) := by
  have G : FnOk P w K mg base CX0 1 fP fdP ["self", "names"] (spPlaces K C) := ok_places FP T
  have b := FP.binds (ps := ["self", "names"]) fun _ _ _ _ _ _ us hl => match us, hl with | [_, _], _ => rfl
  refine F.ok scParting (fun vs H Q E h => by obtain ⟨a, b, ns, known, x, tbl, e, _⟩ := h; rw [e]; rfl) fun cdv A outer s H vs Q E hr hsp => ?_
  obtain ⟨a, bk, ns, known, x, tbl, rfl, hT, hb, sub, short, xin, shortT, yes, no⟩ := hsp
  have nd := scParting.nd
  have hu := hu_of hr
  refine ⟨_, pss_cons (ps_set (i := 3) nd rfl (Or.inl rfl) (pe_meth (pv 0) T.cl mP G hr b .nil pass0 (pa_cons (pv 1) pa_nil)))
    (pss_cons (ps_set (i := 4) nd rfl (Or.inl rfl) (pe_bm PySem.F.plainAttrs_list PySem.F.slot_list_index PySem.F.type_list_index mt_index (pe_fld (pv 0) rfl) (pa_cons (pv 2) pa_nil)))
    (pss_cons (ps_set (i := 5) nd rfl (Or.inl rfl) pe_dnewT)
    (pss_cons (ps_for PassesOwn.never rfl (pi_seq (pe_fld (pv 0) rfl)) (pg_name (i := 6) nd rfl (Or.inr rfl))
      (pss_cons (ps_set (i := 7) nd rfl (Or.inl rfl) (pe_callTy call_tuple_of rfl gT boot_tuple' (pa_cons (pe_lc (own := [("k", 8)]) (tt := tYes) rfl nd (pi_seq (pv 3)) (blkOk_by (N := NPa) (sc := defScope sParting) (by decide +kernel))
          (fun _ _ _ _ _ => pg_name (i := 8) nd rfl (Or.inl rfl)) (fun _ _ _ _ _ => pts_nil) (fun _ _ _ _ _ => pe_ix (r := rIxT K) ix_tup (pv 6) (pv 8) (fun _ _ => rfl))) pa_nil)))
      (pss_one (ps_if (pt_cmp (pc_dnotin hu (pv 7) (pv 5))) (pss_one (ps_dput hu (pv 5) (pv 7) (pv 6) rfl))
        (pss_one (ps_if (pt_cmpR op_ne (pe_ix ix_tup (pe_dget hu (pv 5) (pv 7) (fun _ _ => rfl)) (pv 4) (fun _ _ => rfl)) (pe_ix ix_tup (pv 6) (pv 4) (fun _ _ => rfl)) (nomark _))
          (pss_one (ps_ret (pe_tup (pa_cons (pe_dget hu (pv 5) (pv 7) (fun _ _ => rfl)) (pa_cons (pv 6) pa_nil))))) pss_nil))))))
    (pss_one (ps_ret pe_non))))), ?_⟩
  obtain ⟨dx, qa, ra, ha, hqa, hra⟩ := hT.ex
  refine ⟨_, rfl, a, dx, _, rfl, ha, rfl, _, rfl, a, bk, ns, known, tbl, rfl, hT, hb, sub, short, fun H1 pl npl opl s1 => ?_⟩
  obtain ⟨i1, i2⟩ := idx_at xin
  refine ⟨_, rfl, _, _, _, _, _, rfl, s1 _ _ ha, T.cl, T.nQ, tabF_q _ _, .inl ⟨rfl, _, SqL.of (s1 _ _ hqa)⟩, _, rfl, qa, _, .str x, idx ns x, .str x, rfl, rfl, SqL.of (s1 _ _ hqa), rfl, flat_strs ns, i1, by rw [str_inj]; simp, i2, ?_⟩
  intro d nd1
  have sd := same_new (o := .dT []) nd1
  obtain ⟨ps, ora, prs⟩ := hra.same s1
  have lps : ps.length = tbl.length := Paired.length prs
  refine ⟨_, rfl, _, _, _, _, _, rfl, sd _ _ (s1 _ _ ha), T.cl, T.nR, tabF_r _ _, for_seq (.inl rfl) (fun i σ H' => H' ra = some (.lst (ps.map V.ref)) ∧ Same H1 H' ∧ ∃ kvs s6 s7 s8, σ = [some (.ref a), some (.ref bk), some (.str x), some (.ref pl), some (.int (idx ns x : Nat)), some (.ref d), s6, s7, s8] ∧ H' d = some (.dT kvs) ∧ First ns known x ps tbl i kvs)
    ⟨sd _ _ ora, sd, [], _, _, _, rfl, upd_same, ⟨fun j v z => absurd z (Nat.not_lt_zero _), fun k y e => by simp [valV] at e, Nat.zero_le _⟩⟩ (fun i σ H' _ h => h.1) ?_ ?_⟩
  · rintro i vp σ H2 evp ⟨ora2, s2, kvs, s6, s7, s8, rfl, od, FS⟩
    rw [List.getElem?_map] at evp
    obtain ⟨p, ep, rfl⟩ := Option.map_eq_some_iff.mp evp
    obtain ⟨v, ev, op, lv⟩ := paired_get prs ep
    have op2 := s2 _ _ op
    have vin : v ∈ tbl := List.mem_of_getElem? ev
    have hi : i < tbl.length := (List.getElem?_eq_some_iff.mp ev).1
    -- the key
    refine ⟨_, rfl, lc_seq (.inl rfl) (s2 _ _ opl) (by rw [List.length_map]; omega) (fun _ => true) (fun y => match y with | .int n => .int (v.getD n.toNat 0) | _ => .non) ?_ ?_⟩
    · rintro j y H3 Cn Nn ey s3 yes3 no3
      rw [List.getElem?_map] at ey
      obtain ⟨z, ez, rfl⟩ := Option.map_eq_some_iff.mp ey
      have zin : z ∈ ns := sub z (List.mem_of_getElem? ez)
      refine ⟨rfl, ?_⟩
      exact ⟨_, rfl, _, rfl, p, _, _, _, rfl, rfl, SqT.of (s3 _ _ op2), av_at zin lv, yes3 rfl H3 (Same.refl _)⟩
    · intro H3 l nl ol s3
      have ekey : ((known.map fun x => V.int (idx ns x : Nat)).filter fun _ => true).map (fun y => match y with | V.int n => V.int (v.getD n.toNat 0) | _ => V.non) = (keyK (keyR ns known v)).map kV := by
        rw [keyK_kV, List.filter_eq_self.mpr (fun _ _ => rfl), List.map_map]
        unfold keyR
        rw [List.map_map]
        rfl
      rw [ekey] at ol
      refine ⟨l, _, rfl, .inl ⟨SqL.of ol, fun kt nkt => ?_⟩⟩
      have sk := same_new (o := .tup ((keyK (keyR ns known v)).map kV)) nkt
      have ok3 : upd H3 kt (.tup ((keyK (keyR ns known v)).map kV)) kt = some (.tup ((keyK (keyR ns known v)).map kV)) := upd_same
      generalize upd H3 kt (.tup ((keyK (keyR ns known v)).map kV)) = H4 at sk ok3
      have s24 := s3.trans sk
      have od4 := s24 _ _ od
      have op4 := s24 _ _ op2
      have ndk : ∀ {u o}, H1 u = some o → u ≠ d := fun e => ne_of_none e nd1
      refine ⟨_, rfl, _, rfl, d, _, rfl, DGet.t od4 ok3, _, rfl, ?_⟩
      cases ek : valV kvs (keyK (keyR ns known v)) with
      | none =>
        refine iteT ?_
        refine ⟨_, rfl, _, rfl, _, rfl, d, _, rfl, DPut.t od4 ok3 (by rw [sizeLine_eq]; have := FS.len; omega), ?_, ?_, putK kvs (keyK (keyR ns known v)) (.ref p), _, _, _, rfl, upd_same, ?_⟩
        · rw [upd_ne (ndk ora)]; exact s24 _ _ ora2
        · intro b' u' e
          rw [upd_ne (ndk e)]; exact s24 _ _ (s2 _ _ e)
        · refine ⟨fun j v' hj ev' => ?_, fun k y e => ?_, ?_⟩
          · by_cases hji : j = i
            · subst hji
              rw [ev] at ev'
              obtain rfl := Option.some.inj ev'
              exact ⟨j, v, ev, p, ep, by rw [valV_put, if_pos rfl], rfl, rfl⟩
            · obtain ⟨j0, u, eu, p0, ep0, e0, k0, a0⟩ := FS.has j v' (by omega) ev'
              refine ⟨j0, u, eu, p0, ep0, ?_, k0, a0⟩
              rw [valV_put, if_neg, e0]
              intro z
              rw [z, ek] at e0; cases e0
          · rw [valV_put] at e
            by_cases hk : k = keyK (keyR ns known v)
            · rw [if_pos hk] at e
              obtain rfl := Option.some.inj e
              exact ⟨i, v, p, ev, ep, rfl, hk⟩
            · rw [if_neg hk] at e
              exact FS.from_ k y e
          · rw [putK_new _ ek, List.length_append]
            have := FS.len
            show kvs.length + 1 ≤ _
            omega
      | some y =>
        refine iteF ?_
        obtain ⟨j0, u, p0, eu, ep0, rfl, ek0⟩ := FS.from_ _ _ ek
        have ek1 : keyR ns known u = keyR ns known v := (keyK_inj ek0).symm
        obtain ⟨u', eu', op0, lu⟩ := paired_get prs ep0
        rw [eu] at eu'
        obtain rfl := Option.some.inj eu'
        have op04 := s24 _ _ (s2 _ _ op0)
        have uin : u ∈ tbl := List.mem_of_getElem? eu
        have dg : DGet H4 d (.ref kt) (some (.ref p0)) := ek ▸ DGet.t od4 ok3
        refine ⟨_, rfl, _, rfl, d, _, rfl, dg, _, rfl, p0, _, _, _, rfl, rfl, SqT.of op04, av_at xin lu, _, rfl, _, rfl, p, _, _, _, rfl, rfl, SqT.of op4, av_at xin lv, rfl, _, rfl, ite2 (fun e => ?_) (fun e => ?_)⟩
        · refine ⟨_, rfl, _, rfl, d, _, rfl, dg, _, rfl, (by show 2 ≤ sizeLine; decide), fun t nt => ?_⟩
          have st := same_new (o := .tup [.ref p0, .ref p]) nt
          have s14 : Same H1 H4 := s2.trans s24
          have nt0 : H t = none := (s1.trans s14).free nt
          refine no (fun T => ?_) _ t p0 p u v nt0 upd_same uin vin (st _ _ op04) (st _ _ op4) ek1 ?_ ((s1.trans s14).trans st)
          · rw [T u uin v vin ek1, decide_eq_true rfl] at e
            cases e
          · intro z
            rw [z, decide_eq_true rfl] at e
            cases e
        · refine ⟨s24 _ _ ora2, s2.trans s24, kvs, _, _, _, rfl, od4, ?_⟩
          refine ⟨fun j v' hj ev' => ?_, FS.from_, Nat.le_succ_of_le FS.len⟩
          by_cases hji : j = i
          · subst hji
            rw [ev] at ev'
            obtain rfl := Option.some.inj ev'
            refine ⟨j0, u, eu, p0, ep0, ek, ek1, ?_⟩
            by_cases z : av ns u x = av ns v x
            · exact z
            · have z2 : ¬ V.int (av ns u x) = V.int (av ns v x) := fun y => z (V.int.inj y)
              rw [decide_eq_false z2] at e
              exact absurd rfl e
          · exact FS.has j v' (by omega) ev'
  · rintro σ H2 ⟨ora2, s2, kvs, s6, s7, s8, rfl, od, FS⟩
    refine yes (fun u hu v hv e => ?_) _ (s1.trans s2)
    obtain ⟨j, hj, eu⟩ := List.getElem_of_mem hu
    obtain ⟨j', hj', ev⟩ := List.getElem_of_mem hv
    have lt : ∀ n, n < tbl.length → n < (ps.map V.ref).length := fun n h => by rw [List.length_map]; omega
    obtain ⟨j0, u0, eu0, p0, ep0, w0, k0, a0⟩ := FS.has j u (lt _ hj) (by rw [List.getElem?_eq_getElem hj, eu])
    obtain ⟨j1, u1, eu1, p1, ep1, w1, k1, a1⟩ := FS.has j' v (lt _ hj') (by rw [List.getElem?_eq_getElem hj', ev])
    rw [e, w1] at w0
    have ep : p1 = p0 := V.ref.inj (Option.some.inj w0)
    subst ep
    obtain ⟨x0, ex0, o0, _⟩ := paired_get prs ep0
    obtain ⟨x1, ex1, o1, _⟩ := paired_get prs ep1
    rw [eu0] at ex0
    rw [eu1] at ex1
    obtain rfl := Option.some.inj ex0
    obtain rfl := Option.some.inj ex1
    rw [o0] at o1
    have same : u0.map V.int = u1.map V.int := HO.tup.inj (Option.some.inj o1)
    have same2 : u0 = u1 := (List.map_inj_right (fun x y e => V.int.inj e)).mp same
    rw [← a0, ← a1, same2]
end
end L2.TB
namespace L2.TB
open PySem PySem.Spec PyProof.Rows
/-! what is told -/
/-- the places of the table's methods -/
structure TabM (K : PySem.W.Frag) (C fQ fI fPl fPr : Addr) : Prop extends TabC K C where
  Q : ∃ fd, Fun K "questions" "Table.questions" sQs fQ fd
  I : ∃ fd, Fun K "is_told" "Table.is_told" sIsTold fI fd
  L : ∃ fd, Fun K "_places" "Table._places" sPlaces fPl fd
  R : ∃ fd, Fun K "_parting_rows" "Table._parting_rows" sParting fPr fd
  mQ : Meth K C "questions" fQ
  mI : Meth K C "is_told" fI
  mL : Meth K C "_places" fPl
  mR : Meth K C "_parting_rows" fPr
/-- a table and known ones of it -/
structure Asked (K : PySem.W.Frag) (H : Hp) (C a b : Addr) (ns known : List Str) (tbl : List (List Int)) : Prop where
  t : TabAt H C a ns tbl
  k : SqA K H b (known.map V.str)
  nd : known.Nodup
  sub : ∀ x ∈ known, x ∈ ns
  s1 : ns.length < 1000
  s2 : tbl.length < 1000
  ndn : ns.Nodup
theorem Asked.short {K : PySem.W.Frag} {H : Hp} {C a b : Addr} {ns known : List Str} {tbl : List (List Int)} (h : Asked K H C a b ns known tbl) : known.length < 1000 := by
  have := List.Nodup.length_le_of_subset h.nd (fun x hx => h.sub x hx)
  have := h.s1
  omega
theorem Asked.same {K : PySem.W.Frag} {H H' : Hp} {C a b : Addr} {ns known : List Str} {tbl : List (List Int)} (h : Asked K H C a b ns known tbl) (s : Same H H') : Asked K H' C a b ns known tbl :=
  ⟨h.t.same s, h.k.same s, h.nd, h.sub, h.s1, h.s2, h.ndn⟩
def spIsTold (K : PySem.W.Frag) (C : Addr) : Sp := fun vs H Q _ => ∃ (a b : Addr) (ns known : List Str) (x : Str) (tbl : List (List Int)), vs = [.ref a, .ref b, .str x] ∧ Asked K H C a b ns known tbl ∧ x ∈ ns ∧ ∀ H', Same H H' → Q (.bl (decide (Tells ns tbl known x))) H'
def toldL (ns : List Str) (tbl : List (List Int)) (known : List Str) : List Str := ns.filter fun x => decide (Tells ns tbl known x)
theorem scIsTold : FnScope ["self", "known", "asked"] ["self", "known", "asked"] (defScope sIsTold) := ⟨rfl, rfl, rfl, by decide +kernel, rfl, by decide +kernel, by decide +kernel⟩
def isStr (f : Str → Bool) : V → Bool
  | .str x => f x
  | _ => false
theorem filter_strs (f : Str → Bool) (xs : List Str) : ((xs.map V.str).filter (isStr f)).map id = (xs.filter f).map V.str := by
  rw [List.map_id, List.filter_map]; rfl
section
variable {P : Program} {w : World} {K : PySem.W.Frag} {mg : Str → Option Value} {base : Heap} {f C fQ fI fPl fPr aF aL aO aK aA aB : Addr} {fd : FuncData}
theorem ok_isTold (F : Fun K "is_told" "Table.is_told" sIsTold f fd) (T : TabM K C fQ fI fPl fPr) (Ck : Chk K mg aF aL aO aK aA aB) : FnOk P w K mg base CX0 5 f fd ["self", "known", "asked"] (spIsTold K C) := by
  obtain ⟨fdB, FB⟩ := Ck.CB
  have GB := ok_ckB (P := P) (w := w) (base := base) Ck FB
  have bB := FB.binds (ps := ["names", "known", "asked"]) fun _ _ _ _ _ _ us hl => match us, hl with | [_, _, _], _ => rfl
  obtain ⟨fdL, FL⟩ := T.L
  obtain ⟨fdR, FR⟩ := T.R
  have GR := ok_parting (P := P) (w := w) (mg := mg) (base := base) FR FL T.mL T.toTabC Ck.nT
  have bR := FR.binds (ps := ["self", "known", "asked"]) fun _ _ _ _ _ _ us hl => match us, hl with | [_, _, _], _ => rfl
  refine F.ok scIsTold (fun vs H Q E h => by obtain ⟨a, b, ns, known, x, tbl, e, _⟩ := h; rw [e]; rfl) fun cdv A outer s H vs Q E hr hsp => ?_
  obtain ⟨a, b, ns, known, x, tbl, rfl, ask, xin, hq⟩ := hsp
  refine ⟨_, pss_cons (ps_expr (pe_call GB hr rfl Ck.gCB FB.kp bB .nil pass0 (pa_cons (pe_fld (pv 0) rfl) (pa_cons (pv 1) (pa_cons (pv 2) pa_nil)))))
    (pss_one (ps_ret (pe_cmp (pc_isN (pe_meth (pv 0) T.cl T.mR GR (hr.mono (by decide)) bR .nil pass0 (pa_cons (pv 1) (pa_cons (pv 2) pa_nil))))))), ?_⟩
  obtain ⟨dx, qa, ra, ha, hqa, hra⟩ := ask.t.ex
  refine ⟨_, rfl, _, _, _, _, _, rfl, ha, T.cl, T.nQ, tabF_q _ _, _, rfl, _, rfl, qa, b, ns, known, x, rfl, hqa, ask.k, ask.nd, ask.sub, ask.short, xin, fun H1 s1 => ?_⟩
  refine ⟨_, rfl, a, dx, _, rfl, s1 _ _ ha, rfl, _, rfl, _, rfl, a, b, ns, known, x, tbl, rfl, ask.t.same s1, ask.k.same s1, ask.sub, ask.short, xin, ask.s2, fun yes H' s' => ?_, fun no H' t p q u v _ _ _ _ _ _ _ _ s' => ?_⟩
  · have z := hq H' (s1.trans s')
    rw [decide_eq_true yes] at z
    exact z
  · have z := hq H' (s1.trans s')
    rw [decide_eq_false no] at z
    exact z
end
end L2.TB
namespace L2.TB
open PySem PySem.Spec PyProof.Rows
theorem boot_all' : bootBuiltins "all" = some (.builtin "all") := by decide +kernel
/-- a comprehension without a test over anything: ys is what it makes -/
theorem lc_gen {J : It} {g : TG} {tt : TT} {te : TE} {vs : List Nat} {σ : St} {H1 : Hp} {Q : Addr → Hp → Prop} (ys : List V) (short : ys.length < 1000000) (go : ∀ i H, Same H1 H → i < ys.length → J.go i H) (stop : ∀ H, Same H1 H → J.stop ys.length H)
    (turn : ∀ (i : Nat) (x y : V) (H H' : Hp) (C : V → Hp → Prop) (N : Hp → Prop), ys[i]? = some y → Same H1 H → J.yld i H x H' → (∀ H4, Same H H4 → C y H4) → g x (wipe σ vs) H' fun σ2 H2 => wipe σ2 vs = wipe σ vs ∧ tt σ2 H2 fun b H3 => if b = true then te σ2 H3 C else N H3)
    (fin : ∀ H D, H1 D = none → H D = some (.lst ys) → Same H1 H → Q D H) : LcW J g tt te vs σ H1 Q := by
  intro D nD
  refine ⟨fun i m H => m = ys.length - i ∧ i ≤ ys.length ∧ H D = some (.lst (ys.take i)) ∧ Same H1 H, ⟨_, rfl, Nat.zero_le _, upd_same, same_new nD⟩, ?_⟩
  rintro i m H ⟨rfl, le, oD, s1⟩
  by_cases lt : i < ys.length
  · refine .inr ⟨go i H s1 lt, fun H' => H' D = some (.lst (ys.take (i + 1))) ∧ Same H1 H', fun H' h => ⟨ys.length - (i + 1), by omega, rfl, lt, h⟩, fun x H' yl => ?_⟩
    have ey : ys[i]? = some ys[i] := List.getElem?_eq_getElem lt
    refine turn i x ys[i] H H' _ _ ey s1 yl fun H4 s4 => ⟨_, s4 _ _ oD, ?_, ?_, ?_⟩
    · rw [sizeLine_eq, List.length_take]; omega
    · rw [upd_same, List.take_succ, ey]; rfl
    · intro b u e
      rw [upd_ne (ne_of_none e nD)]
      exact s4 _ _ (s1 _ _ e)
  · obtain rfl : i = ys.length := by omega
    rw [List.take_length] at oD
    exact .inl ⟨stop H s1, fin H D nD oD s1⟩
def bools (n : Nat) : List V := List.replicate n (V.bl true)
theorem bools_map (n : Nat) : bools n = (List.replicate n true).map V.bl := by unfold bools; rw [List.map_replicate]
theorem bools_at {n i : Nat} {y : V} (h : (bools n)[i]? = some y) : y = .bl true ∧ i < n := by
  unfold bools at h
  rw [List.getElem?_replicate] at h
  split at h
  · exact ⟨(Option.some.inj h).symm, by assumption⟩
  · cases h
theorem bools_len (n : Nat) : (bools n).length = n := List.length_replicate
theorem all_true (n : Nat) : (List.replicate n true).all id = true := by simp
def spIsName : Sp := fun vs H Q _ => ∃ x : Str, vs = [.str x] ∧ NmOk x ∧ ∀ H', Same H H' → Q (.bl true) H'
abbrev NIn : List Str := ["thing", "sign"]
theorem scIsName : FnScope NIn ["thing"] (defScope sIsName) := ⟨rfl, rfl, rfl, by decide +kernel, rfl, by decide +kernel, by decide +kernel⟩
/-- a dict has just these names, all true -/
def spHasJust : Sp := fun vs H Q _ => ∃ (d c : Addr) (kvs : List (Key × V)) (ns : List Str), vs = [.ref d, .ref c] ∧ H d = some (.dK kvs) ∧ H c = some (.lst (ns.map V.str)) ∧ kvs.map (·.1) = ns.map Sum.inr ∧ ns.length < 1000 ∧ ∀ H', Same H H' → Q (.bl true) H'
abbrev NHj : List Str := ["thing", "names", "name"]
theorem scHasJust : FnScope NHj ["thing", "names"] (defScope sHasJust) := ⟨rfl, rfl, rfl, by decide +kernel, rfl, by decide +kernel, by decide +kernel⟩
section
variable {P : Program} {w : World} {K : PySem.W.Frag} {mg : Str → Option Value} {base : Heap} {f : Addr} {fd : FuncData}
theorem ok_isName (F : Fun K "is_name" "is_name" sIsName f fd) (gI : mg "isinstance" = none) (gS : mg "str" = none) (gN : mg "len" = none) (gA : mg "all" = none) (gL : ∃ t, mg "LONGEST" = some (.int 40 t)) (gSg : ∃ t, mg "SIGNS" = some (.str (Str.ofString "abcdefghijklmnopqrstuvwxyz0123456789.") t)) :
    FnOk P w K mg base CX0 1 f fd ["thing"] spIsName := by
  obtain ⟨tL, gL⟩ := gL
  obtain ⟨tS, gSg⟩ := gSg
  refine F.ok scIsName (fun vs H Q E h => by obtain ⟨x, e, _⟩ := h; rw [e]; rfl) fun cdv A outer s H vs Q E hr hsp => ?_
  obtain ⟨x, rfl, ok, hq⟩ := hsp
  obtain ⟨l1, l2, chars⟩ := ok
  have nd := scIsName.nd
  refine ⟨_, pss_cons (ps_if (PW.pt (pw_or (pt_not (pt_val (pe_callB (r := rIsi K) call_isi rfl gI boot_isi (pa_cons (pv 0) (pa_cons (pe_bltn (v := .ty "str") rfl gS boot_str' rfl) pa_nil)))))
      (pw_or1 (pt_not (pt_chain op_le op_le pe_int (pe_callB call_len_str rfl gN boot_len (pa_cons (pv 0) pa_nil)) (pe_glob (v := .int 40) rfl gL ⟨_, rfl⟩)))))) (pss_one ps_never) pss_nil)
    (pss_one (ps_ret (pe_callB (cr_all rfl) rfl gA boot_all' (pa_cons (pe_lc (own := [("sign", 1)]) (tt := tYes) rfl nd (pi_str (pv 0)) (blkOk_by (N := NIn) (sc := defScope sIsName) (by decide +kernel)) (fun _ _ _ _ _ => pg_name (i := 1) nd rfl (Or.inl rfl)) (fun _ _ _ _ _ => pts_nil)
      (fun _ _ _ _ _ => pe_cmpR op_in_sign (pv 1) (pe_glob (v := .str (Str.ofString "abcdefghijklmnopqrstuvwxyz0123456789.")) rfl gSg ⟨_, rfl⟩) rfl)) pa_nil)))), ?_⟩
  have lz : x.length = x.cps.toList.length := (Array.length_toList (xs := x.cps)).symm
  refine ⟨_, rfl, _, _, _, _, true, rfl, .ty _, .base (.str x), kit_ty (by decide +kernel), _, rfl, iteF ?_⟩
  refine ⟨_, rfl, x, rfl, (by rw [sizeLine_eq]; omega), _, _, rfl, rfl, _, rfl, ?_⟩
  rw [decide_eq_true (by omega : (1 : Int) ≤ (x.length : Nat))]
  refine iteT ⟨_, _, rfl, rfl, _, rfl, ?_⟩
  rw [decide_eq_true (by omega : ((x.length : Nat) : Int) ≤ 40)]
  refine iteF ?_
  refine ⟨_, rfl, x, rfl, lc_gen (bools x.cps.toList.length) (by rw [bools_len]; omega) (fun i H' _ lt => ?_) (fun H' _ => ?_) ?_ ?_⟩
  · rw [bools_len, Array.length_toList] at lt; exact lt
  · rw [bools_len, Array.length_toList]; exact Nat.le_refl _
  · rintro i v y H2 H3 Cn Nn ey s2 ⟨rfl, c, ec, rfl⟩ yes
    obtain ⟨rfl, lt⟩ := bools_at ey
    have cin : c ∈ signsL := chars c (List.mem_of_getElem? (by rw [Array.getElem?_toList]; exact ec))
    refine ⟨rfl, ?_⟩
    refine ⟨_, rfl, c, _, rfl, rfl, ?_⟩
    have z := yes H3 (Same.refl _)
    have e : decide (c ∈ (Str.ofString "abcdefghijklmnopqrstuvwxyz0123456789.").cps.toList) = true := decide_eq_true cin
    rw [e]
    exact z
  · intro H2 D nD oD s2
    rw [bools_map] at oD
    refine ⟨D, _, rfl, SqL.of oD, ?_⟩
    rw [all_true]
    exact hq H2 s2
end
end L2.TB
namespace L2.TB
open PySem PySem.Spec PyProof.Rows
theorem has_key {kvs : List (Key × V)} {ns : List Str} {x : Str} (h : kvs.map (·.1) = ns.map Sum.inr) (xin : x ∈ ns) : ∃ v, valV kvs (Sum.inr x) = some v := by
  have z : (Sum.inr x : Key) ∈ kvs.map (·.1) := by rw [h]; exact List.mem_map_of_mem xin
  obtain ⟨e, he, ee⟩ := List.mem_map.mp z
  have a : (kvs.any fun kv => decide (kv.1 = Sum.inr x)) = true := List.any_eq_true.mpr ⟨e, he, decide_eq_true ee⟩
  rw [valV_any] at a
  exact Option.isSome_iff_exists.mp a
theorem const_map (xs : List Str) : ((xs.map V.str).filter fun _ => true).map (fun _ => V.bl true) = bools xs.length := by
  rw [List.filter_eq_self.mpr (fun _ _ => rfl), List.map_map]
  unfold bools
  induction xs with
  | nil => rfl
  | cons a l ih => rw [List.map_cons, ih, List.length_cons, List.replicate_succ]; rfl
theorem dec_int2 (a b : Int) : decide (V.int a = V.int b) = decide (a = b) := by
  by_cases h : a = b
  · rw [h]; simp
  · rw [decide_eq_false h, decide_eq_false]
    exact fun z => h (V.int.inj z)
/-- dict rows of ints at as -/
def DRows (H : Hp) (ns : List Str) : List Addr → List (List Int) → Prop := Paired fun a vs => H a = some (.dK (dk ns vs)) ∧ vs.length = ns.length
theorem DRows.same {H H' : Hp} {ns : List Str} {as : List Addr} {tbl : List (List Int)} (r : DRows H ns as tbl) (s : Same H H') : DRows H' ns as tbl := Paired.mapP r fun a vs h => ⟨s _ _ h.1, h.2⟩
def spBadRow : Sp := fun vs H Q _ => ∃ (r : Addr) (as : List Addr) (ns : List Str) (tbl : List (List Int)), vs = [.ref r] ∧ H r = some (.lst (as.map V.ref)) ∧ DRows H ns as tbl ∧ tbl ≠ [] ∧ tbl.length < 1000 ∧ ns ≠ [] ∧ ns.Nodup ∧ (∀ x ∈ ns, NmOk x) ∧ ns.length < 1000 ∧ ∀ H', Same H H' → Q .non H'
abbrev NB : List Str := ["rows", "index", "row", "name"]
theorem scBadRow : FnScope NB ["rows"] (defScope sBadRow) := ⟨rfl, rfl, rfl, by decide +kernel, rfl, by decide +kernel, by decide +kernel⟩
theorem lock_off {H H' : Hp} {d : Addr} {u : HO} {od : Obj} (hd : H d = some u) (s : Same (upd H d (.frz od u)) H') : H' d = some (.frz od u) ∧ Same H (upd H' d u) := by
  refine ⟨s _ _ upd_same, fun b o e => ?_⟩
  by_cases hb : b = d
  · rw [hb, upd_same, ← hd, ← hb]; exact e
  · rw [upd_ne hb]
    exact s _ _ (by rw [upd_ne hb]; exact e)
theorem dk_at {ns : List Str} {vs : List Int} {i : Nat} {k : Key} {v : V} (h : (dk ns vs)[i]? = some (k, v)) (nd : ns.Nodup) (hl : ns.length = vs.length) : ∃ x n, k = Sum.inr x ∧ v = .int n ∧ ns[i]? = some x ∧ valV (dk ns vs) (Sum.inr x) = some (.int n) := by
  unfold dk at h ⊢
  rw [List.getElem?_map] at h
  obtain ⟨p, ep, e⟩ := Option.map_eq_some_iff.mp h
  cases e
  have ez : (ns.zip vs)[i]? = some p := ep
  rw [List.getElem?_zip_eq_some] at ez
  refine ⟨p.1, p.2, rfl, rfl, ez.1, ?_⟩
  have nk : (((ns.zip vs).map fun p : Str × Int => ((Sum.inr p.1 : Key), V.int p.2)).map (·.1)).Nodup := dk_nd hl nd
  have mem : ((Sum.inr p.1 : Key), V.int p.2) ∈ (ns.zip vs).map fun p : Str × Int => ((Sum.inr p.1 : Key), V.int p.2) := List.mem_map_of_mem (List.mem_of_getElem? ep)
  generalize (ns.zip vs).map (fun p : Str × Int => ((Sum.inr p.1 : Key), V.int p.2)) = kvs at nk mem
  clear h ez ep
  induction kvs with
  | nil => cases mem
  | cons q kvs ih =>
    unfold valV
    rw [List.find?_cons]
    by_cases hq : q.1 = Sum.inr p.1
    · rw [decide_eq_true hq]
      rcases List.mem_cons.mp mem with z | z
      · rw [← z]; rfl
      · exfalso
        rw [List.map_cons, List.nodup_cons] at nk
        exact nk.1 (hq ▸ List.mem_map_of_mem (f := (·.1)) z)
    · rw [decide_eq_false hq]
      rcases List.mem_cons.mp mem with z | z
      · exact absurd (by rw [← z]) hq
      · rw [List.map_cons, List.nodup_cons] at nk
        exact ih nk.2 z
section
variable {P : Program} {w : World} {K : PySem.W.Frag} {mg : Str → Option Value} {base : Heap} {f fL fI fN fH : Addr} {fd fdL fdI fdN fdH : FuncData}
theorem ok_hasJust (F : Fun K "has_just" "has_just" sHasJust f fd) (gI : mg "isinstance" = none) (gD : mg "dict" = none) (gN : mg "len" = none) (gA : mg "all" = none) : FnOk P w K mg base CX0 1 f fd ["thing", "names"] spHasJust := by
  refine F.ok scHasJust (fun vs H Q E h => by obtain ⟨d, c, kvs, ns, e, _⟩ := h; rw [e]; rfl) fun cdv A outer s H vs Q E hr hsp => ?_
  obtain ⟨d, c, kvs, ns, rfl, hd, hc, hk, short, hq⟩ := hsp
  have nd := scHasJust.nd
  have hu := hu_of hr
  refine ⟨_, pss_one (ps_ret (pe_and (pe_callB (r := rIsi K) call_isi rfl gI boot_isi (pa_cons (pv 0) (pa_cons (pe_bltn (v := .ty "dict") rfl gD boot_dict' rfl) pa_nil))) (pe_and (pe_cmpR op_eq (pe_callB call_lenD rfl gN boot_len (pa_cons (pv 0) pa_nil)) (pe_callB call_len_seq rfl gN boot_len (pa_cons (pv 1) pa_nil)) (nomark _))
    (pe_one (pe_callB (cr_all rfl) rfl gA boot_all' (pa_cons (pe_lc (own := [("name", 2)]) (tt := tYes) rfl nd (pi_seq (pv 1)) (blkOk_by (N := NHj) (sc := defScope sHasJust) (by decide +kernel)) (fun _ _ _ _ _ => pg_name (i := 2) nd rfl (Or.inl rfl)) (fun _ _ _ _ _ => pts_nil)
      (fun _ _ _ _ _ => pe_cmp (pc_din hu (pv 2) (pv 0)))) pa_nil)))))), ?_⟩
  have lk : kvs.length = ns.length := by
    have z := congrArg List.length hk
    rw [List.length_map, List.length_map] at z
    exact z
  refine ⟨_, rfl, _, _, _, _, true, rfl, .ty _, .base (.dK hd), kit_ty (by decide +kernel), _, rfl, iteT ?_⟩
  refine ⟨_, rfl, d, kvs, rfl, hd, _, rfl, c, _, rfl, .inl (SqL.of hc), rfl, _, rfl, ?_⟩
  rw [dec_int2, List.length_map, lk, decide_eq_true rfl]
  refine iteT ⟨_, rfl, lc_seq (.inl rfl) hc (by rw [List.length_map]; omega) (fun _ => true) (fun _ => .bl true) ?_ ?_⟩
  · rintro i v H2 Cn Nn ev s2 yes no
    rw [List.getElem?_map] at ev
    obtain ⟨x, ex, rfl⟩ := Option.map_eq_some_iff.mp ev
    obtain ⟨y, ey⟩ := has_key hk (List.mem_of_getElem? ex)
    refine ⟨rfl, ?_⟩
    refine ⟨_, rfl, _, rfl, d, _, rfl, DGet.k (k := Sum.inr x) (s2 _ _ hd), ?_⟩
    rw [ey]
    exact yes rfl H2 (Same.refl _)
  · intro H2 D nD oD s2
    rw [const_map, bools_map] at oD
    refine ⟨D, _, rfl, SqL.of oD, ?_⟩
    rw [all_true]
    exact hq H2 s2
theorem ok_badRow (F : Fun K "_first_bad_row" "_first_bad_row" sBadRow f fd) (FL : Fun K "is_list" "is_list" sIsList fL fdL) (gIL : mg "is_list" = some (.ref fL)) (FI : Fun K "is_integer" "is_integer" sIsInt fI fdI) (gII : mg "is_integer" = some (.ref fI))
    (FN : Fun K "is_name" "is_name" sIsName fN fdN) (gIN : mg "is_name" = some (.ref fN)) (FH : Fun K "has_just" "has_just" sHasJust fH fdH) (gHJ : mg "has_just" = some (.ref fH))
    (gI : mg "isinstance" = none) (gL : mg "list" = none) (gT : mg "tuple" = none) (gS : mg "str" = none) (gE : mg "enumerate" = none) (gN : mg "len" = none) (gA : mg "all" = none) (gD : mg "dict" = none) (gInt : mg "int" = none) (gB : mg "bool" = none)
    (gLo : ∃ t, mg "LONGEST" = some (.int 40 t)) (gSg : ∃ t, mg "SIGNS" = some (.str (Str.ofString "abcdefghijklmnopqrstuvwxyz0123456789.") t)) : FnOk P w K mg base CX0 2 f fd ["rows"] spBadRow := by
  have GL : FnOk P w K mg base CX0 1 fL fdL ["thing"] (spIsList K) := ok_isList FL gI gL gT
  have bL := FL.binds (ps := ["thing"]) fun _ _ _ _ _ _ us hl => match us, hl with | [_], _ => rfl
  have GI : FnOk P w K mg base CX0 1 fI fdI ["thing"] spIsInt := ok_isInt FI gI gInt gB
  have bI := FI.binds (ps := ["thing"]) fun _ _ _ _ _ _ us hl => match us, hl with | [_], _ => rfl
  have GN : FnOk P w K mg base CX0 1 fN fdN ["thing"] spIsName := ok_isName FN gI gS gN gA gLo gSg
  have bN := FN.binds (ps := ["thing"]) fun _ _ _ _ _ _ us hl => match us, hl with | [_], _ => rfl
  have GH : FnOk P w K mg base CX0 1 fH fdH ["thing", "names"] spHasJust := ok_hasJust FH gI gD gN gA
  have bH := FH.binds (ps := ["thing", "names"]) fun _ _ _ _ _ _ us hl => match us, hl with | [_, _], _ => rfl
  refine F.ok scBadRow (fun vs H Q E h => by obtain ⟨r, as, ns, tbl, e, _⟩ := h; rw [e]; rfl) fun cdv A outer s H vs Q E hr hsp => ?_
  obtain ⟨r, as, ns, tbl, rfl, hrr, rows, tne, tsh, nne, nnd, nok, nsh, hq⟩ := hsp
  have nd := scBadRow.nd
  have hu := hu_of hr
  refine ⟨_, pss_cons (ps_if (PW.pt (pw_or (pt_not (pt_val (pe_call GL hr rfl gIL FL.kp bL .nil pass0 (pa_cons (pv 0) pa_nil)))) (pw_or1 (pt_cmpR op_eq (pe_callB call_len_seq rfl gN boot_len (pa_cons (pv 0) pa_nil)) pe_int (nomark _))))) (pss_one ps_never) pss_nil)
    (pss_cons (ps_for PassesOwn.never rfl (pi_enumS rfl gE (pa_cons (pv 0) pa_nil)) (pg_tup rfl (pgs_cons (pg_name (i := 1) nd rfl (Or.inl rfl)) (pgs_cons (pg_name (i := 2) nd rfl (Or.inr rfl)) pgs_nil)))
      (pss_cons (ps_if (PW.pt (pw_or (pt_not (pt_val (pe_callB (r := rIsi K) call_isi rfl gI boot_isi (pa_cons (pv 2) (pa_cons (pe_bltn (v := .ty "dict") rfl gD boot_dict' rfl) pa_nil)))))
          (pw_or (pt_cmpR op_eq (pe_callB call_lenD rfl gN boot_len (pa_cons (pv 2) pa_nil)) pe_int (nomark _))
          (pw_or1 (pt_not (pt_val (pe_callB (cr_all rfl) rfl gA boot_all' (pa_cons (pe_lock (pe_lc (own := [("name", 3)]) (tt := tYes) rfl nd (pi_keys (pv 2)) (blkOk_by (N := NB) (sc := defScope sBadRow) (by decide +kernel)) (fun _ _ _ _ _ => pg_name (i := 3) nd rfl (Or.inl rfl)) (fun _ _ _ _ _ => pts_nil)
            (fun _ _ _ _ _ => pe_call GI hr rfl gII FI.kp bI .nil pass0 (pa_cons (pe_dget hu (pv 2) (pv 3) (fun _ _ => rfl)) pa_nil)))) pa_nil)))))))) (pss_one ps_never) pss_nil)
      (pss_one (ps_if (PW.pt (pw_or (pt_not (pt_val (pe_callB (cr_all rfl) rfl gA boot_all' (pa_cons (pe_lock (pe_lc (own := [("name", 3)]) (tt := tYes) rfl nd (pi_keys (pv 2)) (blkOk_by (N := NB) (sc := defScope sBadRow) (by decide +kernel)) (fun _ _ _ _ _ => pg_name (i := 3) nd rfl (Or.inl rfl)) (fun _ _ _ _ _ => pts_nil)
            (fun _ _ _ _ _ => pe_call GN hr rfl gIN FN.kp bN .nil pass0 (pa_cons (pv 3) pa_nil)))) pa_nil))))
          (pw_or1 (pt_not (pt_val (pe_call GH hr rfl gHJ FH.kp bH .nil pass0 (pa_cons (pv 2) (pa_cons (pe_callTy (call_listD rfl) rfl gL boot_list' (pa_cons (pe_ix ix_list (pv 0) pe_int (fun _ _ => rfl)) pa_nil)) pa_nil)))))))) (pss_one ps_never) pss_nil))))
    (pss_one (ps_ret pe_non))), ?_⟩
  have las : as.length = tbl.length := Paired.length rows
  have pos : 0 < tbl.length := List.length_pos_iff.mpr tne
  have npos : 0 < ns.length := List.length_pos_iff.mpr nne
  refine ⟨_, rfl, r, _, rfl, .inl hrr, fun H1 k1 => ⟨_, rfl, iteF ?_⟩⟩
  refine ⟨_, rfl, r, _, rfl, .inl (SqL.of (k1 _ _ hrr)), rfl, _, rfl, ?_⟩
  rw [dec_int2, List.length_map, decide_eq_false (by omega : ¬ ((as.length : Nat) : Int) = 0)]
  refine iteF ?_
  refine ⟨_, rfl, enum_seq (.inl rfl) (fun i σ H' => Same H1 H' ∧ ∃ s1 s2 s3, σ = [some (.ref r), s1, s2, s3]) ⟨Same.refl _, _, _, _, rfl⟩ (fun i σ H' _ h => h.1 _ _ (k1 _ _ hrr)) ?_ ?_⟩
  · rintro i v σ H2 T ev ⟨s2, s1', s2', s3', rfl⟩ nT
    rw [List.getElem?_map] at ev
    obtain ⟨a, ea, rfl⟩ := Option.map_eq_some_iff.mp ev
    have sT := (k1.trans s2).trans (same_new (o := .tup [.int (i : Nat), .ref a]) nT)
    refine ⟨T, _, rfl, SqT.of upd_same, rfl, _, _, rfl, _, _, rfl, rfl, ?_⟩
    have s2T := s2.trans (same_new (o := .tup [.int (i : Nat), .ref a]) nT)
    generalize upd H2 T (.tup [.int (i : Nat), .ref a]) = H3 at sT s2T
    obtain ⟨vs, ev2, oa, lv⟩ := paired_get (rows.same sT) ea
    have ldk : (dk ns vs).length = ns.length := by
      unfold dk
      rw [List.length_map, List.length_zip]; omega
    refine ⟨_, rfl, _, _, _, _, true, rfl, .ty _, .base (.dK oa), kit_ty (by decide +kernel), _, rfl, iteF ?_⟩
    refine ⟨_, rfl, a, _, rfl, oa, rfl, _, rfl, ?_⟩
    rw [dec_int2, ldk, decide_eq_false (by omega : ¬ ((ns.length : Nat) : Int) = 0)]
    refine iteF ?_
    refine ⟨a, _, oa, trivial, fun od => ⟨_, rfl, a, od, rfl, .inl ⟨_, upd_same, lc_gen (bools ns.length) (by rw [bools_len]; omega) (fun j H' s lt => ⟨s _ _ upd_same, by rw [ldk]; rw [bools_len] at lt; exact lt⟩) (fun H' s => ⟨s _ _ upd_same, by rw [ldk, bools_len]; exact Nat.le_refl _⟩) ?_ ?_⟩⟩⟩
    · rintro j v y H4 H5 Cn Nn ey s4 ⟨rfl, k, w', ek, rfl⟩ yes
      obtain ⟨rfl, lt⟩ := bools_at ey
      obtain ⟨x, n, rfl, rfl, _, hv⟩ := dk_at ek nnd lv.symm
      refine ⟨rfl, ?_⟩
      exact ⟨_, rfl, _, rfl, a, _, rfl, .inl ⟨_, Sum.inr x, .inr ⟨_, s4 _ _ upd_same⟩, rfl, hv.symm⟩, n, rfl, yes H5 (Same.refl _)⟩
    · intro H4 D nD oD s4
      obtain ⟨b1, s34⟩ := lock_off oa s4
      have Da : D ≠ a := fun z => by rw [z, upd_same] at nD; cases nD
      rw [bools_map] at oD
      refine ⟨b1, D, _, rfl, SqL.of (by rw [upd_ne Da]; exact oD), _, rfl, ?_⟩
      rw [all_true]
      refine iteF ?_
      have oa4 := s34 _ _ oa
      have sH4 := sT.trans s34
      have s14 := s2T.trans s34
      generalize upd H4 a (.dK (dk ns vs)) = H5 at s34 oa4 sH4 s14
      refine ⟨a, _, oa4, trivial, fun od2 => ⟨_, rfl, a, od2, rfl, .inl ⟨_, upd_same, lc_gen (bools ns.length) (by rw [bools_len]; omega) (fun j H' s lt => ⟨s _ _ upd_same, by rw [ldk]; rw [bools_len] at lt; exact lt⟩) (fun H' s => ⟨s _ _ upd_same, by rw [ldk, bools_len]; exact Nat.le_refl _⟩) ?_ ?_⟩⟩⟩
      · rintro j v y H6 H7 Cn Nn ey s6 ⟨rfl, k, w', ek, rfl⟩ yes
        obtain ⟨rfl, lt⟩ := bools_at ey
        obtain ⟨x, n, rfl, rfl, ex, hv⟩ := dk_at ek nnd lv.symm
        refine ⟨rfl, ?_⟩
        exact ⟨_, rfl, x, rfl, nok x (List.mem_of_getElem? ex), fun H' s' => yes H' s'⟩
      · intro H6 D2 nD2 oD2 s6
        obtain ⟨b2, s56⟩ := lock_off oa4 s6
        have Da2 : D2 ≠ a := fun z => by rw [z, upd_same] at nD2; cases nD2
        rw [bools_map] at oD2
        refine ⟨b2, D2, _, rfl, SqL.of (by rw [upd_ne Da2]; exact oD2), _, rfl, ?_⟩
        rw [all_true]
        refine iteF ?_
        have oa6 := s56 _ _ oa4
        have sH6 := sH4.trans s56
        have s16 := s14.trans s56
        generalize upd H6 a (.dK (dk ns vs)) = H7 at oa6 sH6 s16
        obtain ⟨a0, ea0⟩ : ∃ a0, as[0]? = some a0 := ⟨as[0]'(by omega), List.getElem?_eq_getElem _⟩
        obtain ⟨vs0, ev0, oa0, lv0⟩ := paired_get (rows.same sH6) ea0
        have at0' : atI (as.map V.ref) ((0 : Nat) : Int) = some (.ref a0) := atI_nat (by rw [List.getElem?_map, ea0]; rfl)
        refine ⟨_, rfl, _, rfl, _, _, _, _, rfl, rfl, SqL.of (sH6 _ _ hrr), at0', a0, _, rfl, .inl oa0, fun q nq => ?_⟩
        have ekeys : ((dk ns vs0).map fun kv => kV kv.1) = ns.map V.str := by
          have z := congrArg (List.map kV) (dk_keys lv0.symm)
          rw [List.map_map, List.map_map] at z
          exact z
        rw [ekeys]
        have sq := same_new (o := .lst (ns.map V.str)) nq
        exact ⟨a, q, dk ns vs, ns, rfl, sq _ _ oa6, upd_same, dk_keys lv.symm, nsh, fun H' s' => ⟨_, rfl, iteF ⟨(s16.trans sq).trans s', _, _, _, rfl⟩⟩⟩
  · rintro σ H2 ⟨s2, s1', s2', s3', rfl⟩
    exact hq _ (k1.trans s2)
end
end L2.TB
namespace L2.TB
open PySem PySem.Spec PyProof.Rows
abbrev NI : List Str := ["self", "rows", "index", "row", "name"]
theorem scInit : FnScope NI ["self", "rows"] (defScope sInit) := ⟨rfl, rfl, rfl, by decide +kernel, rfl, by decide +kernel, by decide +kernel⟩
def spInit (C : Addr) : Sp := fun vs H Q _ => ∃ (p dx r : Addr) (as : List Addr) (ns : List Str) (tbl : List (List Int)), vs = [.ref p, .ref r] ∧ H p = some (.ins C dx []) ∧ H r = some (.lst (as.map V.ref)) ∧ DRows H ns as tbl ∧ tbl ≠ [] ∧ tbl.length < 1000 ∧ ns ≠ [] ∧ ns.Nodup ∧ (∀ x ∈ ns, NmOk x) ∧ ns.length < 1000 ∧
  ∀ H', TabAt H' C p ns tbl → (∀ b o, b ≠ p → H b = some o → H' b = some o) → Q .non H'
theorem qr_ : ¬ (("_questions" : Str) = "_rows") := by decide +kernel
theorem put_two (qa ra : Addr) : putF "_rows" (.ref ra) (putF "_questions" (.ref qa) []) = tabF qa ra := by
  show (if ("_questions" : Str) = "_rows" then _ else (("_questions" : Str), V.ref qa) :: putF "_rows" (.ref ra) []) = tabF qa ra
  rw [if_neg qr_]
  rfl
abbrev scRow : Scope := { kind := ScopeKind.function, names := [(Str.ofString ".0", NameKind.local), (Str.ofString "row", NameKind.cell), (Str.ofString "tuple", NameKind.globalImplicit), (Str.ofString "self", NameKind.cell)], isGenerator := false, isCoroutine := false }
abbrev rTupOf (K : PySem.W.Frag) : List V → Hp → VK → Prop := fun xs H Q => ∃ p ys, xs = [V.ref p] ∧ ((SqL K H p ys ∧ ∀ l, H l = none → Q (.ref l) (upd H l (.tup ys))) ∨ (SqT K H p ys ∧ Q (.ref p) H))
section
variable {P : Program} {w : World} {K : PySem.W.Frag} {mg : Str → Option Value} {base : Heap} {f C fB : Addr} {fd fdB : FuncData}
theorem ok_init (F : Fun K "__init__" "Table.__init__" sInit f fd) (T : TabC K C) (GB : FnOk P w K mg base CX0 2 fB fdB ["rows"] spBadRow) (FB : Fun K "_first_bad_row" "_first_bad_row" sBadRow fB fdB) (gB : mg "_first_bad_row" = some (.ref fB)) (gL : mg "list" = none) (gT : mg "tuple" = none) : FnOk P w K mg base CX0 3 f fd ["self", "rows"] (spInit C) := by
  have bB := FB.binds (ps := ["rows"]) fun _ _ _ _ _ _ us hl => match us, hl with | [_], _ => rfl
  refine F.ok scInit (fun vs H Q E h => by obtain ⟨p, dx, r, as, ns, tbl, e, _⟩ := h; rw [e]; rfl) fun cdv A outer s H vs Q E hr hsp => ?_
  obtain ⟨p, dx, r, as, ns, tbl, rfl, hp, hrr, rows, tne, tsh, nne, nnd, nok, nsh, hq⟩ := hsp
  have nd := scInit.nd
  have hu := hu_of hr
  refine ⟨_, pss_cons (ps_set (i := 2) nd rfl (Or.inl rfl) (pe_call GB hr rfl gB FB.kp bB .nil pass0 (pa_cons (pv 1) pa_nil)))
    (pss_cons (ps_if (pt_cmp (pc_notN (pv 2))) (pss_one ps_never) pss_nil)
    (pss_cons (ps_fld (pv 0) (pe_callTy (call_listD rfl) rfl gL boot_list' (pa_cons (pe_ix ix_list (pv 1) pe_int (fun _ _ => rfl)) pa_nil)) rfl)
    (pss_one (ps_fld (pv 0) (pe_lc (own := [("row", 3)]) (tt := tYes) (te := tCB (rTupOf K) (tCons (tLc (iList K (tFld K (tVar 0) "_questions")) (gName 4) tYes (tDGet (tVar 3) (tVar 4)) [4]) tNil)) rfl nd (pi_list (pv 1)) (blkOk_by (N := NI) (sc := defScope sInit) (by decide +kernel)) (fun _ _ _ _ _ => pg_name (i := 3) nd rfl (Or.inr rfl)) (fun _ _ _ _ _ => pts_nil)
      (fun _ _ _ _ _ => pe_callTy (r := rTupOf K) call_tuple_of rfl gT boot_tuple' (pa_cons (pe_lc (own := [("name", 4)]) (tt := tYes) (g := gName 4) (wi := iList K (tFld K (tVar 0) "_questions")) (te := tDGet (tVar 3) (tVar 4)) rfl nd (pi_list (pe_fld (pv 0) rfl)) (blkOk_by (N := NI) (sc := scRow) (by decide +kernel)) (fun _ _ _ _ _ => pg_name (i := 4) nd rfl (Or.inl rfl)) (fun _ _ _ _ _ => pts_nil)
        (fun _ _ _ _ _ => pe_dget hu (pv 3) (pv 4) (fun _ _ => rfl))) pa_nil))) rfl)))), ?_⟩
  have las : as.length = tbl.length := Paired.length rows
  have pos : 0 < tbl.length := List.length_pos_iff.mpr tne
  have npos : 0 < ns.length := List.length_pos_iff.mpr nne
  refine ⟨_, rfl, r, as, ns, tbl, rfl, hrr, rows, tne, tsh, nne, nnd, nok, nsh, fun H1 s1 => ?_⟩
  refine ⟨_, rfl, _, rfl, iteF ?_⟩
  obtain ⟨a0, ea0⟩ : ∃ a0, as[0]? = some a0 := ⟨as[0]'(by omega), List.getElem?_eq_getElem _⟩
  obtain ⟨vs0, ev0, oa0, lv0⟩ := paired_get (rows.same s1) ea0
  have at0' : atI (as.map V.ref) ((0 : Nat) : Int) = some (.ref a0) := atI_nat (by rw [List.getElem?_map, ea0]; rfl)
  have ekeys : ((dk ns vs0).map fun kv => kV kv.1) = ns.map V.str := by
    have z := congrArg (List.map kV) (dk_keys lv0.symm)
    rw [List.map_map, List.map_map] at z
    exact z
  refine ⟨_, rfl, _, _, _, _, rfl, rfl, SqL.of (s1 _ _ hrr), at0', a0, _, rfl, .inl oa0, fun qa nqa => ?_⟩
  rw [ekeys]
  have sq := same_new (o := .lst (ns.map V.str)) nqa
  have hp2 := sq _ _ (s1 _ _ hp)
  have oq2 : upd H1 qa (.lst (ns.map V.str)) qa = some (.lst (ns.map V.str)) := upd_same
  have s12 := s1.trans sq
  generalize upd H1 qa (.lst (ns.map V.str)) = H2 at sq hp2 oq2 s12
  refine ⟨_, rfl, p, C, dx, _, rfl, hp2, T.cl, T.nQ, by decide, ?_⟩
  have hpu : upd H2 p (.ins C dx (putF "_questions" (.ref qa) [])) p = some (.ins C dx (putF "_questions" (.ref qa) [])) := upd_same
  have s2p : ∀ b o, b ≠ p → H2 b = some o → upd H2 p (.ins C dx (putF "_questions" (.ref qa) [])) b = some o := fun b o nb e => by rw [upd_ne nb]; exact e
  generalize upd H2 p (.ins C dx (putF "_questions" (.ref qa) [])) = H4 at hpu s2p
  have rp : r ≠ p := ne_of hrr hp (by intro z; cases z)
  have qp : qa ≠ p := ne_of oq2 hp2 (by intro z; cases z)
  have or4 := s2p _ _ rp (s12 _ _ hrr)
  have oq4 := s2p _ _ qp oq2
  have rows4 : DRows H4 ns as tbl := Paired.mapP rows fun a vs h => ⟨s2p _ _ (ne_of h.1 hp (by intro z; cases z)) (s12 _ _ h.1), h.2⟩
  refine ⟨_, rfl, r, rfl, ⟨_, SqL.of or4⟩, fun D nD => ?_⟩
  refine lc_list (xs := as.map V.ref) (fun i H' => ∃ ps, H' D = some (.lst ((ps : List Addr).map V.ref)) ∧ Paired (fun q vs => H' q = some (.tup (vs.map V.int)) ∧ vs.length = ns.length) ps (tbl.take i) ∧ Same H4 H')
    ⟨[], upd_same, .nil, same_new nD⟩ (fun i H' _ h => SqL.of (h.choose_spec.2.2 _ _ or4)) ?_ ?_
  · rintro i v H5 ev ⟨ps, oD, prs, s5⟩
    rw [List.getElem?_map] at ev
    obtain ⟨a, ea, rfl⟩ := Option.map_eq_some_iff.mp ev
    obtain ⟨vs, evs, oa, lv⟩ := paired_get (rows4.same s5) ea
    have hi : i < tbl.length := (List.getElem?_eq_some_iff.mp evs).1
    have lps : ps.length = i := by rw [Paired.length prs, List.length_take]; omega
    refine ⟨rfl, ?_⟩
    refine ⟨_, rfl, p, C, dx, _, _, rfl, s5 _ _ hpu, T.cl, T.nQ, rfl, qa, rfl, ⟨_, SqL.of (s5 _ _ oq4)⟩, lc_gen (vs.map V.int) (by rw [List.length_map]; omega) (fun j H' s lt => ⟨ns.map V.str, _, SqL.of (s _ _ (s5 _ _ oq4)), List.getElem?_eq_getElem (by rw [List.length_map] at lt ⊢; omega)⟩) (fun H' s => ⟨ns.map V.str, SqL.of (s _ _ (s5 _ _ oq4)), by rw [List.length_map, List.length_map]; omega⟩) ?_ ?_⟩
    · rintro j x y H6 H7 Cn Nn ey s6 ⟨rfl, ex⟩ yes
      have ex := ex _ (SqL.of (s6 _ _ (s5 _ _ oq4)))
      rw [List.getElem?_map] at ey ex
      obtain ⟨n, en, rfl⟩ := Option.map_eq_some_iff.mp ey
      obtain ⟨z, ez, rfl⟩ := Option.map_eq_some_iff.mp ex
      have edk : (dk ns vs)[j]? = some (Sum.inr z, V.int n) := by
        unfold dk
        rw [List.getElem?_map, List.getElem?_zip_eq_some.mpr (show ns[j]? = some (z, n).1 ∧ vs[j]? = some (z, n).2 from ⟨ez, en⟩)]
        rfl
      obtain ⟨z', n', e1, e2, _, hv⟩ := dk_at edk nnd lv.symm
      obtain rfl := Sum.inr.inj e1
      obtain rfl := V.int.inj e2
      refine ⟨rfl, ?_⟩
      exact ⟨_, rfl, _, rfl, a, _, rfl, hv ▸ DGet.k (k := Sum.inr z) (s6 _ _ oa), yes H7 (Same.refl _)⟩
    · intro H6 l nl ol s6
      refine ⟨l, _, rfl, .inl ⟨SqL.of ol, fun t nt => ?_⟩⟩
      have st := same_new (o := .tup (vs.map V.int)) nt
      have oD6 := st _ _ (s6 _ _ oD)
      have tD : t ≠ D := fun z => by rw [z, s6 _ _ oD] at nt; cases nt
      refine ⟨_, oD6, (by rw [sizeLine_eq, List.length_map]; omega), ps ++ [t], by rw [upd_same]; simp, ?_, ?_⟩
      · have e1 : tbl.take (i + 1) = tbl.take i ++ [vs] := by rw [List.take_succ, evs]; rfl
        rw [e1]
        refine paired_snoc ⟨by rw [upd_ne tD, upd_same], lv⟩ (Paired.mapP prs fun q vs' h => ⟨?_, h.2⟩)
        rw [upd_ne (ne_of h.1 oD (by intro z; cases z))]
        exact st _ _ (s6 _ _ h.1)
      · intro b u e
        rw [upd_ne (ne_of_none e nD)]
        exact st _ _ (s6 _ _ (s5 _ _ e))
  · rintro H5 ⟨ps, oD, prs, s5⟩
    have et : tbl.take (as.map V.ref).length = tbl := List.take_of_length_le (by rw [List.length_map]; omega)
    rw [et] at prs
    refine ⟨_, rfl, p, C, dx, _, rfl, s5 _ _ hpu, T.cl, T.nR, by show 1 < 1000; decide, ?_⟩
    rw [put_two]
    have Dp : D ≠ p := fun z => by rw [z, hpu] at nD; cases nD
    have frame : ∀ b o, b ≠ p → H b = some o → upd H5 p (.ins C dx (tabF qa D)) b = some o := fun b o nb e => by
      rw [upd_ne nb]
      exact s5 _ _ (s2p _ _ nb (s12 _ _ e))
    refine hq _ ⟨dx, qa, D, upd_same, ?_, ps, ?_, Paired.mapP prs fun q vs h => ⟨?_, h.2⟩⟩ frame
    · rw [upd_ne qp]; exact s5 _ _ oq4
    · rw [upd_ne Dp]; exact oD
    · rw [upd_ne (ne_of h.1 (s5 _ _ hpu) (by intro z; cases z))]; exact h.1
end
end L2.TB
namespace L2.TB
open PySem PySem.Spec PyProof.Rows
theorem SqA.ho {K : PySem.W.Frag} {H : Hp} {a : Addr} {xs : List V} (h : SqA K H a xs) : ∃ o, H a = some o ∧ (o = .lst xs ∨ o = .tup xs) := by
  rcases h with e | e
  · exact ⟨_, e, .inl rfl⟩
  · exact ⟨_, e, .inr rfl⟩
theorem key_mem {ns K : List Str} {u v : List Int} (h : keyR ns K u = keyR ns K v) : ∀ x ∈ K, av ns u x = av ns v x := by
  intro x hx
  exact List.map_inj_left.mp h x hx
theorem key_of {ns K : List Str} {u v : List Int} (h : ∀ x ∈ K, av ns u x = av ns v x) : keyR ns K u = keyR ns K v := List.map_inj_left.mpr h
theorem strs_shape : ∀ ks : List Str, (∀ k ∈ ks, PyData.strOk k = true) → PyData.canLayAll0 (ks.map PyData.str) = true ∧ PyData.depthAll (ks.map PyData.str) = 0
  | [], _ => ⟨by simp [PyData.canLayAll0], by simp [PyData.depthAll]⟩
  | b :: bs, h => by
    obtain ⟨h1, h2⟩ := strs_shape bs fun k hk => h k (List.mem_cons_of_mem _ hk)
    have h3 := h b List.mem_cons_self
    exact ⟨by simp [PyData.canLayAll0, PyData.canLay0, h1, h3], by simp [PyData.depthAll, PyData.depth, h2]⟩
theorem strs_shaped (ks : List Str) (h : ∀ k ∈ ks, PyData.strOk k = true) : SeqAt.shaped (.list (ks.map PyData.str)) = true := by
  obtain ⟨h1, h2⟩ := strs_shape ks h
  unfold SeqAt.shaped
  simp [PyData.canLay0, PyData.depth, h1, h2]
theorem strs_eqvAll : ∀ a b : List Str, PyData.eqvAll (a.map PyData.str) (b.map PyData.str) = decide (a = b)
  | [], [] => by simp [PyData.eqvAll]
  | [], _ :: _ => by simp [PyData.eqvAll]
  | _ :: _, [] => by simp [PyData.eqvAll]
  | x :: a, y :: b => by
    rw [List.map_cons, List.map_cons, PyData.eqvAll, strs_eqvAll a b, PyData.eqv]
    by_cases h1 : x = y
    · by_cases h2 : a = b <;> simp [h1, h2]
    · simp [h1]
theorem strs_eqv (a b : List Str) : PyData.eqv (.list (a.map PyData.str)) (.list (b.map PyData.str)) = decide (a = b) := by rw [PyData.eqv, strs_eqvAll]
theorem dp_strs {K : PySem.W.Frag} {H : Hp} : ∀ cs : List Str, DpAll K H (cs.map V.str) (cs.map PyData.str)
  | [] => .nil
  | c :: cs => .cons (.str c) (dp_strs cs)
theorem dp_list {K : PySem.W.Frag} {H : Hp} {a : Addr} {cs : List Str} (h : H a = some (.lst (cs.map V.str))) : Dp K H (.ref a) (.list (cs.map PyData.str)) := .lst (SqL.of h) (dp_strs cs)
theorem nm_strOk {x : Str} (h : NmOk x) : PyData.strOk x = true := by
  unfold PyData.strOk
  rw [← Array.all_toList, List.all_eq_true]
  intro c hc
  have z : ∀ c ∈ signsL, c < 0x110000 := by decide +kernel
  exact decide_eq_true (z c (h.2.2 c hc))
theorem strs_of : ∀ ys : List V, (∀ y ∈ ys, ∃ x, y = V.str x) → ∃ ks : List Str, ys = ks.map V.str
  | [], _ => ⟨[], rfl⟩
  | y :: ys, h => by
    obtain ⟨x, rfl⟩ := h y List.mem_cons_self
    obtain ⟨ks, rfl⟩ := strs_of ys fun z hz => h z (List.mem_cons_of_mem _ hz)
    exact ⟨x :: ks, rfl⟩
/-- a new key comes last -/
theorem put_last {acc : List (Key × V)} {k : Key} {v : V} (h : k ∉ acc.map (·.1)) : putK acc k v = acc ++ [(k, v)] := by
  have nd : ∀ acc : List (Key × V), k ∉ acc.map (·.1) → putK acc k v = acc ++ [(k, v)] := by
    intro acc h
    have no : (acc.any fun e => decide (e.1 = k)) = false := by
      cases q : acc.any fun e => decide (e.1 = k) with
      | false => rfl
      | true =>
        obtain ⟨e, he, ee⟩ := List.any_eq_true.mp q
        exact absurd (of_decide_eq_true ee ▸ List.mem_map_of_mem (f := (·.1)) he) h
    unfold putK
    rw [no]
    rfl
  exact nd acc h
/-- what a dict comprehension asks of its turns -/
def DcW (J : It) (g : TG) (tt : TT) (tk tv : TE) (vs : List Nat) (σ : St) (H1 : Hp) (Q : Addr → Hp → Prop) : Prop := ∀ D, H1 D = none → ∃ W : Nat → Nat → Hp → Prop, (∃ m, W 0 m (upd H1 D (.dK []))) ∧ ∀ i m H, W i m H →
  (J.stop i H ∧ Q D H) ∨ (J.go i H ∧ ∃ Nx : Hp → Prop, (∀ H', Nx H' → ∃ m', m' < m ∧ W (i + 1) m' H') ∧ ∀ x H', J.yld i H x H' → g x (wipe σ vs) H' fun σ2 H2 => wipe σ2 vs = wipe σ vs ∧ tt σ2 H2 fun b H3 =>
    if b = true then tk σ2 H3 fun y H4 => tv σ2 H4 fun z H5 => ∃ kvs k, y = kV k ∧ H5 D = some (.dK kvs) ∧ kvs.length < sizeLine ∧ Nx (upd H5 D (.dK (putK kvs k z))) else Nx H3)
/-- unlike keys: kvs is what it makes -/
theorem dc_gen {J : It} {g : TG} {tt : TT} {tk tv : TE} {vs : List Nat} {σ : St} {H1 : Hp} {Q : Addr → Hp → Prop} (kvs : List (Key × V)) (short : kvs.length < 1000000) (unlike : (kvs.map (·.1)).Nodup) (go : ∀ i H, Same H1 H → i < kvs.length → J.go i H) (stop : ∀ H, Same H1 H → J.stop kvs.length H)
    (turn : ∀ (i : Nat) (x : V) (k : Key) (v : V) (H H' : Hp) (C : V → V → Hp → Prop) (N : Hp → Prop), kvs[i]? = some (k, v) → Same H1 H → J.yld i H x H' → (∀ H5, Same H H5 → C (kV k) v H5) →
      g x (wipe σ vs) H' fun σ2 H2 => wipe σ2 vs = wipe σ vs ∧ tt σ2 H2 fun b H3 => if b = true then tk σ2 H3 fun y H4 => tv σ2 H4 fun z H5 => C y z H5 else N H3)
    (fin : ∀ H D, H1 D = none → H D = some (.dK kvs) → Same H1 H → Q D H) : DcW J g tt tk tv vs σ H1 Q := by
  intro D nD
  refine ⟨fun i m H => m = kvs.length - i ∧ i ≤ kvs.length ∧ H D = some (.dK (kvs.take i)) ∧ Same H1 H, ⟨_, rfl, Nat.zero_le _, upd_same, same_new nD⟩, ?_⟩
  rintro i m H ⟨rfl, le, oD, s1⟩
  by_cases lt : i < kvs.length
  · refine .inr ⟨go i H s1 lt, fun H' => H' D = some (.dK (kvs.take (i + 1))) ∧ Same H1 H', fun H' h => ⟨kvs.length - (i + 1), by omega, rfl, lt, h⟩, fun x H' yl => ?_⟩
    obtain ⟨k, v⟩ : Key × V := kvs[i]
    have ey : kvs[i]? = some (kvs[i].1, kvs[i].2) := List.getElem?_eq_getElem lt
    have et : kvs.take (i + 1) = kvs.take i ++ [(kvs[i].1, kvs[i].2)] := by rw [List.take_succ, ey]; rfl
    refine turn i x _ _ H H' (fun y z H5 => ∃ acc k, y = kV k ∧ H5 D = some (.dK acc) ∧ acc.length < sizeLine ∧ (upd H5 D (.dK (putK acc k z))) D = some (.dK (kvs.take (i + 1))) ∧ Same H1 (upd H5 D (.dK (putK acc k z)))) _ ey s1 yl fun H5 s5 => ⟨_, _, rfl, s5 _ _ oD, ?_, ?_, ?_⟩
    · rw [sizeLine_eq, List.length_take]; omega
    · rw [upd_same, put_last, et]
      have sp : ((kvs.take (i + 1)).map (·.1)).Nodup := (unlike.sublist ((List.take_sublist _ _).map _))
      rw [et, List.map_append, List.nodup_append] at sp
      exact fun hin => sp.2.2 _ hin _ (by simp) rfl
    · intro b u e
      rw [upd_ne (ne_of_none e nD)]
      exact s5 _ _ (s1 _ _ e)
  · obtain rfl : i = kvs.length := by omega
    rw [List.take_length] at oD
    exact .inl ⟨stop H s1, fin H D nD oD s1⟩
/-- a comprehension whose turns make things anew: R tells what the thing of a turn is -/
theorem lc_made {J : It} {g : TG} {tt : TT} {te : TE} {vs : List Nat} {σ : St} {H1 : Hp} {Q : Addr → Hp → Prop} (n : Nat) (short : n < 1000000) (go : ∀ i H, Same H1 H → i < n → J.go i H) (stop : ∀ H, Same H1 H → J.stop n H) (R : Nat → V → Hp → Prop)
    (stays : ∀ i y H H' D l, R i y H → H D = some (.lst l) → (∀ b o, b ≠ D → H b = some o → H' b = some o) → R i y H')
    (turn : ∀ (i : Nat) (x : V) (H H' : Hp) (C : V → Hp → Prop) (N : Hp → Prop), i < n → Same H1 H → J.yld i H x H' → (∀ y H4, R i y H4 → Same H H4 → C y H4) → g x (wipe σ vs) H' fun σ2 H2 => wipe σ2 vs = wipe σ vs ∧ tt σ2 H2 fun b H3 => if b = true then te σ2 H3 C else N H3)
    (fin : ∀ H D ys, H1 D = none → H D = some (.lst ys) → ys.length = n → (∀ j y, ys[j]? = some y → R j y H) → Same H1 H → Q D H) : LcW J g tt te vs σ H1 Q := by
  intro D nD
  refine ⟨fun i m H => m = n - i ∧ i ≤ n ∧ ∃ ys : List V, H D = some (.lst ys) ∧ ys.length = i ∧ (∀ j y, ys[j]? = some y → R j y H) ∧ Same H1 H, ⟨_, rfl, Nat.zero_le _, [], upd_same, rfl, (fun j y e => by cases e), same_new nD⟩, ?_⟩
  rintro i m H ⟨rfl, le, ys, oD, ly, ry, s1⟩
  by_cases lt : i < n
  · refine .inr ⟨go i H s1 lt, fun H' => ∃ ys : List V, H' D = some (.lst ys) ∧ ys.length = i + 1 ∧ (∀ j y, ys[j]? = some y → R j y H') ∧ Same H1 H', fun H' h => ⟨n - (i + 1), by omega, rfl, lt, h⟩, fun x H' yl => ?_⟩
    refine turn i x H H' _ _ lt s1 yl fun y H4 ry4 s4 => ⟨_, s4 _ _ oD, by rw [sizeLine_eq]; omega, ys ++ [y], upd_same, by simp [ly], fun j z ej => ?_, ?_⟩
    · have keep : ∀ b o, b ≠ D → H4 b = some o → upd H4 D (.lst (ys ++ [y])) b = some o := fun b o nb e => by rw [upd_ne nb]; exact e
      rcases Nat.lt_or_ge j ys.length with h | h
      · rw [List.getElem?_append_left h] at ej
        exact stays _ _ _ _ D _ (stays j z H H4 D _ (ry j z ej) oD fun b o _ e => s4 _ _ e) (s4 _ _ oD) keep
      · rw [List.getElem?_append_right h] at ej
        have e0 : j - ys.length = 0 := by
          have := (List.getElem?_eq_some_iff.mp ej).1
          simp at this
          omega
        rw [e0] at ej
        obtain rfl : y = z := Option.some.inj ej
        have ji : j = i := by omega
        subst ji
        exact stays _ _ _ _ D _ ry4 (s4 _ _ oD) keep
    · intro b u e
      rw [upd_ne (ne_of_none e nD)]
      exact s4 _ _ (s1 _ _ e)
  · obtain rfl : i = n := by omega
    exact .inl ⟨stop H s1, fin H D ys nD oD ly ry s1⟩
/-- from the things made to their addresses -/
theorem addrs_of {H : Hp} {P : Nat → Addr → Prop} : ∀ (ys : List V) (k : Nat), (∀ j y, ys[j]? = some y → ∃ t, y = V.ref t ∧ P (k + j) t) → ∃ as : List Addr, ys = as.map V.ref ∧ ∀ j a, as[j]? = some a → P (k + j) a
  | [], k, _ => ⟨[], rfl, fun j a e => by cases e⟩
  | y :: ys, k, h => by
    obtain ⟨t, rfl, pt⟩ := h 0 y rfl
    obtain ⟨as, e, pa⟩ := addrs_of (H := H) (P := P) ys (k + 1) fun j z ez => by
      have := h (j + 1) z ez
      rw [show k + 1 + j = k + (j + 1) from by omega]
      exact this
    refine ⟨t :: as, by rw [e]; rfl, fun j a ea => ?_⟩
    cases j with
    | zero => obtain rfl : t = a := Option.some.inj ea; exact pt
    | succ j =>
      have := pa j a ea
      rw [show k + (j + 1) = k + 1 + j from by omega]
      exact this
theorem paired_of {α β : Type} {R : α → β → Prop} : ∀ (xs : List α) (ys : List β), xs.length = ys.length → (∀ (i : Nat) (x : α) (y : β), xs[i]? = some x → ys[i]? = some y → R x y) → Paired R xs ys
  | [], [], _, _ => .nil
  | x :: xs, y :: ys, l, h => .cons (h 0 x y rfl rfl) (paired_of xs ys (by simpa using l) fun i a b ea eb => h (i + 1) a b ea eb)
theorem val_at : ∀ (kvs : List (Key × V)) (k : Key) (v : V), (kvs.map (·.1)).Nodup → (k, v) ∈ kvs → valV kvs k = some v
  | [], _, _, _, h => by cases h
  | q :: kvs, k, v, nk, mem => by
    unfold valV
    rw [List.find?_cons]
    by_cases hq : q.1 = k
    · rw [decide_eq_true hq]
      rcases List.mem_cons.mp mem with z | z
      · rw [← z]; rfl
      · exfalso
        rw [List.map_cons, List.nodup_cons] at nk
        exact nk.1 (hq ▸ List.mem_map_of_mem (f := (·.1)) z)
    · rw [decide_eq_false hq]
      rcases List.mem_cons.mp mem with z | z
      · exact absurd (by rw [← z]) hq
      · rw [List.map_cons, List.nodup_cons] at nk
        exact val_at kvs k v nk.2 z
theorem lc_genO {J : It} {g : TG} {tt : TT} {te : TE} {vs : List Nat} {σ : St} {H1 : Hp} {Q : Addr → Hp → Prop} (ys : List (Option V)) (short : ys.length < 1000000) (go : ∀ i H, Same H1 H → i < ys.length → J.go i H) (stop : ∀ H, Same H1 H → J.stop ys.length H)
    (turn : ∀ (i : Nat) (x : V) (o : Option V) (H H' : Hp) (C : V → Hp → Prop) (N : Hp → Prop), ys[i]? = some o → Same H1 H → J.yld i H x H' → (∀ y, o = some y → ∀ H4, Same H H4 → C y H4) → (o = none → ∀ H4, Same H H4 → N H4) →
      g x (wipe σ vs) H' fun σ2 H2 => wipe σ2 vs = wipe σ vs ∧ tt σ2 H2 fun b H3 => if b = true then te σ2 H3 C else N H3)
    (fin : ∀ H D, H1 D = none → H D = some (.lst (ys.filterMap id)) → Same H1 H → Q D H) : LcW J g tt te vs σ H1 Q := by
  intro D nD
  refine ⟨fun i m H => m = ys.length - i ∧ i ≤ ys.length ∧ H D = some (.lst ((ys.take i).filterMap id)) ∧ Same H1 H, ⟨_, rfl, Nat.zero_le _, upd_same, same_new nD⟩, ?_⟩
  rintro i m H ⟨rfl, le, oD, s1⟩
  by_cases lt : i < ys.length
  · refine .inr ⟨go i H s1 lt, fun H' => H' D = some (.lst ((ys.take (i + 1)).filterMap id)) ∧ Same H1 H', fun H' h => ⟨ys.length - (i + 1), by omega, rfl, lt, h⟩, fun x H' yl => ?_⟩
    have ey : ys[i]? = some ys[i] := List.getElem?_eq_getElem lt
    have et : ys.take (i + 1) = ys.take i ++ [ys[i]] := by rw [List.take_succ, ey]; rfl
    refine turn i x ys[i] H H' _ _ ey s1 yl (fun y e H4 s4 => ⟨_, s4 _ _ oD, ?_, ?_, ?_⟩) fun e H4 s4 => ⟨?_, s1.trans s4⟩
    · rw [sizeLine_eq]
      have := List.length_filterMap_le id (ys.take i)
      rw [List.length_take] at this
      omega
    · rw [upd_same, et, List.filterMap_append, e]; rfl
    · intro b u e'
      rw [upd_ne (ne_of_none e' nD)]
      exact s4 _ _ (s1 _ _ e')
    · rw [et, List.filterMap_append, e]
      simpa using s4 _ _ oD
  · obtain rfl : i = ys.length := by omega
    rw [List.take_length] at oD
    exact .inl ⟨stop H s1, fin H D nD oD s1⟩
end L2.TB
namespace L2.TB
open PySem PySem.Spec PyProof.Rows
/-! the law's own look at pairs of rows -/
theorem ints_shape : ∀ ks : List Int, PyData.canLayAll0 (ks.map PyData.int) = true ∧ PyData.depthAll (ks.map PyData.int) = 0
  | [] => ⟨by simp [PyData.canLayAll0], by simp [PyData.depthAll]⟩
  | b :: bs => by
    obtain ⟨h1, h2⟩ := ints_shape bs
    exact ⟨by simp [PyData.canLayAll0, PyData.canLay0, h1], by simp [PyData.depthAll, PyData.depth, h2]⟩
theorem tup_shaped (ks : List Int) : SeqAt.shaped (.tuple (ks.map PyData.int)) = true := by
  obtain ⟨h1, h2⟩ := ints_shape ks
  unfold SeqAt.shaped
  simp [PyData.canLay0, PyData.depth, h1, h2]
theorem tup_eqvAll : ∀ a b : List Int, PyData.eqvAll (a.map PyData.int) (b.map PyData.int) = decide (a = b)
  | [], [] => by simp [PyData.eqvAll]
  | [], _ :: _ => by simp [PyData.eqvAll]
  | _ :: _, [] => by simp [PyData.eqvAll]
  | x :: a, y :: b => by
    rw [List.map_cons, List.map_cons, PyData.eqvAll, tup_eqvAll a b, PyData.eqv]
    by_cases h1 : x = y
    · by_cases h2 : a = b <;> simp [h1, h2]
    · simp [h1]
theorem tup_eqv (a b : List Int) : PyData.eqv (.tuple (a.map PyData.int)) (.tuple (b.map PyData.int)) = decide (a = b) := by rw [PyData.eqv, tup_eqvAll]
theorem dk_av {ns : List Str} {vs : List Int} {x : Str} (nd : ns.Nodup) (hl : vs.length = ns.length) (xin : x ∈ ns) : valV (dk ns vs) (Sum.inr x) = some (.int (av ns vs x)) := by
  have lt : idx ns x < ns.length := List.idxOf_lt_length_of_mem xin
  have e1 : ns[idx ns x]? = some x := by
    rw [List.getElem?_eq_getElem lt]
    exact congrArg some (List.getElem_idxOf lt)
  have e2 : vs[idx ns x]? = some (av ns vs x) := by
    unfold av
    rw [List.getD_eq_getElem?_getD, List.getElem?_eq_getElem (by omega)]
    rfl
  have edk : (dk ns vs)[idx ns x]? = some (Sum.inr x, V.int (av ns vs x)) := by
    unfold dk
    rw [List.getElem?_map, List.getElem?_zip_eq_some.mpr (show ns[idx ns x]? = some (x, av ns vs x).1 ∧ vs[idx ns x]? = some (x, av ns vs x).2 from ⟨e1, e2⟩)]
    rfl
  obtain ⟨z', n', q1, q2, _, hv⟩ := dk_at edk nd hl.symm
  obtain rfl := Sum.inr.inj q1
  obtain rfl := V.int.inj q2
  exact hv
theorem rd_same {H H' : Hp} {d : Addr} {u : HO} (h : Rd H d u) (s : Same H H') : Rd H' d u := h.imp (s _ _) fun ⟨o, e⟩ => ⟨o, s _ _ e⟩
theorem dget_r {H : Hp} {a : Addr} {kvs : List (Key × V)} {k : Key} (e : Rd H a (.dK kvs)) : DGet H a (kV k) (valV kvs k) := .inl ⟨kvs, k, e, rfl, rfl⟩
/-- rows that are read, one of them perhaps being walked -/
def RRows (H : Hp) (ns : List Str) : List Addr → List (List Int) → Prop := Paired fun a vs => Rd H a (.dK (dk ns vs)) ∧ vs.length = ns.length
theorem RRows.same {H H' : Hp} {ns : List Str} {as : List Addr} {tbl : List (List Int)} (r : RRows H ns as tbl) (s : Same H H') : RRows H' ns as tbl := Paired.mapP r fun a vs h => ⟨rd_same h.1 s, h.2⟩
theorem DRows.rd {H : Hp} {ns : List Str} {as : List Addr} {tbl : List (List Int)} (r : DRows H ns as tbl) : RRows H ns as tbl := Paired.mapP r fun a vs h => ⟨.inl h.1, h.2⟩
end L2.TB
namespace L2.TB
open PySem PySem.Spec PyProof.Rows
/-! tables of rows whose questions stand in any order -/
structure RowD (ns : List Str) (kvs : List (Key × V)) (us : List Int) : Prop where
  keys : (kvs.map (·.1)).Perm (ns.map Sum.inr)
  val : ∀ x ∈ ns, valV kvs (Sum.inr x) = some (.int (av ns us x))
  len : us.length = ns.length
theorem inr_nd {ns : List Str} (nd : ns.Nodup) : (ns.map (Sum.inr : Str → Key)).Nodup := List.Pairwise.map Sum.inr (fun a b h e => h (Sum.inr.inj e)) nd
theorem RowD.nd {ns : List Str} {kvs : List (Key × V)} {us : List Int} (h : RowD ns kvs us) (nd : ns.Nodup) : (kvs.map (·.1)).Nodup := h.keys.nodup_iff.mpr (inr_nd nd)
theorem RowD.size {ns : List Str} {kvs : List (Key × V)} {us : List Int} (h : RowD ns kvs us) : kvs.length = ns.length := by
  have := h.keys.length_eq
  rw [List.length_map, List.length_map] at this
  exact this
theorem RowD.at {ns : List Str} {kvs : List (Key × V)} {us : List Int} {i : Nat} {k : Key} {v : V} (h : RowD ns kvs us) (nd : ns.Nodup) (e : kvs[i]? = some (k, v)) : ∃ x, x ∈ ns ∧ k = Sum.inr x ∧ v = .int (av ns us x) := by
  have m : k ∈ ns.map Sum.inr := h.keys.mem_iff.mp (List.mem_map_of_mem (f := (·.1)) (List.mem_of_getElem? e))
  obtain ⟨x, hx, rfl⟩ := List.mem_map.mp m
  have a := val_at _ _ _ (h.nd nd) (List.mem_of_getElem? e)
  rw [h.val x hx] at a
  exact ⟨x, hx, rfl, (Option.some.inj a).symm⟩
theorem rowD_dk {ns : List Str} {us : List Int} (nd : ns.Nodup) (l : us.length = ns.length) : RowD ns (dk ns us) us :=
  ⟨by rw [dk_keys l.symm], fun x hx => dk_av nd l hx, l⟩
def GRows (H : Hp) (ns : List Str) : List Addr → List (List Int) → Prop := Paired fun a us => ∃ kvs, H a = some (.dK kvs) ∧ RowD ns kvs us
theorem GRows.same {H H' : Hp} {ns : List Str} {as : List Addr} {tbl : List (List Int)} (r : GRows H ns as tbl) (s : Same H H') : GRows H' ns as tbl := Paired.mapP r fun a vs h => let ⟨kvs, e, d⟩ := h; ⟨kvs, s _ _ e, d⟩
/-- the first row's own order -/
def HeadD (H : Hp) (ns : List Str) (as : List Addr) : Prop := ∀ a, as[0]? = some a → ∃ kvs : List (Key × V), H a = some (.dK kvs) ∧ kvs.map (·.1) = ns.map Sum.inr
theorem HeadD.same {H H' : Hp} {ns : List Str} {as : List Addr} (h : HeadD H ns as) (s : Same H H') : HeadD H' ns as := fun a e => let ⟨kvs, o, k⟩ := h a e; ⟨kvs, s _ _ o, k⟩
theorem av_all {ns : List Str} {us : List Int} (nd : ns.Nodup) (l : us.length = ns.length) : ns.map (av ns us) = us := by
  apply List.ext_getElem
  · rw [List.length_map, l]
  · intro i h1 h2
    rw [List.length_map] at h1
    rw [List.getElem_map]
    have e : idx ns ns[i] = i := List.Nodup.idxOf_getElem nd i h1
    unfold av
    rw [e, List.getD_eq_getElem?_getD, List.getElem?_eq_getElem h2]
    rfl
/-- a list or a tuple by its place -/
def rIxA (K : PySem.W.Frag) : R2 := fun x y H Q => rIxL K x y H Q ∨ rIxT K x y H Q
theorem ix_any {X : Cx} : IxR X (rIxA X.K) := by
  intro value slice pins s σ H x y v u Q I rx ry h hs
  rcases h with h | h
  · exact ix_list value slice pins s σ H x y v u Q I rx ry h hs
  · exact ix_tup value slice pins s σ H x y v u Q I rx ry h hs
theorem at_any {K : PySem.W.Frag} {H : Hp} {a : Addr} {xs : List V} {i : Int} {v : V} {Q : VK} (h : SqA K H a xs) (e : atI xs i = some v) (q : Q v H) : rIxA K (.ref a) (.int i) H Q := by
  rcases h with h | h
  · exact .inl ⟨_, _, _, _, rfl, rfl, SqL.of h, e, q⟩
  · exact .inr ⟨_, _, _, _, rfl, rfl, SqT.of h, e, q⟩
/-- things made anew over a list or a tuple -/
theorem lc_madeS {K : PySem.W.Frag} {a : Addr} {xs : List V} {g : TG} {tt : TT} {te : TE} {vs : List Nat} {σ : St} {H1 : Hp} {Q : Addr → Hp → Prop} (h : SqA K H1 a xs) (short : xs.length < 1000000) (R : Nat → V → Hp → Prop)
    (stays : ∀ i y H H' D l, R i y H → H D = some (.lst l) → (∀ b o, b ≠ D → H b = some o → H' b = some o) → R i y H')
    (turn : ∀ (i : Nat) (x : V) (H : Hp) (C : V → Hp → Prop) (N : Hp → Prop), xs[i]? = some x → Same H1 H → (∀ y H4, R i y H4 → Same H H4 → C y H4) → g x (wipe σ vs) H fun σ2 H2 => wipe σ2 vs = wipe σ vs ∧ tt σ2 H2 fun b H3 => if b = true then te σ2 H3 C else N H3)
    (fin : ∀ H D ys, H1 D = none → H D = some (.lst ys) → ys.length = xs.length → (∀ j y, ys[j]? = some y → R j y H) → Same H1 H → Q D H) :
    ∃ b ys, V.ref a = V.ref b ∧ ((SqL K H1 b ys ∧ LcW (Itl K b) g tt te vs σ H1 Q) ∨ (SqT K H1 b ys ∧ LcW (Itt K b) g tt te vs σ H1 Q)) := by
  rcases h with h | h
  · refine ⟨a, xs, rfl, .inl ⟨SqL.of h, lc_made xs.length short (fun i H' s lt => ⟨_, _, SqL.of (s _ _ h), List.getElem?_eq_getElem lt⟩) (fun H' s => ⟨_, SqL.of (s _ _ h), Nat.le_refl _⟩) R stays ?_ fin⟩⟩
    rintro i x H H' C N lt s1 ⟨rfl, ex⟩ yes
    exact turn i x H' C N (ex _ (SqL.of (s1 _ _ h))) s1 yes
  · refine ⟨a, xs, rfl, .inr ⟨SqT.of h, lc_made xs.length short (fun i H' s lt => ⟨_, _, SqT.of (s _ _ h), List.getElem?_eq_getElem lt⟩) (fun H' s => ⟨_, SqT.of (s _ _ h), Nat.le_refl _⟩) R stays ?_ fin⟩⟩
    rintro i x H H' C N lt s1 ⟨rfl, ex⟩ yes
    exact turn i x H' C N (ex _ (SqT.of (s1 _ _ h))) s1 yes
def spHasJustG (K : PySem.W.Frag) : Sp := fun vs H Q _ => ∃ (d c : Addr) (kvs : List (Key × V)) (ns : List Str), vs = [.ref d, .ref c] ∧ H d = some (.dK kvs) ∧ H c = some (.lst (ns.map V.str)) ∧ kvs.length = ns.length ∧ (∀ x ∈ ns, ∃ v, valV kvs (Sum.inr x) = some v) ∧ ns.length < 1000 ∧ ∀ H', Same H H' → Q (.bl true) H'
def spBadRowG (K : PySem.W.Frag) : Sp := fun vs H Q _ => ∃ (r : Addr) (as : List Addr) (ns : List Str) (tbl : List (List Int)), vs = [.ref r] ∧ SqA K H r (as.map V.ref) ∧ GRows H ns as tbl ∧ HeadD H ns as ∧ tbl ≠ [] ∧ tbl.length < 1000 ∧ ns ≠ [] ∧ ns.Nodup ∧ (∀ x ∈ ns, NmOk x) ∧ ns.length < 1000 ∧ ∀ H', Same H H' → Q .non H'
def spInitG (K : PySem.W.Frag) (C : Addr) : Sp := fun vs H Q _ => ∃ (p dx r : Addr) (as : List Addr) (ns : List Str) (tbl : List (List Int)), vs = [.ref p, .ref r] ∧ H p = some (.ins C dx []) ∧ SqA K H r (as.map V.ref) ∧ GRows H ns as tbl ∧ HeadD H ns as ∧ tbl ≠ [] ∧ tbl.length < 1000 ∧ ns ≠ [] ∧ ns.Nodup ∧ (∀ x ∈ ns, NmOk x) ∧ ns.length < 1000 ∧
  ∀ H', TabAt H' C p ns tbl → (∀ b o, b ≠ p → H b = some o → H' b = some o) → Q .non H'
section
variable {P : Program} {w : World} {K : PySem.W.Frag} {mg : Str → Option Value} {base : Heap} {f fL fI fN fH fB C : Addr} {fd fdL fdI fdN fdH fdB : FuncData}
theorem ok_hasJustG (F : Fun K "has_just" "has_just" sHasJust f fd) (gI : mg "isinstance" = none) (gD : mg "dict" = none) (gN : mg "len" = none) (gA : mg "all" = none) : FnOk P w K mg base CX0 1 f fd ["thing", "names"] (spHasJustG K) := by
  refine F.ok scHasJust (fun vs H Q E h => by obtain ⟨d, c, kvs, ns, e, _⟩ := h; rw [e]; rfl) fun cdv A outer s H vs Q E hr hsp => ?_
  obtain ⟨d, c, kvs, ns, rfl, hd, hc, lk, has, short, hq⟩ := hsp
  have nd := scHasJust.nd
  have hu := hu_of hr
  refine ⟨_, pss_one (ps_ret (pe_and (pe_callB (r := rIsi K) call_isi rfl gI boot_isi (pa_cons (pv 0) (pa_cons (pe_bltn (v := .ty "dict") rfl gD boot_dict' rfl) pa_nil))) (pe_and (pe_cmpR op_eq (pe_callB call_lenD rfl gN boot_len (pa_cons (pv 0) pa_nil)) (pe_callB call_len_seq rfl gN boot_len (pa_cons (pv 1) pa_nil)) (nomark _))
    (pe_one (pe_callB (cr_all rfl) rfl gA boot_all' (pa_cons (pe_lc (own := [("name", 2)]) (tt := tYes) rfl nd (pi_seq (pv 1)) (blkOk_by (N := NHj) (sc := defScope sHasJust) (by decide +kernel)) (fun _ _ _ _ _ => pg_name (i := 2) nd rfl (Or.inl rfl)) (fun _ _ _ _ _ => pts_nil)
      (fun _ _ _ _ _ => pe_cmp (pc_din hu (pv 2) (pv 0)))) pa_nil)))))), ?_⟩
  refine ⟨_, rfl, _, _, _, _, true, rfl, .ty _, .base (.dK hd), kit_ty (by decide +kernel), _, rfl, iteT ?_⟩
  refine ⟨_, rfl, d, kvs, rfl, hd, _, rfl, c, _, rfl, .inl (SqL.of hc), rfl, _, rfl, ?_⟩
  rw [dec_int2, List.length_map, lk, decide_eq_true rfl]
  refine iteT ⟨_, rfl, lc_seq (.inl rfl) hc (by rw [List.length_map]; omega) (fun _ => true) (fun _ => .bl true) ?_ ?_⟩
  · rintro i v H2 Cn Nn ev s2 yes no
    rw [List.getElem?_map] at ev
    obtain ⟨x, ex, rfl⟩ := Option.map_eq_some_iff.mp ev
    obtain ⟨y, ey⟩ := has x (List.mem_of_getElem? ex)
    refine ⟨rfl, ?_⟩
    refine ⟨_, rfl, _, rfl, d, _, rfl, DGet.k (k := Sum.inr x) (s2 _ _ hd), ?_⟩
    rw [ey]
    exact yes rfl H2 (Same.refl _)
  · intro H2 D nD oD s2
    rw [const_map, bools_map] at oD
    refine ⟨D, _, rfl, SqL.of oD, ?_⟩
    rw [all_true]
    exact hq H2 s2
theorem ok_badRowG (F : Fun K "_first_bad_row" "_first_bad_row" sBadRow f fd) (FL : Fun K "is_list" "is_list" sIsList fL fdL) (gIL : mg "is_list" = some (.ref fL)) (FI : Fun K "is_integer" "is_integer" sIsInt fI fdI) (gII : mg "is_integer" = some (.ref fI))
    (FN : Fun K "is_name" "is_name" sIsName fN fdN) (gIN : mg "is_name" = some (.ref fN)) (FH : Fun K "has_just" "has_just" sHasJust fH fdH) (gHJ : mg "has_just" = some (.ref fH))
    (gI : mg "isinstance" = none) (gL : mg "list" = none) (gT : mg "tuple" = none) (gS : mg "str" = none) (gE : mg "enumerate" = none) (gN : mg "len" = none) (gA : mg "all" = none) (gD : mg "dict" = none) (gInt : mg "int" = none) (gB : mg "bool" = none)
    (gLo : ∃ t, mg "LONGEST" = some (.int 40 t)) (gSg : ∃ t, mg "SIGNS" = some (.str (Str.ofString "abcdefghijklmnopqrstuvwxyz0123456789.") t)) : FnOk P w K mg base CX0 2 f fd ["rows"] (spBadRowG K) := by
  have GL : FnOk P w K mg base CX0 1 fL fdL ["thing"] (spIsList K) := ok_isList FL gI gL gT
  have bL := FL.binds (ps := ["thing"]) fun _ _ _ _ _ _ us hl => match us, hl with | [_], _ => rfl
  have GI : FnOk P w K mg base CX0 1 fI fdI ["thing"] spIsInt := ok_isInt FI gI gInt gB
  have bI := FI.binds (ps := ["thing"]) fun _ _ _ _ _ _ us hl => match us, hl with | [_], _ => rfl
  have GN : FnOk P w K mg base CX0 1 fN fdN ["thing"] spIsName := ok_isName FN gI gS gN gA gLo gSg
  have bN := FN.binds (ps := ["thing"]) fun _ _ _ _ _ _ us hl => match us, hl with | [_], _ => rfl
  have GH : FnOk P w K mg base CX0 1 fH fdH ["thing", "names"] (spHasJustG K) := ok_hasJustG FH gI gD gN gA
  have bH := FH.binds (ps := ["thing", "names"]) fun _ _ _ _ _ _ us hl => match us, hl with | [_, _], _ => rfl
  refine F.ok scBadRow (fun vs H Q E h => by obtain ⟨r, as, ns, tbl, e, _⟩ := h; rw [e]; rfl) fun cdv A outer s H vs Q E hr hsp => ?_
  obtain ⟨r, as, ns, tbl, rfl, hrr, rows, hd0, tne, tsh, nne, nnd, nok, nsh, hq⟩ := hsp
  have nd := scBadRow.nd
  have hu := hu_of hr
  refine ⟨_, pss_cons (ps_if (PW.pt (pw_or (pt_not (pt_val (pe_call GL hr rfl gIL FL.kp bL .nil pass0 (pa_cons (pv 0) pa_nil)))) (pw_or1 (pt_cmpR op_eq (pe_callB call_len_seq rfl gN boot_len (pa_cons (pv 0) pa_nil)) pe_int (nomark _))))) (pss_one ps_never) pss_nil)
    (pss_cons (ps_for PassesOwn.never rfl (pi_enumS rfl gE (pa_cons (pv 0) pa_nil)) (pg_tup rfl (pgs_cons (pg_name (i := 1) nd rfl (Or.inl rfl)) (pgs_cons (pg_name (i := 2) nd rfl (Or.inr rfl)) pgs_nil)))
      (pss_cons (ps_if (PW.pt (pw_or (pt_not (pt_val (pe_callB (r := rIsi K) call_isi rfl gI boot_isi (pa_cons (pv 2) (pa_cons (pe_bltn (v := .ty "dict") rfl gD boot_dict' rfl) pa_nil)))))
          (pw_or (pt_cmpR op_eq (pe_callB call_lenD rfl gN boot_len (pa_cons (pv 2) pa_nil)) pe_int (nomark _))
          (pw_or1 (pt_not (pt_val (pe_callB (cr_all rfl) rfl gA boot_all' (pa_cons (pe_lock (pe_lc (own := [("name", 3)]) (tt := tYes) rfl nd (pi_keys (pv 2)) (blkOk_by (N := NB) (sc := defScope sBadRow) (by decide +kernel)) (fun _ _ _ _ _ => pg_name (i := 3) nd rfl (Or.inl rfl)) (fun _ _ _ _ _ => pts_nil)
            (fun _ _ _ _ _ => pe_call GI hr rfl gII FI.kp bI .nil pass0 (pa_cons (pe_dget hu (pv 2) (pv 3) (fun _ _ => rfl)) pa_nil)))) pa_nil)))))))) (pss_one ps_never) pss_nil)
      (pss_one (ps_if (PW.pt (pw_or (pt_not (pt_val (pe_callB (cr_all rfl) rfl gA boot_all' (pa_cons (pe_lock (pe_lc (own := [("name", 3)]) (tt := tYes) rfl nd (pi_keys (pv 2)) (blkOk_by (N := NB) (sc := defScope sBadRow) (by decide +kernel)) (fun _ _ _ _ _ => pg_name (i := 3) nd rfl (Or.inl rfl)) (fun _ _ _ _ _ => pts_nil)
            (fun _ _ _ _ _ => pe_call GN hr rfl gIN FN.kp bN .nil pass0 (pa_cons (pv 3) pa_nil)))) pa_nil))))
          (pw_or1 (pt_not (pt_val (pe_call GH hr rfl gHJ FH.kp bH .nil pass0 (pa_cons (pv 2) (pa_cons (pe_callTy (call_listD rfl) rfl gL boot_list' (pa_cons (pe_ix (r := rIxA K) ix_any (pv 0) pe_int (fun _ _ => rfl)) pa_nil)) pa_nil)))))))) (pss_one ps_never) pss_nil))))
    (pss_one (ps_ret pe_non))), ?_⟩
  have las : as.length = tbl.length := Paired.length rows
  have pos : 0 < tbl.length := List.length_pos_iff.mpr tne
  have npos : 0 < ns.length := List.length_pos_iff.mpr nne
  refine ⟨_, rfl, r, _, rfl, hrr, fun H1 k1 => ⟨_, rfl, iteF ?_⟩⟩
  refine ⟨_, rfl, r, _, rfl, (hrr.same k1).seq, rfl, _, rfl, ?_⟩
  rw [dec_int2, List.length_map, decide_eq_false (by omega : ¬ ((as.length : Nat) : Int) = 0)]
  refine iteF ?_
  have ko : ∃ o, (o = .lst (as.map V.ref) ∨ o = .tup (as.map V.ref)) ∧ H r = some o := hrr.elim (fun h => ⟨_, .inl rfl, h⟩) (fun h => ⟨_, .inr rfl, h⟩)
  obtain ⟨o, ko, hro⟩ := ko
  refine ⟨_, rfl, enum_seq ko (fun i σ H' => Same H1 H' ∧ ∃ s1 s2 s3, σ = [some (.ref r), s1, s2, s3]) ⟨Same.refl _, _, _, _, rfl⟩ (fun i σ H' _ h => h.1 _ _ (k1 _ _ hro)) ?_ ?_⟩
  · rintro i v σ H2 T ev ⟨s2, s1', s2', s3', rfl⟩ nT
    rw [List.getElem?_map] at ev
    obtain ⟨a, ea, rfl⟩ := Option.map_eq_some_iff.mp ev
    have sT := (k1.trans s2).trans (same_new (o := .tup [.int (i : Nat), .ref a]) nT)
    refine ⟨T, _, rfl, SqT.of upd_same, rfl, _, _, rfl, _, _, rfl, rfl, ?_⟩
    have s2T := s2.trans (same_new (o := .tup [.int (i : Nat), .ref a]) nT)
    generalize upd H2 T (.tup [.int (i : Nat), .ref a]) = H3 at sT s2T
    obtain ⟨us, ev2, kvs, oa, rd⟩ := paired_get (rows.same sT) ea
    have ldk := rd.size
    refine ⟨_, rfl, _, _, _, _, true, rfl, .ty _, .base (.dK oa), kit_ty (by decide +kernel), _, rfl, iteF ?_⟩
    refine ⟨_, rfl, a, _, rfl, oa, rfl, _, rfl, ?_⟩
    rw [dec_int2, ldk, decide_eq_false (by omega : ¬ ((ns.length : Nat) : Int) = 0)]
    refine iteF ?_
    refine ⟨a, _, oa, trivial, fun od => ⟨_, rfl, a, od, rfl, .inl ⟨_, upd_same, lc_gen (bools ns.length) (by rw [bools_len]; omega) (fun j H' s lt => ⟨s _ _ upd_same, by rw [ldk]; rw [bools_len] at lt; exact lt⟩) (fun H' s => ⟨s _ _ upd_same, by rw [ldk, bools_len]; exact Nat.le_refl _⟩) ?_ ?_⟩⟩⟩
    · rintro j v y H4 H5 Cn Nn ey s4 ⟨rfl, k, w', ek, rfl⟩ yes
      obtain ⟨rfl, lt⟩ := bools_at ey
      obtain ⟨x, xin, rfl, rfl⟩ := rd.at nnd ek
      refine ⟨rfl, ?_⟩
      exact ⟨_, rfl, _, rfl, a, _, rfl, .inl ⟨_, Sum.inr x, .inr ⟨_, s4 _ _ upd_same⟩, rfl, (rd.val x xin).symm⟩, _, rfl, yes H5 (Same.refl _)⟩
    · intro H4 D nD oD s4
      obtain ⟨b1, s34⟩ := lock_off oa s4
      have Da : D ≠ a := fun z => by rw [z, upd_same] at nD; cases nD
      rw [bools_map] at oD
      refine ⟨b1, D, _, rfl, SqL.of (by rw [upd_ne Da]; exact oD), _, rfl, ?_⟩
      rw [all_true]
      refine iteF ?_
      have oa4 := s34 _ _ oa
      have sH4 := sT.trans s34
      have s14 := s2T.trans s34
      generalize upd H4 a (.dK kvs) = H5 at s34 oa4 sH4 s14
      refine ⟨a, _, oa4, trivial, fun od2 => ⟨_, rfl, a, od2, rfl, .inl ⟨_, upd_same, lc_gen (bools ns.length) (by rw [bools_len]; omega) (fun j H' s lt => ⟨s _ _ upd_same, by rw [ldk]; rw [bools_len] at lt; exact lt⟩) (fun H' s => ⟨s _ _ upd_same, by rw [ldk, bools_len]; exact Nat.le_refl _⟩) ?_ ?_⟩⟩⟩
      · rintro j v y H6 H7 Cn Nn ey s6 ⟨rfl, k, w', ek, rfl⟩ yes
        obtain ⟨rfl, lt⟩ := bools_at ey
        obtain ⟨x, xin, rfl, rfl⟩ := rd.at nnd ek
        refine ⟨rfl, ?_⟩
        exact ⟨_, rfl, x, rfl, nok x xin, fun H' s' => yes H' s'⟩
      · intro H6 D2 nD2 oD2 s6
        obtain ⟨b2, s56⟩ := lock_off oa4 s6
        have Da2 : D2 ≠ a := fun z => by rw [z, upd_same] at nD2; cases nD2
        rw [bools_map] at oD2
        refine ⟨b2, D2, _, rfl, SqL.of (by rw [upd_ne Da2]; exact oD2), _, rfl, ?_⟩
        rw [all_true]
        refine iteF ?_
        have oa6 := s56 _ _ oa4
        have sH6 := sH4.trans s56
        have s16 := s14.trans s56
        generalize upd H6 a (.dK kvs) = H7 at oa6 sH6 s16
        obtain ⟨a0, ea0⟩ : ∃ a0, as[0]? = some a0 := ⟨as[0]'(by omega), List.getElem?_eq_getElem _⟩
        obtain ⟨kv0, oa0, ek0⟩ := (hd0.same sH6) a0 ea0
        have at0' : atI (as.map V.ref) ((0 : Nat) : Int) = some (.ref a0) := atI_nat (by rw [List.getElem?_map, ea0]; rfl)
        refine ⟨_, rfl, _, rfl, at_any (hrr.same sH6) at0' ⟨a0, _, rfl, .inl oa0, fun q nq => ?_⟩⟩
        have ekeys : (kv0.map fun kv => kV kv.1) = ns.map V.str := by
          have z := congrArg (List.map kV) ek0
          rw [List.map_map, List.map_map] at z
          exact z
        rw [ekeys]
        have sq := same_new (o := .lst (ns.map V.str)) nq
        exact ⟨a, q, kvs, ns, rfl, sq _ _ oa6, upd_same, ldk, fun x hx => ⟨_, rd.val x hx⟩, nsh, fun H' s' => ⟨_, rfl, iteF ⟨(s16.trans sq).trans s', _, _, _, rfl⟩⟩⟩
  · rintro σ H2 ⟨s2, s1', s2', s3', rfl⟩
    exact hq _ (k1.trans s2)
end
end L2.TB
namespace L2.TB
open PySem PySem.Spec PyProof.Rows
section
variable {P : Program} {w : World} {K : PySem.W.Frag} {mg : Str → Option Value} {base : Heap} {f C fB : Addr} {fd fdB : FuncData}
theorem ok_initG (F : Fun K "__init__" "Table.__init__" sInit f fd) (T : TabC K C) (GB : FnOk P w K mg base CX0 2 fB fdB ["rows"] (spBadRowG K)) (FB : Fun K "_first_bad_row" "_first_bad_row" sBadRow fB fdB) (gB : mg "_first_bad_row" = some (.ref fB)) (gL : mg "list" = none) (gT : mg "tuple" = none) : FnOk P w K mg base CX0 3 f fd ["self", "rows"] (spInitG K C) := by
  have bB := FB.binds (ps := ["rows"]) fun _ _ _ _ _ _ us hl => match us, hl with | [_], _ => rfl
  refine F.ok scInit (fun vs H Q E h => by obtain ⟨p, dx, r, as, ns, tbl, e, _⟩ := h; rw [e]; rfl) fun cdv A outer s H vs Q E hr hsp => ?_
  obtain ⟨p, dx, r, as, ns, tbl, rfl, hp, hrr, rows, hd0, tne, tsh, nne, nnd, nok, nsh, hq⟩ := hsp
  have nd := scInit.nd
  have hu := hu_of hr
  refine ⟨_, pss_cons (ps_set (i := 2) nd rfl (Or.inl rfl) (pe_call GB hr rfl gB FB.kp bB .nil pass0 (pa_cons (pv 1) pa_nil)))
    (pss_cons (ps_if (pt_cmp (pc_notN (pv 2))) (pss_one ps_never) pss_nil)
    (pss_cons (ps_fld (pv 0) (pe_callTy (call_listD rfl) rfl gL boot_list' (pa_cons (pe_ix (r := rIxA K) ix_any (pv 1) pe_int (fun _ _ => rfl)) pa_nil)) rfl)
    (pss_one (ps_fld (pv 0) (pe_lc (own := [("row", 3)]) (tt := tYes) (te := tCB (rTupOf K) (tCons (tLc (iList K (tFld K (tVar 0) "_questions")) (gName 4) tYes (tDGet (tVar 3) (tVar 4)) [4]) tNil)) rfl nd (pi_seq (pv 1)) (blkOk_by (N := NI) (sc := defScope sInit) (by decide +kernel)) (fun _ _ _ _ _ => pg_name (i := 3) nd rfl (Or.inr rfl)) (fun _ _ _ _ _ => pts_nil)
      (fun _ _ _ _ _ => pe_callTy (r := rTupOf K) call_tuple_of rfl gT boot_tuple' (pa_cons (pe_lc (own := [("name", 4)]) (tt := tYes) (g := gName 4) (wi := iList K (tFld K (tVar 0) "_questions")) (te := tDGet (tVar 3) (tVar 4)) rfl nd (pi_list (pe_fld (pv 0) rfl)) (blkOk_by (N := NI) (sc := scRow) (by decide +kernel)) (fun _ _ _ _ _ => pg_name (i := 4) nd rfl (Or.inl rfl)) (fun _ _ _ _ _ => pts_nil)
        (fun _ _ _ _ _ => pe_dget hu (pv 3) (pv 4) (fun _ _ => rfl))) pa_nil))) rfl)))), ?_⟩
  have las : as.length = tbl.length := Paired.length rows
  have pos : 0 < tbl.length := List.length_pos_iff.mpr tne
  refine ⟨_, rfl, r, as, ns, tbl, rfl, hrr, rows, hd0, tne, tsh, nne, nnd, nok, nsh, fun H1 s1 => ?_⟩
  refine ⟨_, rfl, _, rfl, iteF ?_⟩
  obtain ⟨a0, ea0⟩ : ∃ a0, as[0]? = some a0 := ⟨as[0]'(by omega), List.getElem?_eq_getElem _⟩
  obtain ⟨kv0, oa0, ek0⟩ := (hd0.same s1) a0 ea0
  have at0' : atI (as.map V.ref) ((0 : Nat) : Int) = some (.ref a0) := atI_nat (by rw [List.getElem?_map, ea0]; rfl)
  have ekeys : (kv0.map fun kv => kV kv.1) = ns.map V.str := by
    have z := congrArg (List.map kV) ek0
    rw [List.map_map, List.map_map] at z
    exact z
  refine ⟨_, rfl, at_any (hrr.same s1) at0' ⟨a0, _, rfl, .inl oa0, fun qa nqa => ?_⟩⟩
  rw [ekeys]
  have sq := same_new (o := .lst (ns.map V.str)) nqa
  have hp2 := sq _ _ (s1 _ _ hp)
  have oq2 : upd H1 qa (.lst (ns.map V.str)) qa = some (.lst (ns.map V.str)) := upd_same
  have s12 := s1.trans sq
  generalize upd H1 qa (.lst (ns.map V.str)) = H2 at sq hp2 oq2 s12
  refine ⟨_, rfl, p, C, dx, _, rfl, hp2, T.cl, T.nQ, by decide, ?_⟩
  have hpu : upd H2 p (.ins C dx (putF "_questions" (.ref qa) [])) p = some (.ins C dx (putF "_questions" (.ref qa) [])) := upd_same
  have s2p : ∀ b o, b ≠ p → H2 b = some o → upd H2 p (.ins C dx (putF "_questions" (.ref qa) [])) b = some o := fun b o nb e => by rw [upd_ne nb]; exact e
  generalize upd H2 p (.ins C dx (putF "_questions" (.ref qa) [])) = H4 at hpu s2p
  have rp : r ≠ p := by
    intro z
    rw [z] at hrr
    rcases hrr with h | h <;> (rw [hp] at h; cases h)
  have qp : qa ≠ p := ne_of oq2 hp2 (by intro z; cases z)
  have or4 : SqA K H4 r (as.map V.ref) := (hrr.same s12).imp (s2p _ _ rp) (s2p _ _ rp)
  have oq4 := s2p _ _ qp oq2
  have rows4 : GRows H4 ns as tbl := Paired.mapP rows fun a vs h => let ⟨kvs, e, d⟩ := h; ⟨kvs, s2p _ _ (ne_of e hp (by intro z; cases z)) (s12 _ _ e), d⟩
  refine ⟨_, rfl, lc_madeS or4 (by rw [List.length_map]; omega) (fun i y H' => ∃ t us, y = V.ref t ∧ tbl[i]? = some us ∧ H' t = some (.tup (us.map V.int)) ∧ us.length = ns.length) ?_ ?_ ?_⟩
  · rintro i y H5 H6 D l ⟨t, us, rfl, eu, ot, lu⟩ oD keep
    exact ⟨t, us, rfl, eu, keep _ _ (ne_of ot oD (by intro z; cases z)) ot, lu⟩
  · rintro i v H5 Cn Nn ev s5 yes
    rw [List.getElem?_map] at ev
    obtain ⟨a, ea, rfl⟩ := Option.map_eq_some_iff.mp ev
    obtain ⟨us, eu, kvs, oa, rd⟩ := paired_get (rows4.same s5) ea
    refine ⟨rfl, ?_⟩
    refine ⟨_, rfl, p, C, dx, _, _, rfl, s5 _ _ hpu, T.cl, T.nQ, rfl, qa, rfl, ⟨_, SqL.of (s5 _ _ oq4)⟩, lc_gen ((ns.map (av ns us)).map V.int) (by rw [List.length_map, List.length_map]; omega) (fun j H' s lt => ⟨ns.map V.str, _, SqL.of (s _ _ (s5 _ _ oq4)), List.getElem?_eq_getElem (by rw [List.length_map, List.length_map] at lt; rw [List.length_map]; exact lt)⟩) (fun H' s => ⟨ns.map V.str, SqL.of (s _ _ (s5 _ _ oq4)), by rw [List.length_map, List.length_map, List.length_map]; omega⟩) ?_ ?_⟩
    · rintro j x y H6 H7 Cm Nm ey s6 ⟨rfl, ex⟩ yes2
      have ex := ex _ (SqL.of (s6 _ _ (s5 _ _ oq4)))
      rw [List.getElem?_map] at ex
      obtain ⟨z, ez, rfl⟩ := Option.map_eq_some_iff.mp ex
      rw [List.getElem?_map, List.getElem?_map, ez] at ey
      obtain rfl : V.int (av ns us z) = y := Option.some.inj ey
      refine ⟨rfl, ?_⟩
      exact ⟨_, rfl, _, rfl, a, _, rfl, rd.val z (List.mem_of_getElem? ez) ▸ DGet.k (k := Sum.inr z) (s6 _ _ oa), yes2 H7 (Same.refl _)⟩
    · intro H6 l nl ol s6
      rw [av_all nnd rd.len] at ol
      refine ⟨l, _, rfl, .inl ⟨SqL.of ol, fun t nt => ?_⟩⟩
      have st := same_new (o := .tup (us.map V.int)) nt
      exact yes _ _ ⟨t, us, rfl, eu, upd_same, rd.len⟩ (s6.trans st)
  · intro H5 D ys nD oD ly ry s5
    rw [List.length_map] at ly
    obtain ⟨ps, rfl, pa⟩ := addrs_of (H := H5) (P := fun i t => ∃ us, tbl[i]? = some us ∧ H5 t = some (.tup (us.map V.int)) ∧ us.length = ns.length) ys 0 fun j y e => by
      obtain ⟨t, us, e1, e2, e3, e4⟩ := ry j y e
      exact ⟨t, e1, us, by simpa using e2, e3, e4⟩
    refine ⟨_, rfl, p, C, dx, _, rfl, s5 _ _ hpu, T.cl, T.nR, by show 1 < 1000; decide, ?_⟩
    rw [put_two]
    have Dp : D ≠ p := fun z => by rw [z, hpu] at nD; cases nD
    have frame : ∀ b o, b ≠ p → H b = some o → upd H5 p (.ins C dx (tabF qa D)) b = some o := fun b o nb e => by
      rw [upd_ne nb]
      exact s5 _ _ (s2p _ _ nb (s12 _ _ e))
    refine hq _ ⟨dx, qa, D, upd_same, ?_, ps, ?_, paired_of ps tbl (by rw [← las, ← ly, List.length_map]) fun i q us eq eu => ?_⟩ frame
    · rw [upd_ne qp]; exact s5 _ _ oq4
    · rw [upd_ne Dp]; exact oD
    · obtain ⟨us', e2, e3, e4⟩ := pa i q eq
      rw [Nat.zero_add, eu] at e2
      cases e2
      refine ⟨?_, e4⟩
      rw [upd_ne (ne_of e3 (s5 _ _ hpu) (by intro z; cases z))]
      exact e3
end
end L2.TB
namespace L2.TB
open PySem PySem.Spec PyProof.Rows
/-! for x, y in zip(xs, ys), xs a list, ys a tuple of as many -/
section
/-- what the maker leaves, one cell after the other -/
abbrev mk1 (h : Heap) (l : Addr) : Heap := h.push { cls := .type "list_iterator", data := .fields #[.ref l, .int 0 0] }
abbrev mk2 (h : Heap) (l t : Addr) : Heap := (mk1 h l).push { cls := .type "tuple_iterator", data := .fields #[.ref t, .int 0 0] }
abbrev mk3 (h : Heap) (l t : Addr) : Heap := (mk2 h l t).push { cls := .type "tuple", data := .seq #[.ref h.objs.size, .ref (mk1 h l).objs.size] }
abbrev mk4 (h : Heap) (l t : Addr) : Heap := (mk3 h l t).push { cls := .type "tuple", data := .seq #[.none, .none] }
abbrev mk5 (h : Heap) (l t : Addr) : Heap := (mk4 h l t).push { cls := .type "zip", data := .fields #[.none, .bool false, .bool false, .ref (mk2 h l t).objs.size, .ref (mk3 h l t).objs.size] }
theorem made_zip (l t : Addr) (as bs : Array Value) : Meets (Builtin.«zip.__new__» ⟨[.type "zip", .ref l, .ref t], []⟩) fun _ done z =>
    z.heap.IsList l as ∧ z.heap.IsTuple t bs ∧ done (.ok (.ret (.ref (mk4 z.heap l t).objs.size))) { z with heap := mk5 z.heap l t } :=
  .of_wp fun _ _ _ _ z hz => by
    obtain ⟨h0, gs, ds, tk, os⟩ := z
    obtain ⟨isL, isT, fin⟩ := hz
    have sub := sub_zip
    have isL0 : Heap.IsList (Shared.heap ⟨h0, gs, ds, tk, os⟩) l as := isL
    have isT1 : Heap.IsTuple (Shared.heap ⟨mk1 h0 l, gs, ds, tk, os⟩) t bs := Heap.IsTuple.push isT _
    wp_walk using wpAny_pyIter_list isL0, wpAny_pyIter_tuple isT1
    exact ⟨_, rfl, fin⟩
theorem zip_mixed {P : Program} {w : World} {A : Around} {z : Shared} {E Q : Value → Shared → Prop} {l t : Addr} {as bs : Array Value} (isL : z.heap.IsList l as) (isT : z.heap.IsTuple t bs)
    (more : ∀ h', IsZip h' (z.heap.objs.size + 4) (z.heap.objs.size + 2) (z.heap.objs.size + 3) .none → IsTupOf2 h' (z.heap.objs.size + 2) (.ref z.heap.objs.size) (.ref (z.heap.objs.size + 1)) →
      IsTupOf2 h' (z.heap.objs.size + 3) .none .none → h'.IsListIter z.heap.objs.size l 0 → h'.IsTupleIter (z.heap.objs.size + 1) t 0 → (∀ c o, z.heap.get? c = some o → h'.get? c = some o) → Q (.ref (z.heap.objs.size + 4)) { z with heap := h' }) :
    wpAny (model P w) A (call (.type "zip") [.ref l, .ref t]) Q E z := by
  refine callType_new F.called_zip (by decide) (F.typeCall_zip_2 _ _) (F.newCall_zip_2 _ _) (fun o => F.args_object_init_3 o _ _) F.entry_zip_new (made_zip l t as bs) ⟨isL, isT, ?_⟩
  have s1 : (mk1 z.heap l).objs.size = z.heap.objs.size + 1 := Heap.size_push ..
  have s2 : (mk2 z.heap l t).objs.size = z.heap.objs.size + 2 := by rw [Heap.size_push, s1]
  have s3 : (mk3 z.heap l t).objs.size = z.heap.objs.size + 3 := by rw [Heap.size_push, s2]
  have s4 : (mk4 z.heap l t).objs.size = z.heap.objs.size + 4 := by rw [Heap.size_push, s3]
  have e5 : (mk5 z.heap l t).get? (mk4 z.heap l t).objs.size = some { cls := .type "zip", data := .fields #[.none, .bool false, .bool false, .ref (mk2 z.heap l t).objs.size, .ref (mk3 z.heap l t).objs.size] } := Heap.get?_push_size _ rfl
  have up5 : ∀ {c : Addr} {o : Obj}, (mk4 z.heap l t).get? c = some o → (mk5 z.heap l t).get? c = some o := fun e => Heap.get?_push_of_some _ e
  have up4 : ∀ {c : Addr} {o : Obj}, (mk3 z.heap l t).get? c = some o → (mk5 z.heap l t).get? c = some o := fun e => up5 (Heap.get?_push_of_some _ e)
  have up3 : ∀ {c : Addr} {o : Obj}, (mk2 z.heap l t).get? c = some o → (mk5 z.heap l t).get? c = some o := fun e => up4 (Heap.get?_push_of_some _ e)
  have up2 : ∀ {c : Addr} {o : Obj}, (mk1 z.heap l).get? c = some o → (mk5 z.heap l t).get? c = some o := fun e => up3 (Heap.get?_push_of_some _ e)
  have e4 : (mk5 z.heap l t).get? (mk3 z.heap l t).objs.size = some { cls := .type "tuple", data := .seq #[.none, .none] } := up5 (Heap.get?_push_size _ rfl)
  have e3 : (mk5 z.heap l t).get? (mk2 z.heap l t).objs.size = some { cls := .type "tuple", data := .seq #[.ref z.heap.objs.size, .ref (mk1 z.heap l).objs.size] } := up4 (Heap.get?_push_size _ rfl)
  have e2 : (mk5 z.heap l t).get? (mk1 z.heap l).objs.size = some { cls := .type "tuple_iterator", data := .fields #[.ref t, .int 0 0] } := up3 (Heap.get?_push_size _ rfl)
  have e1 : (mk5 z.heap l t).get? z.heap.objs.size = some { cls := .type "list_iterator", data := .fields #[.ref l, .int 0 0] } := up2 (Heap.get?_push_size _ rfl)
  show _ ∧ _
  rw [s2, s3, s4] at e5
  rw [s3] at e4
  rw [s1, s2] at e3
  rw [s1] at e2
  rw [s4]
  exact ⟨⟨_, e5, rfl⟩, more _ e5 e3 e4 ⟨_, e1, rfl, rfl⟩ ⟨_, e2, rfl, rfl⟩ fun c o e => up2 (Heap.get?_push_of_some _ e)⟩
end
/-- the items of the list at a and of the tuple at b, in new pairs -/
def ItzM (K : PySem.W.Frag) (a b : Addr) : It where
  go i H := ∃ (xs ys : List V) (x y : V), SqL K H a xs ∧ SqT K H b ys ∧ xs[i]? = some x ∧ ys[i]? = some y
  yld i H v H' := ∃ T x y, v = .ref T ∧ H T = none ∧ H' = upd H T (.tup [x, y]) ∧ (∀ xs, SqL K H a xs → xs[i]? = some x) ∧ ∀ ys, SqT K H b ys → ys[i]? = some y
  stop i H := ∃ xs ys : List V, SqL K H a xs ∧ SqT K H b ys ∧ xs.length = i ∧ ys.length = i
theorem five {p : Addr → Prop} {z u v i j b : Addr} (h : b ∈ [z, u, v, i, j]) (h1 : p z) (h2 : p u) (h3 : p v) (h4 : p i) (h5 : p j) : p b := by
  simp only [List.mem_cons, List.not_mem_nil, or_false] at h
  rcases h with rfl | rfl | rfl | rfl | rfl <;> assumption
theorem turn_zipM {P : Program} {w : World} {K : PySem.W.Frag} {elts : List Expr} {kk : Nat} {tpos : Pos} {a b z u v i1 i2 : Addr} (S : ZipSep2 z u v i1 i2 [i1, a] [i2, b]) :
    Turn P w K (.Tuple elts kk tpos) (ItzM K a b) [z, u, v, i1, i2] z (fun i h => IsZip h z u v .none ∧ IsTupOf2 h u (.ref i1) (.ref i2) ∧ (∃ x y, IsTupOf2 h v x y) ∧ h.IsListIter i1 a i ∧ h.IsTupleIter i2 b i) := by
  have list_ne : ∀ {h : Heap} {i : Nat} {as : Array Value}, h.IsListIter i1 a i → h.IsList a as → a ≠ i1 := by
    rintro h i as ⟨o, eo, co, _⟩ isL rfl
    obtain ⟨o', eo', co', _⟩ := isL
    rw [eo] at eo'
    cases eo'
    rw [co] at co'
    exact absurd co' (by decide)
  have tup_ne : ∀ {h : Heap} {i : Nat} {bs : Array Value}, h.IsTupleIter i2 b i → h.IsTuple b bs → b ≠ i2 := by
    rintro h i bs ⟨o, eo, co, _⟩ isT rfl
    obtain ⟨o', eo', co', _⟩ := isT
    rw [eo] at eo'
    cases eo'
    have co' : o.cls = Value.type "tuple" := co'
    rw [co] at co'
    exact absurd co' (by decide)
  refine ⟨List.mem_cons_self, fun i h st c hc => ?_, fun i h h' st same => ?_, ?_, ?_, fun A i s Q E st more => wpAny_pyIter_zip st.1 more⟩
  · obtain ⟨gz, gu, ⟨x, y, gv⟩, ⟨o1, e1, _, d1⟩, ⟨o2, e2, _, d2⟩⟩ := st
    exact five (p := fun c => ∃ o, h.get? c = some o ∧ ∀ v, o.data ≠ .cell v) hc ⟨_, gz, fun _ e => nomatch e⟩ ⟨_, gu, fun _ e => nomatch e⟩ ⟨_, gv, fun _ e => nomatch e⟩ ⟨o1, e1, fun _ e => by rw [d1] at e; exact nomatch e⟩ ⟨o2, e2, fun _ e => by rw [d2] at e; exact nomatch e⟩
  · obtain ⟨gz, gu, ⟨x, y, gv⟩, h1, h2⟩ := st
    exact ⟨same z (by simp) _ gz, same u (by simp) _ gu, ⟨x, y, same v (by simp) _ gv⟩, h1.at fun o e => same i1 (by simp) o e, h2.at fun o e => same i2 (by simp) o e⟩
  · rintro X rfl rfl rfl calm i pins s σ H E I room ⟨gz, gu, ⟨x0, y0, gv⟩, g1, g2⟩ ⟨xs, ys, x, y, isX, isY, nx, ny⟩
    obtain ⟨us, rel1, p1, _⟩ := I.list isX
    obtain ⟨vs, rel2, p2, _⟩ := I.tuple isY
    obtain ⟨c, nc, rc⟩ := rel1.get nx
    obtain ⟨d, ny', rd⟩ := rel2.get ny
    have isL : s.heap.IsList a us.toArray := p1.isList
    have isT : s.heap.IsTuple b vs.toArray := p2
    have D1 := Draws.list (prog := X.prog) (w := X.w) (A := X.A.in1) (I.ok.hd calm) i1 a (list_ne g1 isL) us.toArray
    have D2 := Draws.tuple (prog := X.prog) (w := X.w) (A := X.A.in1) (I.ok.hd calm) i2 b (tup_ne g2 isT) vs.toArray
    have in1 : i < us.toArray.size := by
      have := (List.getElem?_eq_some_iff.mp nc).1
      simpa using this
    have in2 : i < vs.toArray.size := by
      have := (List.getElem?_eq_some_iff.mp ny').1
      simpa using this
    have lz : z < s.heap.objs.size := Heap.lt_size gz
    refine wpAny_pyNext_zipD2_item S D1 D2 gz gu gv ⟨g1, isL⟩ ⟨g2, isT⟩ in1 in2 fun c' d' h1 tk ec ed gz' gv' st1 st2 newT _ kept => ?_
    obtain rfl : c' = c := by
      have ec : us.toArray[i]? = some c' := ec
      rw [List.getElem?_toArray, nc] at ec
      exact (Option.some.inj ec).symm
    obtain rfl : d' = d := by
      have ed : vs.toArray[i]? = some d' := ed
      rw [List.getElem?_toArray, ny'] at ed
      exact (Option.some.inj ed).symm
    refine ⟨_, rfl, wpAny_letOwnedTupleGo_zip (s := { s with heap := h1, toks := tk }) gz' fun h2 back same2 => ?_⟩
    have far : ∀ q o, q ∉ [z, u, v, i1, i2] → s.heap.get? q = some o → h2.get? q = some o := fun q o away e =>
      (same2.2 q fun k => away (by simp [k])).trans (kept q o (fun k => away (by simp [k])) (fun k => away (by simp [k])) (fun k => away (by simp [k])) (fun k => away (by simp [k])) e)
    have pair : ObjOk X.prog X.w (upd H s.heap.objs.size (.tup [x, y])) h2 s.heap.objs.size (.tup [x, y]) :=
      ⟨show 2 ≤ sizeLine by decide, [c', d'], .cons rc (.cons rd .nil), _, (same2.2 _ (Nat.ne_of_gt lz)).trans newT, rfl, _, rfl⟩
    refine ⟨.ref s.heap.objs.size, _, I.turnedNew (t' := tk) (ch := [z, u, v, i1, i2]) far room (Nat.le_refl _) pair, rfl, ⟨_, x, y, rfl, I.hok.fresh (Nat.le_refl _), rfl, fun l is' => ?_, fun l is' => ?_⟩, ⟨back, ?_, ⟨c', d', ?_⟩, ?_, ?_⟩, fun q hq => ?_⟩
    · rw [I.list_inj is' isX]; exact nx
    · rw [I.tuple_inj is' isY]; exact ny
    · exact (same2.2 _ S.TIz).trans (kept _ _ S.TIz S.TITO S.TIi1 S.TIi2 gu)
    · exact (same2.2 _ S.TOz).trans gv'
    · exact st1.1.at fun o e => (same2.2 _ fun k => S.zi1 k.symm).trans e
    · exact st2.1.at fun o e => (same2.2 _ fun k => S.zi2 k.symm).trans e
    · have lq : q < s.heap.objs.size := by
        obtain ⟨_, e1, _⟩ := g1
        obtain ⟨_, e2, _⟩ := g2
        exact five (p := fun q => q < s.heap.objs.size) hq lz (Heap.lt_size gu) (Heap.lt_size gv) (Heap.lt_size e1) (Heap.lt_size e2)
      rw [upd_ne (Nat.ne_of_lt lq)]
      exact (room q hq).1
  · rintro X rfl rfl rfl calm i pins s σ H E I room ⟨gz, gu, ⟨x0, y0, gv⟩, g1, g2⟩ ⟨xs, ys, isX, isY, l1, l2⟩
    obtain ⟨us, rel1, p1, _⟩ := I.list isX
    obtain ⟨vs, rel2, p2, _⟩ := I.tuple isY
    have isL : s.heap.IsList a us.toArray := p1.isList
    have isT : s.heap.IsTuple b vs.toArray := p2
    have D1 := Draws.list (prog := X.prog) (w := X.w) (A := X.A.in1) (I.ok.hd calm) i1 a (list_ne g1 isL) us.toArray
    have D2 := Draws.tuple (prog := X.prog) (w := X.w) (A := X.A.in1) (I.ok.hd calm) i2 b (tup_ne g2 isT) vs.toArray
    have n1 : i = us.toArray.size := by rw [List.size_toArray, ← rel1.length, l1]
    have n2 : i = vs.toArray.size := by rw [List.size_toArray, ← rel2.length, l2]
    refine wpAny_pyNext_zipD2_end S D1 D2 gz gu gv ⟨g1, isL⟩ ⟨g2, isT⟩ (by omega) (by omega) (.inl n1) fun h1 tk kept => ⟨rfl, ?_⟩
    exact I.turnedL (t' := tk) (ch := [z, u, v, i1, i2]) (fun c o away e => kept c o (fun k => away (by simp [k])) (fun k => away (by simp [k])) (fun k => away (by simp [k])) (fun k => away (by simp [k])) e) room
theorem sep_of (n a b : Nat) (la : a < n) (lb : b < n) : ZipSep2 (n + 4) (n + 2) (n + 3) n (n + 1) [n, a] [n + 1, b] := by
  have h1 : ¬ (n + 4 = a) := by omega
  have h2 : ¬ (n + 4 = b) := by omega
  have h3 : ¬ (n + 3 = a) := by omega
  have h4 : ¬ (n + 3 = b) := by omega
  have h5 : ¬ (n = b) := by omega
  have h6 : ¬ (n + 1 = a) := by omega
  constructor <;> simp [h1, h2, h3, h4, h5, h6]
/-- the reading of zip over a list and a tuple -/
def iZipM (K : PySem.W.Frag) (ta : TA) : TI := fun σ H R => ta σ H fun vs H1 => ∃ a b xs ys, vs = [.ref a, .ref b] ∧ SqL K H1 a xs ∧ SqT K H1 b ys ∧ R (ItzM K a b) H1
theorem pi_zipM {X : Cx} {e e2 : Expr} {ta : TA} {p pos tpos : Pos} {elts : List Expr} {kk : Nat} (hg : Gl X "zip") (hm : X.mg "zip" = none) (ha : PA X [e, e2] ta)
    (hs : starEach [e, e2] X.env = (false, eval e X.env) :: starEach [e2] X.env := by rfl) (hpl : (backTo pos (starEach [e2] X.env)).any (·.1) = false := by rfl) :
    PI X (.Tuple elts kk tpos) (.Call (.Name "zip" p) [e, e2] [] pos) (iZipM X.K ta) := by
  refine ⟨fun pins z σ H R I reading => Call_ (ld_blt I hg hm PyProof.Rows.boot_zip (PyProof.Rows.callWith_type1 (thn (ha.run pos pins z σ H _ I reading) fun us z1 got => ?_) hs hpl))⟩
  obtain ⟨vs, H1, I1, rel, a, b, xs, ys, rfl, isX, isY, q⟩ := got
  match us, rel with
  | [c, d], .cons rc (.cons rd .nil) =>
    obtain rfl : c = Value.ref a := rc
    obtain rfl : d = Value.ref b := rd
    obtain ⟨us, rel1, p1, _⟩ := I1.list isX
    obtain ⟨vs, rel2, p2, _⟩ := I1.tuple isY
    have isL : z1.heap.IsList a us.toArray := p1.isList
    have isT : z1.heap.IsTuple b vs.toArray := p2
    have la : a < z1.heap.objs.size := p1.lt
    have lb : b < z1.heap.objs.size := by
      obtain ⟨o, e, _⟩ := isT
      exact Heap.lt_size e
    refine zip_mixed isL isT fun h' gz gu gv g1 g2 kept => wpAny_pyIter_zip gz ?_
    have fresh : ∀ c ∈ [z1.heap.objs.size + 4, z1.heap.objs.size + 2, z1.heap.objs.size + 3, z1.heap.objs.size, z1.heap.objs.size + 1], FpOk X pins H1 c := fun c hc =>
      have far : z1.heap.objs.size ≤ c := five (p := fun c => z1.heap.objs.size ≤ c) hc (by omega) (by omega) (by omega) (by omega) (by omega)
      I1.fpOk far (I1.hok.fresh far)
    refine ⟨_, _, _, _, H1, rfl, I1.kept (t' := z1.toks) kept, turn_zipM (a := a) (b := b) (z := z1.heap.objs.size + 4) (u := z1.heap.objs.size + 2) (v := z1.heap.objs.size + 3) (i1 := z1.heap.objs.size) (i2 := z1.heap.objs.size + 1) ?_, ⟨gz, gu, ⟨_, _, gv⟩, g1, g2⟩, fresh, q⟩
    exact sep_of _ a b la lb
end L2.TB
namespace L2.TB
open PySem PySem.Spec PyProof.Rows
/-- a table's facts besides -/
structure Wide (ns : List Str) (tbl : List (List Int)) : Prop where
  nd : ns.Nodup
  ne : ns ≠ []
  ok : ∀ x ∈ ns, NmOk x
  l1 : ns.length ≤ 10
  l2 : tbl.length ≤ 100
  t : tbl ≠ []
def gvn (ns known : List Str) (us : List Int) : List (Key × V) := known.map fun x => ((Sum.inr x : Key), V.int (av ns us x))
theorem gvn_keys (ns known : List Str) (us : List Int) : (gvn ns known us).map (·.1) = known.map Sum.inr := by unfold gvn; rw [List.map_map]; rfl
theorem gvn_nd {ns known : List Str} {us : List Int} (nd : known.Nodup) : ((gvn ns known us).map (·.1)).Nodup := by
  rw [gvn_keys]
  exact List.Pairwise.map Sum.inr (fun a b h e => h (Sum.inr.inj e)) nd
theorem gvn_val {ns known : List Str} {us : List Int} {x : Str} (nd : known.Nodup) (h : x ∈ known) : valV (gvn ns known us) (Sum.inr x) = some (.int (av ns us x)) :=
  val_at _ _ _ (gvn_nd nd) (List.mem_map_of_mem (f := fun x => ((Sum.inr x : Key), V.int (av ns us x))) h)
theorem gvn_at {ns known : List Str} {us : List Int} {i : Nat} {k : Key} {v : V} (nd : known.Nodup) (h : (gvn ns known us)[i]? = some (k, v)) : ∃ x, k = Sum.inr x ∧ known[i]? = some x ∧ valV (gvn ns known us) (Sum.inr x) = some (.int (av ns us x)) := by
  have h2 := h
  unfold gvn at h2
  rw [List.getElem?_map] at h2
  obtain ⟨x, ex, e⟩ := Option.map_eq_some_iff.mp h2
  cases e
  exact ⟨x, rfl, ex, gvn_val nd (List.mem_of_getElem? ex)⟩
theorem gvn_len (ns known : List Str) (us : List Int) : (gvn ns known us).length = known.length := by unfold gvn; rw [List.length_map]
theorem nodup_short {known ns : List Str} (nd : known.Nodup) (sub : ∀ x ∈ known, x ∈ ns) : known.length ≤ ns.length := by
  have h := List.Nodup.length_le_of_subset nd (fun x hx => sub x hx)
  exact h
theorem dk_len {ns : List Str} {us : List Int} (h : us.length = ns.length) : (dk ns us).length = ns.length := by
  unfold dk
  rw [List.length_map, List.length_zip]; omega
/-! the table's rows as dicts -/
def spDictOf (C : Addr) : Sp := fun vs H Q _ => ∃ (a p : Addr) (ns : List Str) (tbl : List (List Int)) (us : List Int), vs = [.ref a, .ref p] ∧ TabAt H C a ns tbl ∧ ns.Nodup ∧ ns.length < 1000 ∧ H p = some (.tup (us.map V.int)) ∧ us.length = ns.length ∧ ∀ H' d, H d = none → H' d = some (.dK (dk ns us)) → Same H H' → Q (.ref d) H'
abbrev NDo : List Str := ["self", "row", "name", "answer"]
theorem scDictOf : FnScope NDo ["self", "row"] (defScope sDictOf) := ⟨rfl, rfl, rfl, by decide +kernel, rfl, by decide +kernel, by decide +kernel⟩
section
variable {P : Program} {w : World} {K : PySem.W.Frag} {mg : Str → Option Value} {base : Heap} {f C fD : Addr} {fd fdD : FuncData}
theorem ok_dictOf (F : Fun K "_dict_of" "Table._dict_of" sDictOf f fd) (T : TabC K C) (gZ : mg "zip" = none) : FnOk P w K mg base CX0 1 f fd ["self", "row"] (spDictOf C) := by
  refine F.ok scDictOf (fun vs H Q E h => by obtain ⟨a, p, ns, tbl, us, e, _⟩ := h; rw [e]; rfl) fun cdv A outer s H vs Q E hr hsp => ?_
  obtain ⟨a, p, ns, tbl, us, rfl, tab, nnd, nsh, hp, lu, hq⟩ := hsp
  obtain ⟨dx, qa, ra, ha, hqa, hra⟩ := tab.ex
  have nd := scDictOf.nd
  refine ⟨_, pss_one (ps_ret (pe_dc (own := [("name", 2), ("answer", 3)]) (tt := tYes) (g := gTup K 2 (gCons (gName 2) (gCons (gName 3) gNil))) (tk := tVar 2) (tv := tVar 3) rfl nd (pi_zipM rfl gZ (pa_cons (pe_fld (pv 0) rfl) (pa_cons (pv 1) pa_nil))) (blkOk_by (N := NDo) (sc := defScope sDictOf) (by decide +kernel))
    (fun _ _ _ _ _ => pg_tup rfl (pgs_cons (pg_name (i := 2) nd rfl (Or.inl rfl)) (pgs_cons (pg_name (i := 3) nd rfl (Or.inl rfl)) pgs_nil))) (fun _ _ _ _ _ => pts_nil) (fun _ _ _ _ _ => pv 2) (fun _ _ _ _ _ => pv 3))), ?_⟩
  have ldk : (dk ns us).length = ns.length := by
    unfold dk
    rw [List.length_map, List.length_zip]; omega
  refine ⟨_, rfl, a, C, dx, _, _, rfl, ha, T.cl, T.nQ, rfl, _, rfl, qa, p, ns.map V.str, us.map V.int, rfl, SqL.of hqa, SqT.of hp, ?_⟩
  refine dc_gen (Q := fun D H' => Q (.ref D) H') (dk ns us) (by omega) (dk_nd lu.symm nnd) (fun i H' k lt => ?_) (fun H' k => ⟨_, _, SqL.of (k _ _ hqa), SqT.of (k _ _ hp), by rw [List.length_map, ldk], by rw [List.length_map, ldk, lu]⟩) ?_ fun H' D nD oD k => hq H' D nD oD k
  · rw [ldk] at lt
    exact ⟨_, _, _, _, SqL.of (k _ _ hqa), SqT.of (k _ _ hp), List.getElem?_eq_getElem (by rw [List.length_map]; exact lt), List.getElem?_eq_getElem (by rw [List.length_map]; omega)⟩
  · rintro i x k v H2 H3 Cn Nn ekv s2 ⟨t, x1, x2, rfl, nt, rfl, g1, g2⟩ yes
    have e1 := g1 _ (SqL.of (s2 _ _ hqa))
    have e2 := g2 _ (SqT.of (s2 _ _ hp))
    obtain ⟨y, n, rfl, rfl, ey, _⟩ := dk_at ekv nnd lu.symm
    rw [List.getElem?_map, ey] at e1
    obtain rfl : V.str y = x1 := Option.some.inj e1
    have ex : x2 = V.int n := by
      unfold dk at ekv
      rw [List.getElem?_map] at ekv
      obtain ⟨z, ez, e⟩ := Option.map_eq_some_iff.mp ekv
      have ez : (ns.zip us)[i]? = some z := ez
      rw [List.getElem?_zip_eq_some] at ez
      have en : z.2 = n := V.int.inj (congrArg Prod.snd e)
      rw [List.getElem?_map, ez.2, Option.map_some, en] at e2
      exact (Option.some.inj e2).symm
    subst ex
    have st := same_new (o := .tup [V.str y, V.int n]) nt
    refine ⟨t, _, rfl, SqT.of upd_same, rfl, _, _, rfl, _, _, rfl, rfl, rfl, ?_⟩
    exact ⟨_, rfl, _, rfl, yes _ st⟩
end
end L2.TB
namespace L2.TB
open PySem PySem.Spec PyProof.Rows
/-! rows as data; worlds; own equality of two tables -/
def tupD (us : List Int) : PyData := .tuple (us.map PyData.int)
theorem intsD_shape : ∀ ks : List Int, PyData.canLayAll0 (ks.map PyData.int) = true ∧ PyData.depthAll (ks.map PyData.int) = 0
  | [] => ⟨by simp [PyData.canLayAll0], by simp [PyData.depthAll]⟩
  | b :: bs => by
    obtain ⟨h1, h2⟩ := intsD_shape bs
    exact ⟨by simp [PyData.canLayAll0, PyData.canLay0, h1], by simp [PyData.depthAll, PyData.depth, h2]⟩
theorem tupD_shape (us : List Int) : PyData.canLay0 (tupD us) = true ∧ PyData.depth (tupD us) = 1 := by
  obtain ⟨h1, h2⟩ := intsD_shape us
  unfold tupD
  exact ⟨by simp [PyData.canLay0, h1], by simp [PyData.depth, h2]⟩
theorem tupD_shaped (us : List Int) : SeqAt.shaped (tupD us) = true := by
  obtain ⟨h1, h2⟩ := tupD_shape us
  unfold SeqAt.shaped
  simp [h1, h2]
theorem rowsD_shape : ∀ tbl : List (List Int), PyData.canLayAll0 (tbl.map tupD) = true ∧ PyData.depthAll (tbl.map tupD) ≤ 1
  | [] => ⟨by simp [PyData.canLayAll0], by simp [PyData.depthAll]⟩
  | u :: us => by
    obtain ⟨h1, h2⟩ := rowsD_shape us
    obtain ⟨g1, g2⟩ := tupD_shape u
    refine ⟨by simp [PyData.canLayAll0, g1, h1], ?_⟩
    rw [List.map_cons, PyData.depthAll, g2]
    omega
theorem rowsD_shaped (tbl : List (List Int)) : SeqAt.shaped (.list (tbl.map tupD)) = true := by
  obtain ⟨h1, h2⟩ := rowsD_shape tbl
  unfold SeqAt.shaped
  have d : PyData.depth (.list (tbl.map tupD)) ≤ 2 := by
    rw [PyData.depth]
    omega
  simp [PyData.canLay0, h1]
  omega
theorem intsD_eqvAll : ∀ a b : List Int, PyData.eqvAll (a.map PyData.int) (b.map PyData.int) = decide (a = b)
  | [], [] => by simp [PyData.eqvAll]
  | [], _ :: _ => by simp [PyData.eqvAll]
  | _ :: _, [] => by simp [PyData.eqvAll]
  | x :: a, y :: b => by
    rw [List.map_cons, List.map_cons, PyData.eqvAll, intsD_eqvAll a b, PyData.eqv]
    by_cases h1 : x = y
    · by_cases h2 : a = b <;> simp [h1, h2]
    · simp [h1]
theorem tupD_eqv (a b : List Int) : PyData.eqv (tupD a) (tupD b) = decide (a = b) := by unfold tupD; rw [PyData.eqv, intsD_eqvAll]
theorem rowsD_eqvAll : ∀ a b : List (List Int), PyData.eqvAll (a.map tupD) (b.map tupD) = decide (a = b)
  | [], [] => by simp [PyData.eqvAll]
  | [], _ :: _ => by simp [PyData.eqvAll]
  | _ :: _, [] => by simp [PyData.eqvAll]
  | x :: a, y :: b => by
    rw [List.map_cons, List.map_cons, PyData.eqvAll, rowsD_eqvAll a b, tupD_eqv]
    by_cases h1 : x = y
    · by_cases h2 : a = b <;> simp [h1, h2]
    · simp [h1]
theorem rowsD_eqv (a b : List (List Int)) : PyData.eqv (.list (a.map tupD)) (.list (b.map tupD)) = decide (a = b) := by rw [PyData.eqv, rowsD_eqvAll]
theorem dpD_ints {K : PySem.W.Frag} {H : Hp} : ∀ ks : List Int, DpAll K H (ks.map V.int) (ks.map PyData.int)
  | [] => .nil
  | k :: ks => .cons (.int k) (dpD_ints ks)
theorem dpD_tup {K : PySem.W.Frag} {H : Hp} {p : Addr} {us : List Int} (h : H p = some (.tup (us.map V.int))) : Dp K H (.ref p) (tupD us) := .tup (SqT.of h) (dpD_ints us)
theorem dpD_tups {K : PySem.W.Frag} {H : Hp} {n : Nat} : ∀ {ps : List Addr} {tbl : List (List Int)}, Paired (fun p us => H p = some (.tup (us.map V.int)) ∧ us.length = n) ps tbl → DpAll K H (ps.map V.ref) (tbl.map tupD)
  | _, _, .nil => .nil
  | _, _, .cons h t => .cons (dpD_tup h.1) (dpD_tups t)
theorem dpD_rows {K : PySem.W.Frag} {H : Hp} {ra : Addr} {n : Nat} {tbl : List (List Int)} (h : TRows H ra n tbl) : Dp K H (.ref ra) (.list (tbl.map tupD)) := by
  obtain ⟨ps, o, pr⟩ := h
  exact .lst (SqL.of o) (dpD_tups pr)
theorem cut_from (xs : List V) (k : Nat) (h : k ≤ xs.length) : cutV xs (some (k : Int)) none = xs.drop k := by
  have e1 : HT.sIx xs.length 0 (some (k : Int)) = k := by
    unfold HT.sIx
    simp only []
    rw [if_neg (show ¬ (k : Int) < 0 by omega)]
    omega
  have e2 : HT.sIx xs.length xs.length none = xs.length := rfl
  unfold cutV
  rw [e1, e2]
  exact List.take_of_length_le (by rw [List.length_drop]; exact Nat.le_refl _)
theorem paired_drop {α β : Type} {R : α → β → Prop} : ∀ (k : Nat) {xs : List α} {ys : List β}, Paired R xs ys → Paired R (xs.drop k) (ys.drop k)
  | 0, _, _, h => h
  | k + 1, _, _, .nil => .nil
  | k + 1, _, _, .cons _ t => paired_drop k t
theorem gvn_rowD {ns known : List Str} {us : List Int} (pm : known.Perm ns) (nd : ns.Nodup) (l : us.length = ns.length) : RowD ns (gvn ns known us) us :=
  ⟨by rw [gvn_keys]; exact pm.map _, fun x hx => gvn_val (pm.nodup_iff.mpr nd) (pm.mem_iff.mpr hx), l⟩
/-- pairs of names and answers -/
theorem given_lc {J : It} {K : PySem.W.Frag} {g : TG} {tt : TT} {te : TE} {vs : List Nat} {σ : St} {H1 : Hp} {Q : Addr → Hp → Prop} (ns known : List Str) (us : List Int) (short : known.length < 1000) (go : ∀ i H, Same H1 H → i < known.length → J.go i H) (stop : ∀ H, Same H1 H → J.stop known.length H)
    (turn : ∀ (i : Nat) (v : V) (x : Str) (H H' : Hp) (C : V → Hp → Prop) (N : Hp → Prop), known[i]? = some x → Same H1 H → J.yld i H v H' → (∀ t H4, H4 t = some (.tup [V.str x, V.int (av ns us x)]) → Same H H4 → C (.ref t) H4) → g v (wipe σ vs) H' fun σ2 H2 => wipe σ2 vs = wipe σ vs ∧ tt σ2 H2 fun b H3 => if b = true then te σ2 H3 C else N H3)
    (fin : ∀ H D ps, H1 D = none → H D = some (.lst ((ps : List Addr).map V.ref)) → Paired (fun p (kv : Key × V) => SqT K H p [kV kv.1, kv.2]) ps (gvn ns known us) → Same H1 H → Q D H) : LcW J g tt te vs σ H1 Q := by
  refine lc_made known.length (by omega) go stop (fun i y H' => ∃ t x, y = V.ref t ∧ known[i]? = some x ∧ H' t = some (.tup [V.str x, V.int (av ns us x)])) ?_ ?_ ?_
  · rintro i y H2 H3 D l ⟨t, x, rfl, ex, ot⟩ oD keep
    exact ⟨t, x, rfl, ex, keep _ _ (ne_of ot oD (by intro z; cases z)) ot⟩
  · intro i v H2 H3 C N lt s2 yl yes
    have ex : known[i]? = some known[i] := List.getElem?_eq_getElem lt
    exact turn i v known[i] H2 H3 C N ex s2 yl fun t H4 ot s4 => yes _ _ ⟨t, _, rfl, ex, ot⟩ s4
  · intro H2 D ys nD oD ly ry s2
    obtain ⟨ps, rfl, pa⟩ := addrs_of (H := H2) (P := fun i t => ∃ x, known[i]? = some x ∧ H2 t = some (.tup [V.str x, V.int (av ns us x)])) ys 0 fun j y e => by
      obtain ⟨t, x, e1, e2, e3⟩ := ry j y e
      exact ⟨t, e1, x, by simpa using e2, e3⟩
    refine fin H2 D ps nD oD (paired_of ps _ (by rw [gvn_len, ← ly, List.length_map]) fun i t kv et ekv => ?_) s2
    obtain ⟨x, e2, e3⟩ := pa i t et
    rw [Nat.zero_add] at e2
    unfold gvn at ekv
    rw [List.getElem?_map, e2] at ekv
    obtain rfl : ((Sum.inr x : Key), V.int (av ns us x)) = kv := Option.some.inj ekv
    exact SqT.of e3
theorem gvn_merge {ns known : List Str} {us : List Int} (nd : known.Nodup) : mergeK [] (gvn ns known us) = gvn ns known us := merge_nd (gvn_nd nd)
/-- rows as dicts, apart from the spring -/
def GRowsA (H : Hp) (l ls : Addr) (ns : List Str) : List Addr → List (List Int) → Prop := Paired fun a us => (∃ kvs, H a = some (.dK kvs) ∧ RowD ns kvs us) ∧ a ≠ l ∧ a ≠ ls
theorem GRowsA.but {H H' : Hp} {l ls : Addr} {ns : List Str} {as : List Addr} {tbl : List (List Int)} (r : GRowsA H l ls ns as tbl) (b : But l ls H H') : GRowsA H' l ls ns as tbl :=
  Paired.mapP r fun a vs h => let ⟨⟨kvs, e, d⟩, h2⟩ := h; ⟨⟨kvs, b _ _ h2.1 h2.2 e, d⟩, h2⟩
theorem GRowsA.rows {H : Hp} {l ls : Addr} {ns : List Str} {as : List Addr} {tbl : List (List Int)} (r : GRowsA H l ls ns as tbl) : GRows H ns as tbl := Paired.mapP r fun a vs h => h.1
end L2.TB
/-! x in rows: rows are dicts of names and whole numbers -/
namespace L2.TB
open PySem PySem.Spec PyProof.Rows
section
open SeqAt MeetsSeq MeetsSeq2 MeetsSeq3 SeqRoads2
open AutoSeq1 (wpAny_loadPart')
variable {prog : Program} {w : World} {A : Around} {R : Result → Shared → Prop}
theorem has_turns (l : Addr) (xs : Array Value) (n : Nat) (x : Value) {s : Shared} (gl : s.heap.get? l = some { cls := .type "list", data := .seq xs n }) (e : Nat → Bool)
    (eqs : ∀ j (h1 : j < xs.size), EqIn prog w A.in1 s xs[j] x (e j)) (fin : R (.ok (.ret (.bool ((List.range xs.size).any e)))) s) (k : Nat) :
    ∀ i : Nat, xs.size - i = k → i ≤ xs.size → (∀ j, j < i → e j = false) → wpAny (model prog w) A.in1 (Builtin.«list.__contains__.loop» ⟨[.ref l, x, rawInt i], []⟩) (GQ.FinOf prog w A R) (fun e s' => R (.error e) s') s := by
  obtain ⟨h0, gs, ds, tk, os⟩ := s
  induction k with
  | zero =>
    intro i out le none_
    have all_ : (List.range xs.size).any e = false := by
      rw [List.any_eq_false]
      intro j hj
      have := List.mem_range.mp hj
      rw [none_ j (by omega)]
      decide
    rw [all_] at fin
    wp_walk using wpAny_loadPart' gl
    have gone : xs[((i : Nat) : Int).toNat]? = none := by simp; omega
    rw [gone]
    wp_walk
    exact fin
  | succ k more =>
    intro i left le none_
    have t1 : i < xs.size := by omega
    wp_walk using wpAny_loadPart' gl
    have here : xs[((i : Nat) : Int).toNat]? = some xs[i] := by simp [t1]
    have up : ((i : Int) + 1) = ((i + 1 : Nat) : Int) := by omega
    rw [here]
    refine wpAny_bind (eqs i t1 _ _ ?_)
    cases ei : e i with
    | true =>
      have some_ : (List.range xs.size).any e = true := List.any_eq_true.mpr ⟨i, List.mem_range.mpr t1, ei⟩
      rw [some_] at fin
      wp_walk
      exact fin
    | false =>
      wp_walk
      rw [up]
      have next := more (i + 1) (by omega) (by omega) (fun j hj => by
        by_cases z : j = i
        · rw [z]; exact ei
        · exact none_ j (by omega))
      exact ⟨plainId_quiet plain_contains_loop _, codeAny_builtin entry_contains_loop (by rw [Around.under_plainId plain_contains_loop _]; exact next)⟩
theorem has_list (l : Addr) (xs : Array Value) (n : Nat) (x : Value) {s : Shared} (gl : s.heap.get? l = some { cls := .type "list", data := .seq xs n }) (e : Nat → Bool)
    (eqs : ∀ j (h1 : j < xs.size), EqIn prog w A.in1 s xs[j] x (e j)) (fin : R (.ok (.ret (.bool ((List.range xs.size).any e)))) s) :
    wpAny (model prog w) A.in1 (Builtin.«list.__contains__» ⟨[.ref l, x], []⟩) (GQ.FinOf prog w A R) (fun e s' => R (.error e) s') s := by
  have first := has_turns l xs n x gl e eqs fin _ 0 rfl (Nat.zero_le _) (fun j h => absurd h (Nat.not_lt_zero _))
  obtain ⟨h0, gs, ds, tk, os⟩ := s
  wp_walk using wpAny_loadPart' gl
  exact ⟨plainId_quiet plain_contains_loop _, codeAny_builtin entry_contains_loop (by rw [Around.under_plainId plain_contains_loop _]; exact first)⟩
/-- a dict is no None -/
theorem none_dict {s : Shared} {a : Addr} {E : Value → Shared → Prop} {Q : Value → Shared → Prop} (ta : s.TypeIs (.ref a) "dict") (hr : A.units < cLine) (h : Q (.bool false) s) : wpAny (model prog w) A (richCompare .Eq (.ref a) .none) Q E s := by
  refine rc_eq_decline_or (k := false) ta (show s.TypeIs .none "NoneType" from rfl) (by decide) F.sub_NoneType_dict F.slot_dict_eq F.slot_NoneType_eq_refl (fun Q' hq => ?_)
    (fun Q' hq => call_gives F.slot_NoneType_eq_refl rfl F.entry_NoneType_eq (F.args_NoneType_eq_2 _ _) (NoneType___eq___none_ref_0 a) hq)
    (fun Q' hq => wpAny_of_eq (rfl : isSame (.ref a) .none = pure false) hq) (.inr hr) h
  refine wpAny_call_entry PySem.F.slot_dict_eq ta PySem.F.entry_dict_eq ?_ (PySem.F.args_dict_eq_2 _ _)
  show wpAny _ _ (Builtin.Dict.dictSlotArgs "__eq__" ⟨[.ref a, .none], []⟩ >>= fun _ => _) _ _ s
  refine wpAny_bind ?_
  unfold Builtin.Dict.dictSlotArgs
  refine wpAny_bind (wpAny_notOrdered_dict ta ?_)
  show wpAny _ _ (pure (Value.ref a, Value.none)) _ _ s
  refine wpAny_pure (wpAny_bind (wpAny_isInstance (T := "NoneType") rfl F.sub_NoneType_dict ?_))
  simp only [Bool.not_true, Bool.not_false, Bool.false_eq_true, if_false, if_true]
  exact wpAny_bind (wpAny_rule (wpAny_pure ⟨_, rfl, hq⟩))
/-- dicts of other sizes are unlike -/
theorem size_dict {s : Shared} {a b : Addr} {oa ob : Obj} {es fs : Array DictEntry} {ea eb : Nat} {E : Value → Shared → Prop} {Q : Value → Shared → Prop} (sa : (a == sysModules) = false) (sb : (b == sysModules) = false) (ta : s.TypeIs (.ref a) "dict") (tb : s.TypeIs (.ref b) "dict")
    (ga : s.heap.get? a = some oa) (gb : s.heap.get? b = some ob) (da : oa.data = .dict es ea) (db : ob.data = .dict fs eb) (ne : es.size ≠ fs.size) (hr : A.units < cLine) (h : Q (.bool false) s) : wpAny (model prog w) A (richCompare .Eq (.ref a) (.ref b)) Q E s := by
  refine wpAny_richCompare_same_room (op := .Eq) ta tb PySem.F.slot_dict_eq (wpAny_call_entry PySem.F.slot_dict_eq ta PySem.F.entry_dict_eq ?_ (PySem.F.args_dict_eq_2 _ _)) hr
  show wpAny _ _ (Builtin.Dict.dictSlotArgs "__eq__" ⟨[.ref a, .ref b], []⟩ >>= fun _ => _) _ _ s
  refine wpAny_bind ?_
  unfold Builtin.Dict.dictSlotArgs
  refine wpAny_bind (wpAny_notOrdered_dict ta ?_)
  show wpAny _ _ (pure (Value.ref a, Value.ref b)) _ _ s
  refine wpAny_pure (wpAny_bind (wpAny_isInstance (T := "dict") tb PySem.F.sub_dict_dict ?_))
  simp only [Bool.not_true, Bool.false_eq_true, if_false]
  refine wpAny_bind (wpAny_pure (wpAny_bind (wpAny_pure (wpAny_bind ?_))))
  unfold Builtin.Dict.samePairs Builtin.Dict.showsAll
  rw [if_neg (by rw [sa]; exact Bool.false_ne_true), if_neg (by rw [sb]; exact Bool.false_ne_true)]
  refine wpAny_bind (wpAny_pure (wpAny_bind (wpAny_pure (wpAny_bind (wpAny_dictEntries ga da ?_)))))
  dsimp only
  refine wpAny_bind (wpAny_dictEntries gb db ?_)
  rw [if_pos (by simpa using ne)]
  exact wpAny_bind (wpAny_rule (wpAny_pure (wpAny_pure ⟨_, rfl, (fun x => nomatch x), h⟩)))
end
theorem hits_ints {A : Around} {s : Shared} {kvs : List (Key × V)} {vb : List (Key × Value)} (rb : KV kvs vb) {ks : List (Key × V)} {va : List (Key × Value)} (ra : KV ks va) :
    (∀ p ∈ ks, ∃ m n, p.2 = V.int m ∧ valV kvs p.1 = some (.int n)) → PySem.W.KeqHits A s vb va (ks.all fun p => decide (valV kvs p.1 = some p.2)) := by
  unfold KV at ra
  induction ra with
  | nil => intro _; exact .nil
  | @cons p q ps qs h t ih =>
    intro hp
    obtain ⟨h1, h2⟩ := h
    obtain ⟨m, n, e, f⟩ := hp p List.mem_cons_self
    have rr : RelO (some (V.int n)) (valueAt vb p.1) := by rw [← f]; exact rb.val p.1
    obtain ⟨y, hy, ry⟩ := rr.some_of
    obtain ⟨k, v⟩ := q
    have h1' : p.1 = k := h1
    rw [List.all_cons, e, f]
    rw [h1'] at hy
    rw [e] at h2
    obtain ⟨t1, rfl⟩ := (show ∃ t, v = Value.int m t from h2)
    obtain ⟨t2, rfl⟩ := (show ∃ t, y = Value.int n t from ry)
    have ee : decide (some (V.int n) = some (V.int m)) = (m == n) := by
      by_cases z : m = n
      · rw [z]; simp
      · rw [decide_eq_false (fun y => z (V.int.inj (Option.some.inj y)).symm)]
        exact (beq_eq_false_iff_ne.mpr z).symm
    rw [ee]
    exact .hit hy (SeqAt.EqAt.int_int _ _ _ _) (ih fun p' hm => hp p' (List.mem_cons_of_mem _ hm))
theorem dk_same {ns : List Str} {u v : List Int} (nd : ns.Nodup) (lu : u.length = ns.length) (lv : v.length = ns.length) : ((dk ns u).all fun p => decide (valV (dk ns v) p.1 = some p.2)) = decide (u = v) := by
  by_cases e : u = v
  · subst e
    rw [decide_eq_true rfl, List.all_eq_true]
    intro p hp
    obtain ⟨i, hi, ei⟩ := List.getElem_of_mem hp
    obtain ⟨x, n, e1, e2, _, e4⟩ := dk_at (k := p.1) (v := p.2) (show (dk ns u)[i]? = some (p.1, p.2) by rw [List.getElem?_eq_getElem hi, ei]) nd lu.symm
    rw [e1, e2, e4]
    exact decide_eq_true rfl
  · rw [decide_eq_false e, List.all_eq_false]
    have some_ : ∃ x, x ∈ ns ∧ av ns u x ≠ av ns v x := Classical.byContradiction fun no => e (by
      rw [← av_all nd lu, ← av_all nd lv]
      exact List.map_inj_left.mpr fun x hx => Classical.byContradiction fun z => no ⟨x, hx, z⟩)
    obtain ⟨x, hx, ne⟩ := some_
    have a := dk_av nd lu hx
    unfold valV at a
    obtain ⟨p, ep, e2⟩ := Option.map_eq_some_iff.mp a
    refine ⟨p, List.mem_of_find?_eq_some ep, ?_⟩
    have e1 : p.1 = Sum.inr x := by
      have z := List.find?_some ep
      exact of_decide_eq_true z
    rw [e1, e2, dk_av nd lv hx]
    simp [Ne.symm ne]
/-- x in rows -/
def rInRows (w : World) : R2 := fun x y H Q => ∃ (r : Addr) (as : List Addr) (ns : List Str) (tbl : List (List Int)), y = .ref r ∧ H r = some (.lst (as.map V.ref)) ∧ DRows H ns as tbl ∧ ns.Nodup ∧
  ((∃ (d : Addr) (u : List Int), x = .ref d ∧ H d = some (.dK (dk ns u)) ∧ u.length = ns.length ∧ Q (.bl (decide (u ∈ tbl))) H) ∨
   (∃ (d : Addr) (es : List MK.En), x = .ref d ∧ H d = some (MK.DE w d es) ∧ es.length ≠ ns.length ∧ Q (.bl false) H) ∨ (x = .non ∧ Q (.bl false) H))
section
variable {X : Cx} {pins : List (Addr × Obj)} {σ : L2.St} {H : Hp} {s : Shared}
/-- each row and x -/
theorem row_eq {A : Around} (hu : A.units < cLine) (I : Inv X pins σ H s) {c : Addr} {ns : List Str} {v : List Int} {x : V} {u : Value} (rx : RelV x u) (nd : ns.Nodup) (oc : H c = some (.dK (dk ns v))) (lv : v.length = ns.length) :
    (∀ (d : Addr) (us : List Int), x = .ref d → H d = some (.dK (dk ns us)) → us.length = ns.length → SeqAt.EqIn X.prog X.w A s (.ref c) u (decide (v = us))) ∧
    (∀ (d : Addr) (es : List MK.En), x = .ref d → H d = some (MK.DE X.w d es) → es.length ≠ ns.length → SeqAt.EqIn X.prog X.w A s (.ref c) u false) ∧
    (x = .non → SeqAt.EqIn X.prog X.w A s (.ref c) u false) := by
  obtain ⟨_, sc, v1, kv1, d1⟩ := (show ObjOk X.prog X.w H s.heap c (.dK (dk ns v)) from I.hok _ _ oc)
  have tc := d1.typeIs
  refine ⟨fun d us ex od lu => ?_, fun d es ex od ne => ?_, fun ex => ?_⟩
  · subst ex
    obtain rfl : u = Value.ref d := rx
    by_cases eq : c = d
    · subst eq
      rw [oc] at od
      have same : v = us := by
        have z := HO.dK.inj (Option.some.inj od)
        have w1 := dk_same (u := v) (v := us) nd lv lu
        rw [← z, dk_same nd lv lv, decide_eq_true rfl] at w1
        exact of_decide_eq_true w1.symm
      rw [decide_eq_true same]
      exact SeqAt.EqAt.inModel (SeqAt.EqAt.same _) _ _
    · refine SeqAt.EqIn.of_refs eq fun E Q' fin => ?_
      obtain ⟨_, sd, v2, kv2, d2⟩ := (show ObjOk X.prog X.w H s.heap d (.dK (dk ns us)) from I.hok _ _ od)
      have lv12 : v1.length = v2.length := by rw [← kv1.length, ← kv2.length, dk_len lv, dk_len lu]
      have hh := hits_ints (A := A.in1) (s := s) kv2 kv1 (fun p hp => by
        obtain ⟨i, hi, ei⟩ := List.getElem_of_mem hp
        obtain ⟨y, n, e1, e2, e3, _⟩ := dk_at (k := p.1) (v := p.2) (show (dk ns v)[i]? = some (p.1, p.2) by rw [List.getElem?_eq_getElem hi, ei]) nd lv.symm
        exact ⟨n, av ns us y, e2, by rw [e1]; exact dk_av nd lu (List.mem_of_getElem? e3)⟩)
      rw [dk_same nd lv lu] at hh
      exact PySem.W.keq_eq (knd := mixKind X.prog X.w) sc sd d1 d2 hu (fun _ => hh) (by simpa [lv12] using fin)
  · subst ex
    obtain rfl : u = Value.ref d := rx
    have eq : c ≠ d := fun z => by
      rw [z, od] at oc
      unfold MK.DE MK.DX at oc
      cases oc
    refine SeqAt.EqIn.of_refs eq fun E Q' fin => ?_
    obtain ⟨sd, l1, _, rb, ⟨ob, epb, hob, xb, hdb⟩, zb, _⟩ := MK.dx_rd I.hok (.inl od)
    obtain ⟨oa, ea, epa, hoa, _, hda, _, hpa, _⟩ := id d1
    rw [List.length_map] at zb
    have sz : ea.size = ns.length := by
      have z : v1.length = ea.size := by rw [← hpa.length]; exact Array.length_toList
      rw [← z, ← kv1.length, dk_len lv]
    exact size_dict sc sd tc (MK.dx_type I (.inl od)) hoa hob hda hdb (by rw [sz, zb]; exact fun z => ne z.symm) hu fin
  · subst ex
    obtain rfl : u = Value.none := rx
    intro E Q' fin
    unfold eqBool
    refine wpAny_holding (wpAny_ite_split (fun z => absurd (eq_of_beq z) nofun) fun _ => ?_)
    exact wpAny_bind (none_dict tc hu (wpAny_truthy_bool fin))
theorem op_inRows {w : World} (hw : X.w = w) (hu : X.A.units + 64 < cLine) : OpR X (compareOp .In) (rInRows w) := by
  subst hw
  rintro pins s σ H x y v u Q I rx ry ⟨r, as, ns, tbl, rfl, hr, rows, nd, cases3⟩
  obtain rfl : u = Value.ref r := ry
  obtain ⟨z1, xs, n1, r1, g1⟩ := I.hok r _ hr
  have las : as.length = tbl.length := Paired.length rows
  have lx : xs.length = as.length := by rw [← r1.length, List.length_map]
  have each : ∀ (e : Nat → Bool), (∀ j c (w : List Int), as[j]? = some c → tbl[j]? = some w → H c = some (.dK (dk ns w)) → w.length = ns.length → SeqAt.EqIn X.prog X.w X.A.in1 s (.ref c) v (e j)) → ∀ j (h1 : j < xs.toArray.size), SeqAt.EqIn X.prog X.w X.A.in1 s xs.toArray[j] v (e j) := by
    intro e h j h1
    have j1 : j < as.length := by rw [← lx]; simpa using h1
    obtain ⟨w', ew, oc, lw⟩ := paired_get rows (List.getElem?_eq_getElem j1)
    obtain ⟨u1, e1, rel1⟩ := r1.get (show (as.map V.ref)[j]? = some (V.ref as[j]) by rw [List.getElem?_map, List.getElem?_eq_getElem j1]; rfl)
    obtain rfl : u1 = Value.ref as[j] := rel1
    have f1 : xs.toArray[j] = Value.ref as[j] := by
      have h1' : j < xs.length := by simpa using h1
      rw [List.getElem?_eq_getElem h1'] at e1
      simpa using Option.some.inj e1
    rw [f1]
    exact h j as[j] w' (List.getElem?_eq_getElem j1) ew oc lw
  have run : ∀ (e : Nat → Bool) (b : Bool), (∀ j (h1 : j < xs.toArray.size), SeqAt.EqIn X.prog X.w X.A.in1 s xs.toArray[j] v (e j)) → ((List.range xs.toArray.size).any e) = b → Q (.bl b) H → wpAny (model X.prog X.w) X.A (compareOp .In v (.ref r)) (fun z s' => ∃ y H', Inv X pins σ H' s' ∧ RelV y z ∧ Q y H') X.xe s := by
    intro e b eqs eb q
    show wpAny _ _ (do return Value.bool (← contains (.ref r) v)) _ _ s
    refine wpAny_bind (wpAny_contains_slot ⟨_, g1, rfl⟩ F.slot_list_contains (GQ.call_here F.slot_list_contains ⟨_, g1, rfl⟩ F.entry_list_contains (F.args_list_contains_2 _ _) (has_list r xs.toArray n1 v g1 e eqs ?_)))
    rw [eb]
    exact wpAny_truthy_bool (wpAny_pure ⟨.bl b, H, I, rfl, q⟩)
  have lt1 : X.A.in1.units < cLine := by show X.A.units + _ < cLine; omega
  rcases cases3 with ⟨d, us, rfl, od, lu, q⟩ | ⟨d, es, rfl, od, ne, q⟩ | ⟨rfl, q⟩
  · refine run (fun j => decide (tbl.getD j [] = us)) _ (each _ fun j c w' ec ew oc lw => ?_) ?_ q
    · rw [List.getD_eq_getElem?_getD, ew]
      exact (row_eq lt1 I rx nd oc lw).1 d us rfl od lu
    · by_cases m : us ∈ tbl
      · rw [decide_eq_true m, List.any_eq_true]
        obtain ⟨j, hj, ej⟩ := List.getElem_of_mem m
        refine ⟨j, List.mem_range.mpr (by rw [List.size_toArray]; omega), ?_⟩
        rw [List.getD_eq_getElem?_getD, List.getElem?_eq_getElem hj, ej]
        exact decide_eq_true rfl
      · rw [decide_eq_false m, List.any_eq_false]
        intro j hj z
        have hj := List.mem_range.mp hj
        rw [List.size_toArray] at hj
        have z2 := of_decide_eq_true z
        rw [List.getD_eq_getElem?_getD, List.getElem?_eq_getElem (by omega)] at z2
        have z3 : tbl[j]'(by omega) = us := z2
        exact m (z3 ▸ List.getElem_mem _)
  · refine run (fun _ => false) _ (each _ fun j c w' ec ew oc lw => (row_eq lt1 I rx nd oc lw).2.1 d es rfl od ne) ?_ q
    rw [List.any_eq_false]
    exact fun _ _ z => by cases z
  · refine run (fun _ => false) _ (each _ fun j c w' ec ew oc lw => (row_eq lt1 I rx nd oc lw).2.2 rfl) ?_ q
    rw [List.any_eq_false]
    exact fun _ _ z => by cases z
end
end L2.TB
/-! plans as lists of keys and answers -/
namespace L2.TB
open PySem PySem.Spec PyProof.Rows MK
def keyN (ks : List Int) : NestedKey := .tup (ks.map NestedKey.num)
theorem keyN_inj {a b : List Int} (h : keyN a = keyN b) : a = b := by
  unfold keyN at h
  exact (List.map_inj_right (fun x y e => NestedKey.num.inj e)).mp (NestedKey.tup.inj h)
theorem nums_depth : ∀ ks : List Int, NestedKey.depthAll (ks.map NestedKey.num) ≤ 0
  | [] => by simp [NestedKey.depthAll]
  | k :: ks => by
    have := nums_depth ks
    simp [NestedKey.depthAll, NestedKey.depth]
    omega
theorem keyN_depth (ks : List Int) : (keyN ks).depth ≤ 8 := by
  have := nums_depth ks
  unfold keyN
  simp [NestedKey.depth]
  omega
theorem keyH_ints {H : Hp} {t : Addr} {ks : List Int} (h : H t = some (.tup (ks.map V.int))) : KeyH H (keyN ks) (.ref t) := by
  refine .tup h (by rw [List.length_map, List.length_map]) fun i v k e1 e2 => ?_
  rw [List.getElem?_map] at e1 e2
  obtain ⟨n, en, rfl⟩ := Option.map_eq_some_iff.mp e1
  rw [en] at e2
  obtain rfl : NestedKey.num n = k := Option.some.inj e2
  exact .int n
abbrev Lot := List (List Int × Int)
def putL (L : Lot) (k : List Int) (v : Int) : Lot := if k ∈ L.map (·.1) then L.map fun p => if p.1 = k then (p.1, v) else p else L ++ [(k, v)]
def lotOf (ns known : List Str) (x : Str) (tbl : List (List Int)) : Lot := tbl.foldl (fun L u => putL L (keyR ns known u) (av ns u x)) []
theorem putL_mem {L : Lot} {k : List Int} {v : Int} {p : List Int × Int} (h : p ∈ putL L k v) : p ∈ L ∨ p = (k, v) := by
  unfold putL at h
  by_cases m : k ∈ L.map (·.1)
  · rw [if_pos m] at h
    obtain ⟨q, hq, e⟩ := List.mem_map.mp h
    by_cases z : q.1 = k
    · rw [if_pos z] at e
      exact .inr (by rw [← e, z])
    · rw [if_neg z] at e
      exact .inl (e ▸ hq)
  · rw [if_neg m] at h
    exact (List.mem_append.mp h).imp id List.mem_singleton.mp
theorem putL_keys {L : Lot} {k : List Int} {v : Int} : (putL L k v).map (·.1) = if k ∈ L.map (·.1) then L.map (·.1) else L.map (·.1) ++ [k] := by
  unfold putL
  by_cases m : k ∈ L.map (·.1)
  · rw [if_pos m, if_pos m, List.map_map]
    refine List.map_congr_left fun p _ => ?_
    show (if p.1 = k then (p.1, v) else p).1 = p.1
    by_cases z : p.1 = k
    · rw [if_pos z]
    · rw [if_neg z]
  · rw [if_neg m, if_neg m, List.map_append]; rfl
theorem putL_nd {L : Lot} {k : List Int} {v : Int} (h : (L.map (·.1)).Nodup) : ((putL L k v).map (·.1)).Nodup := by
  rw [putL_keys]
  by_cases z : k ∈ L.map (·.1)
  · rw [if_pos z]; exact h
  · rw [if_neg z, List.nodup_append]
    exact ⟨h, by simp, fun a ha b hb e => by rw [List.mem_singleton] at hb; rw [e, hb] at ha; exact z ha⟩
theorem putL_len (L : Lot) (k : List Int) (v : Int) : (putL L k v).length ≤ L.length + 1 := by
  unfold putL
  by_cases h : k ∈ L.map (·.1)
  · rw [if_pos h, List.length_map]; omega
  · rw [if_neg h, List.length_append]; exact Nat.le_refl _
section
variable {ns known : List Str} {x : Str}
theorem lot_snoc (tbl : List (List Int)) (u : List Int) : lotOf ns known x (tbl ++ [u]) = putL (lotOf ns known x tbl) (keyR ns known u) (av ns u x) := by
  unfold lotOf
  rw [List.foldl_append]; rfl
theorem lot_ind {P : List (List Int) → Prop} (h0 : P []) (hs : ∀ tbl u, P tbl → P (tbl ++ [u])) (tbl : List (List Int)) : P tbl := by
  have z : ∀ n, ∀ tbl : List (List Int), tbl.length = n → P tbl := fun n => by
    induction n with
    | zero => intro tbl e; rw [List.eq_nil_of_length_eq_zero e]; exact h0
    | succ n ih =>
      intro tbl e
      have ne : tbl ≠ [] := by intro q; rw [q] at e; cases e
      rw [← List.dropLast_concat_getLast ne]
      exact hs _ _ (ih _ (by rw [List.length_dropLast, e]; rfl))
  exact z _ _ rfl
theorem lot_nd (tbl : List (List Int)) : ((lotOf ns known x tbl).map (·.1)).Nodup := by
  refine lot_ind (P := fun tbl => ((lotOf ns known x tbl).map (·.1)).Nodup) List.nodup_nil (fun tbl u ih => ?_) tbl
  rw [lot_snoc]
  exact putL_nd ih
theorem lot_len (tbl : List (List Int)) : (lotOf ns known x tbl).length ≤ tbl.length := by
  refine lot_ind (P := fun tbl => (lotOf ns known x tbl).length ≤ tbl.length) (Nat.le_refl _) (fun tbl u ih => ?_) tbl
  rw [lot_snoc, List.length_append]
  have := putL_len (lotOf ns known x tbl) (keyR ns known u) (av ns u x)
  show _ ≤ tbl.length + 1
  omega
theorem lot_from (tbl : List (List Int)) : ∀ p ∈ lotOf ns known x tbl, ∃ u ∈ tbl, p.1 = keyR ns known u ∧ p.2 = av ns u x := by
  refine lot_ind (P := fun tbl => ∀ p ∈ lotOf ns known x tbl, ∃ u ∈ tbl, p.1 = keyR ns known u ∧ p.2 = av ns u x) (fun p h => by cases h) (fun tbl u ih p hp => ?_) tbl
  rw [lot_snoc] at hp
  rcases putL_mem hp with h | h
  · obtain ⟨v, hv, e⟩ := ih p h
    exact ⟨v, List.mem_append_left _ hv, e⟩
  · exact ⟨u, by simp, by rw [h], by rw [h]⟩
theorem lot_keys (tbl : List (List Int)) : ∀ u ∈ tbl, keyR ns known u ∈ (lotOf ns known x tbl).map (·.1) := by
  refine lot_ind (P := fun tbl => ∀ u ∈ tbl, keyR ns known u ∈ (lotOf ns known x tbl).map (·.1)) (fun p h => by cases h) (fun tbl v ih u hu => ?_) tbl
  rw [lot_snoc, putL_keys]
  rcases List.mem_append.mp hu with h | h
  · by_cases z : keyR ns known v ∈ (lotOf ns known x tbl).map (·.1)
    · rw [if_pos z]; exact ih u h
    · rw [if_neg z]; exact List.mem_append_left _ (ih u h)
  · rw [List.mem_singleton.mp h]
    by_cases z : keyR ns known v ∈ (lotOf ns known x tbl).map (·.1)
    · rw [if_pos z]; exact z
    · rw [if_neg z]; simp
/-- where known tells, each row finds its answer -/
theorem lot_has {tbl : List (List Int)} (T : Tells ns tbl known x) {u : List Int} (hu : u ∈ tbl) : (keyR ns known u, av ns u x) ∈ lotOf ns known x tbl := by
  obtain ⟨p, hp, e⟩ := List.mem_map.mp (lot_keys (x := x) (known := known) (ns := ns) tbl u hu)
  obtain ⟨v, hv, e1, e2⟩ := lot_from tbl p hp
  have z := T v hv u hu (by rw [← e1, e])
  have : p = (keyR ns known u, av ns u x) := by
    show (p.1, p.2) = _
    rw [e, e2, z]
  exact this ▸ hp
end
/-- an entry of a plan -/
structure PairL (H : Hp) (e : En) (p : List Int × Int) : Prop where
  k : e.1 = keyN p.1
  t : ∃ t, e.2.1 = .ref t ∧ H t = some (.tup (p.1.map V.int))
  v : e.2.2 = .int p.2
theorem PairL.mono {H H' : Hp} {e : En} {p : List Int × Int} (h : PairL H e p) (s : ∀ a vs, H a = some (.tup vs) → H' a = some (.tup vs)) : PairL H' e p := ⟨h.k, let ⟨t, e, o⟩ := h.t; ⟨t, e, s _ _ o⟩, h.v⟩
def Ens (H : Hp) : List En → Lot → Prop := Paired (PairL H)
theorem Ens.mono {H H' : Hp} {es : List En} {L : Lot} (h : Ens H es L) (s : ∀ a vs, H a = some (.tup vs) → H' a = some (.tup vs)) : Ens H' es L := Paired.mapP h fun _ _ q => q.mono s
theorem Ens.keys {H : Hp} {es : List En} {L : Lot} (h : Ens H es L) : es.map (·.1) = L.map fun p => keyN p.1 := by
  unfold Ens at h
  induction h with
  | nil => rfl
  | cons q _ ih => rw [List.map_cons, List.map_cons, ih, q.k]
theorem Ens.mem {H : Hp} {es : List En} {L : Lot} (h : Ens H es L) (k : List Int) : keyN k ∈ es.map (·.1) ↔ k ∈ L.map (·.1) := by
  rw [h.keys]
  constructor
  · intro m
    obtain ⟨p, hp, e⟩ := List.mem_map.mp m
    exact keyN_inj e ▸ List.mem_map_of_mem hp
  · intro m
    obtain ⟨p, hp, e⟩ := List.mem_map.mp m
    exact List.mem_map.mpr ⟨p, hp, by rw [e]⟩
theorem Ens.mix {H : Hp} {es : List En} {L : Lot} (h : Ens H es L) (nd : (L.map (·.1)).Nodup) : MixE H es := by
  refine ⟨fun i k p e1 e2 => ?_, ?_, fun k hk => ?_⟩
  · rw [List.getElem?_map] at e1 e2
    obtain ⟨e, ee, rfl⟩ := Option.map_eq_some_iff.mp e1
    rw [ee] at e2
    obtain rfl := Option.some.inj e2
    obtain ⟨q, eq, pq⟩ := paired_get h ee
    obtain ⟨t, et, ot⟩ := pq.t
    show KeyH H e.1 e.2.1
    rw [pq.k, et]
    exact keyH_ints ot
  · rw [h.keys]
    have z : (L.map fun p => keyN p.1) = (L.map (·.1)).map keyN := by rw [List.map_map]; rfl
    rw [z]
    exact List.Pairwise.map keyN (fun a b ne e => ne (keyN_inj e)) nd
  · rw [h.keys] at hk
    obtain ⟨p, _, e⟩ := List.mem_map.mp hk
    rw [← e]
    exact keyN_depth _
theorem Ens.put {H : Hp} {es : List En} {L : Lot} (h : Ens H es L) {t : Addr} {k : List Int} {v : Int} (ot : H t = some (.tup (k.map V.int))) : Ens H (putE es (keyN k) (.ref t) (.int v)) (putL L k v) := by
  unfold putE putL
  by_cases m : k ∈ L.map (·.1)
  · rw [if_pos ((h.mem k).mpr m), if_pos m]
    clear m
    unfold Ens at h ⊢
    induction h with
    | nil => exact .nil
    | @cons e p es L q _ ih =>
      rw [List.map_cons, List.map_cons]
      refine .cons ?_ ih
      by_cases z : p.1 = k
      · rw [if_pos z, if_pos (by rw [q.k, z])]
        exact ⟨q.k, q.t, rfl⟩
      · rw [if_neg z, if_neg (fun y => z (keyN_inj (q.k ▸ y)))]
        exact q
  · rw [if_neg (fun z => m ((h.mem k).mp z)), if_neg m]
    exact paired_snoc ⟨rfl, ⟨t, rfl, ot⟩, rfl⟩ h
/-- what a plan's key tells -/
def valN (L : Lot) (k : NestedKey) : Option V := (L.find? fun p => decide (keyN p.1 = k)).map fun p => V.int p.2
theorem Ens.val {H : Hp} {es : List En} {L : Lot} (h : Ens H es L) (k : NestedKey) : valE es k = valN L k := by
  unfold Ens at h
  unfold valE valN
  induction h with
  | nil => rfl
  | @cons e p es L q _ ih =>
    rw [List.find?_cons, List.find?_cons, q.k]
    by_cases z : keyN p.1 = k
    · rw [decide_eq_true z]
      show some e.2.2 = some (V.int p.2)
      rw [q.v]
    · rw [decide_eq_false z]
      exact ih
theorem valN_at {L : Lot} (nd : (L.map (·.1)).Nodup) {p : List Int × Int} (hp : p ∈ L) : valN L (keyN p.1) = some (.int p.2) := by
  unfold valN
  induction L with
  | nil => cases hp
  | cons q L ih =>
    rw [List.find?_cons]
    rw [List.map_cons, List.nodup_cons] at nd
    by_cases z : q = p
    · rw [z, decide_eq_true rfl]; rfl
    · have hp' : p ∈ L := (List.mem_cons.mp hp).resolve_left (fun y => z y.symm)
      have ne : ¬ keyN q.1 = keyN p.1 := fun y => nd.1 (keyN_inj y ▸ List.mem_map_of_mem (f := (·.1)) hp')
      rw [decide_eq_false ne]
      exact ih nd.2 hp'
/-- the plan at d -/
structure LotAt (w : World) (H : Hp) (d : Addr) (es : List En) (L : Lot) : Prop where
  o : H d = some (DE w d es)
  e : Ens H es L
theorem LotAt.same {w : World} {H H' : Hp} {d : Addr} {es : List En} {L : Lot} (h : LotAt w H d es L) (s : Same H H') : LotAt w H' d es L := ⟨s _ _ h.o, h.e.mono fun _ _ o => s _ _ o⟩
end L2.TB
/-! _plan_of -/
namespace L2.TB
open PySem PySem.Spec PyProof.Rows MK
theorem hu_in {k : Nat} {A : Around} (hr : Room k A) : A.in1.units + 8 < cLine := by
  have h := hr.un
  show A.units + _ + 8 < cLine
  omega
theorem hu_out {k : Nat} {A : Around} (hr : Room k A) : A.units + 8 < cLine := by
  have := hr.un
  omega
theorem dc_lot {w : World} {J : It} {g : TG} {tt : TT} {tk tv : TE} {vs : List Nat} {σ : St} {H1 : Hp} {Q : Addr → Hp → Prop} (ns known : List Str) (x : Str) (tbl : List (List Int)) (short : tbl.length < 1000) (go : ∀ i H, Same H1 H → i < tbl.length → J.go i H) (stop : ∀ H, Same H1 H → J.stop tbl.length H)
    (turn : ∀ (i : Nat) (u : List Int) (v : V) (H H' : Hp) (C : V → V → Hp → Prop) (N : Hp → Prop), tbl[i]? = some u → Same H1 H → J.yld i H v H' → (∀ t H5, Same H H5 → H5 t = some (.tup ((keyR ns known u).map V.int)) → C (.ref t) (.int (av ns u x)) H5) →
      g v (wipe σ vs) H' fun σ2 H2 => wipe σ2 vs = wipe σ vs ∧ tt σ2 H2 fun b H3 => if b = true then tk σ2 H3 fun y H4 => tv σ2 H4 fun z H5 => C y z H5 else N H3)
    (fin : ∀ H D es, H1 D = none → LotAt w H D es (lotOf ns known x tbl) → Same H1 H → Q D H) : DcXW w J g tt tk tv vs σ H1 Q := by
  intro D nD
  refine ⟨fun i m H => m = tbl.length - i ∧ i ≤ tbl.length ∧ (∃ es, LotAt w H D es (lotOf ns known x (tbl.take i))) ∧ Same H1 H, ⟨_, rfl, Nat.zero_le _, ⟨[], upd_same, .nil⟩, same_new nD⟩, ?_⟩
  rintro i m H ⟨rfl, le, ⟨es, LA⟩, s1⟩
  by_cases lt : i < tbl.length
  · refine .inr ⟨go i H s1 lt, fun H' => (∃ es, LotAt w H' D es (lotOf ns known x (tbl.take (i + 1)))) ∧ Same H1 H', fun H' h => ⟨tbl.length - (i + 1), by omega, rfl, lt, h⟩, fun v H' yl => ?_⟩
    have eu : tbl[i]? = some tbl[i] := List.getElem?_eq_getElem lt
    have et : tbl.take (i + 1) = tbl.take i ++ [tbl[i]] := by rw [List.take_succ, eu]; rfl
    refine turn i tbl[i] v H H' (fun y z H5 => StoX w D y z H5 fun H' => (∃ es, LotAt w H' D es (lotOf ns known x (tbl.take (i + 1)))) ∧ Same H1 H') _ eu s1 yl fun t H5 s5 ot => ?_
    have L5 := LA.same s5
    have ll := lot_len (ns := ns) (known := known) (x := x) (tbl.take i)
    have le5 : es.length = (lotOf ns known x (tbl.take i)).length := Paired.length L5.e
    rw [List.length_take] at ll
    refine ⟨es, keyN (keyR ns known tbl[i]), L5.o, L5.e.mix (lot_nd _), keyH_ints ot, keyN_depth _, by rw [sizeLine_eq]; omega, ⟨_, upd_same, ?_⟩, ?_⟩
    · rw [et, lot_snoc]
      refine (L5.e.put ot).mono fun a vs e => ?_
      have ne : a ≠ D := fun z => by rw [z, L5.o] at e; cases e
      rw [upd_ne ne]; exact e
    · intro b u e
      rw [upd_ne (ne_of_none e nD)]
      exact s5 _ _ (s1 _ _ e)
  · obtain rfl : i = tbl.length := by omega
    rw [List.take_length] at LA
    exact .inl ⟨stop H s1, fin H D es nD LA s1⟩
def spPlanOf (w : World) (K : PySem.W.Frag) (C : Addr) : Sp := fun vs H Q _ => ∃ (a b : Addr) (ns known : List Str) (x : Str) (tbl : List (List Int)), vs = [.ref a, .ref b, .str x] ∧ TabAt H C a ns tbl ∧ SqA K H b (known.map V.str) ∧ (∀ x ∈ known, x ∈ ns) ∧ known.length < 1000 ∧ x ∈ ns ∧ tbl.length < 1000 ∧
  ∀ H' d es, H d = none → LotAt w H' d es (lotOf ns known x tbl) → Same H H' → Q (.ref d) H'
abbrev NPo : List Str := ["self", "known", "asked", "places", "place", "row", "k"]
theorem scPlanOf : FnScope NPo ["self", "known", "asked"] (defScope sPlanOf) := ⟨rfl, rfl, rfl, by decide +kernel, rfl, by decide +kernel, by decide +kernel⟩
abbrev scPo : Scope := { kind := ScopeKind.function, names := [(Str.ofString ".0", NameKind.local), (Str.ofString "row", NameKind.cell), (Str.ofString "tuple", NameKind.globalImplicit), (Str.ofString "place", NameKind.cell), (Str.ofString "places", NameKind.cell)], isGenerator := false, isCoroutine := false }
section
variable {P : Program} {w : World} {K : PySem.W.Frag} {mg : Str → Option Value} {base : Heap} {f C fP : Addr} {fd fdP : FuncData}
theorem ok_planOf (F : Fun K "_plan_of" "Table._plan_of" sPlanOf f fd) (FP : Fun K "_places" "Table._places" sPlaces fP fdP) (mP : Meth K C "_places" fP) (T : TabC K C) (gT : mg "tuple" = none) : FnOk P w K mg base CX0 2 f fd ["self", "known", "asked"] (spPlanOf w K C) := by
  have G : FnOk P w K mg base CX0 1 fP fdP ["self", "names"] (spPlaces K C) := ok_places FP T
  have b := FP.binds (ps := ["self", "names"]) fun _ _ _ _ _ _ us hl => match us, hl with | [_, _], _ => rfl
  refine F.ok scPlanOf (fun vs H Q E h => by obtain ⟨a, b, ns, known, x, tbl, e, _⟩ := h; rw [e]; rfl) fun cdv A outer s H vs Q E hr hsp => ?_
  obtain ⟨a, bk, ns, known, x, tbl, rfl, hT, hb, sub, short, xin, shortT, hq⟩ := hsp
  have nd := scPlanOf.nd
  have hu := hu_of hr
  refine ⟨_, pss_cons (ps_set (i := 3) nd rfl (Or.inr rfl) (pe_meth (pv 0) T.cl mP G hr b .nil pass0 (pa_cons (pv 1) pa_nil)))
    (pss_cons (ps_set (i := 4) nd rfl (Or.inr rfl) (pe_bm PySem.F.plainAttrs_list PySem.F.slot_list_index PySem.F.type_list_index mt_index (pe_fld (pv 0) rfl) (pa_cons (pv 2) pa_nil)))
    (pss_one (ps_ret (pe_dcX rfl (own := [("row", 5)]) (tt := tYes) (tk := tCB (rTupOf K) (tCons (tLc (iSeq K (tVar 3)) (gName 6) tYes (tOp (rIxT K) (tVar 5) (tVar 6)) [6]) tNil)) (tv := tOp (rIxT K) (tVar 5) (tVar 4)) (hu_out hr) rfl nd (pi_list (pe_fld (pv 0) rfl)) (blkOk_by (N := NPo) (sc := defScope sPlanOf) (by decide +kernel)) (fun _ _ _ _ _ => pg_name (i := 5) nd rfl (Or.inr rfl)) (fun _ _ _ _ _ => pts_nil)
      (fun _ _ _ _ _ => pe_callTy (r := rTupOf K) call_tuple_of rfl gT boot_tuple' (pa_cons (pe_lc (own := [("k", 6)]) (tt := tYes) (g := gName 6) (wi := iSeq K (tVar 3)) (te := tOp (rIxT K) (tVar 5) (tVar 6)) rfl nd (pi_seq (pv 3)) (blkOk_by (N := NPo) (sc := scPo) (by decide +kernel)) (fun _ _ _ _ _ => pg_name (i := 6) nd rfl (Or.inl rfl)) (fun _ _ _ _ _ => pts_nil) (fun _ _ _ _ _ => pe_ix (r := rIxT K) ix_tup (pv 5) (pv 6) (fun _ _ => rfl))) pa_nil))
      (fun _ _ _ _ _ => pe_ix (r := rIxT K) ix_tup (pv 5) (pv 4) (fun _ _ => rfl)))))), ?_⟩
  obtain ⟨dx, qa, ra, ha, hqa, hra⟩ := hT.ex
  refine ⟨_, rfl, a, dx, _, rfl, ha, rfl, _, rfl, a, bk, ns, known, tbl, rfl, hT, hb, sub, short, fun H1 pl npl opl s1 => ?_⟩
  obtain ⟨i1, i2⟩ := idx_at xin
  refine ⟨_, rfl, _, _, _, _, _, rfl, s1 _ _ ha, T.cl, T.nQ, tabF_q _ _, .inl ⟨rfl, _, SqL.of (s1 _ _ hqa)⟩, _, rfl, qa, _, .str x, idx ns x, .str x, rfl, rfl, SqL.of (s1 _ _ hqa), rfl, flat_strs ns, i1, by rw [str_inj]; simp, i2, ?_⟩
  obtain ⟨ps, ora, prs⟩ := hra.same s1
  have lps : ps.length = tbl.length := Paired.length prs
  refine ⟨_, rfl, a, C, dx, _, _, rfl, s1 _ _ ha, T.cl, T.nR, rfl, ra, rfl, ⟨_, SqL.of ora⟩, dc_lot ns known x tbl shortT (fun i H' k lt => ⟨_, _, SqL.of (k _ _ ora), List.getElem?_eq_getElem (by rw [List.length_map]; omega)⟩) (fun H' k => ⟨_, SqL.of (k _ _ ora), by rw [List.length_map]; omega⟩) ?_ ?_⟩
  · rintro i u v H2 H3 Cn Nn eu s2 ⟨rfl, ev⟩ yes
    have ev := ev _ (SqL.of (s2 _ _ ora))
    rw [List.getElem?_map] at ev
    obtain ⟨p, ep, rfl⟩ := Option.map_eq_some_iff.mp ev
    obtain ⟨u', eu', op, lu⟩ := paired_get prs ep
    rw [eu] at eu'
    obtain rfl := Option.some.inj eu'
    have op2 := s2 _ _ op
    refine ⟨rfl, ?_⟩
    refine ⟨_, rfl, lc_seq (.inl rfl) (s2 _ _ opl) (by rw [List.length_map]; omega) (fun _ => true) (fun y => match y with | .int n => .int (u.getD n.toNat 0) | _ => .non) ?_ ?_⟩
    · rintro j y H4 C4 N4 ey s4 yes4 no4
      rw [List.getElem?_map] at ey
      obtain ⟨z, ez, rfl⟩ := Option.map_eq_some_iff.mp ey
      have zin : z ∈ ns := sub z (List.mem_of_getElem? ez)
      refine ⟨rfl, ?_⟩
      exact ⟨_, rfl, _, rfl, p, _, _, _, rfl, rfl, SqT.of (s4 _ _ op2), av_at zin lu, yes4 rfl H4 (Same.refl _)⟩
    · intro H4 l nl ol s4
      have ekey : ((known.map fun x => V.int (idx ns x : Nat)).filter fun _ => true).map (fun y => match y with | V.int n => V.int (u.getD n.toNat 0) | _ => V.non) = (keyR ns known u).map V.int := by
        rw [List.filter_eq_self.mpr (fun _ _ => rfl), List.map_map]
        unfold keyR
        rw [List.map_map]
        rfl
      rw [ekey] at ol
      refine ⟨l, _, rfl, .inl ⟨SqL.of ol, fun t nt => ?_⟩⟩
      have st := same_new (o := .tup ((keyR ns known u).map V.int)) nt
      have s24 := s4.trans st
      exact ⟨_, rfl, _, rfl, p, _, _, _, rfl, rfl, SqT.of (s24 _ _ op2), av_at xin lu, yes t _ s24 upd_same⟩
  · intro H2 D es nD LA s2
    exact hq H2 D es (s1.free nD) LA (s1.trans s2)
end
end L2.TB
/-! is_integer and _are_integers of plain things -/
namespace L2.TB
open PySem PySem.Spec PyProof.Rows MK
/-- a plain thing; whether it is a whole number -/
inductive Pn : V → Bool → Prop
  | int (k : Int) : Pn (.int k) true
  | bl (b : Bool) : Pn (.bl b) false
  | str (x : Str) : Pn (.str x) false
  | non : Pn .non false
/-- a key; whether it is a tuple of whole numbers -/
inductive Ky (H : Hp) : V → Bool → Prop
  | tup {t : Addr} {us : List V} {bs : List Bool} (o : H t = some (.tup us)) (p : Paired Pn us bs) (sh : us.length < 1000) : Ky H (.ref t) (bs.all id)
  | str (x : Str) : Ky H (.str x) false
theorem Ky.mono {H H' : Hp} {v : V} {b : Bool} (h : Ky H v b) (s : ∀ a vs, H a = some (.tup vs) → H' a = some (.tup vs)) : Ky H' v b := by
  cases h with
  | tup o p sh => exact .tup (s _ _ o) p sh
  | str x => exact .str x
theorem pn_ints : ∀ ks : List Int, Paired Pn (ks.map V.int) (ks.map fun _ => true)
  | [] => .nil
  | k :: ks => .cons (.int k) (pn_ints ks)
theorem ky_ints {H : Hp} {t : Addr} {ks : List Int} (o : H t = some (.tup (ks.map V.int))) (sh : ks.length < 1000) : Ky H (.ref t) true := by
  have z : ((ks.map fun _ => true).all id) = true := by rw [List.all_eq_true]; intro b hb; obtain ⟨_, _, rfl⟩ := List.mem_map.mp hb; rfl
  exact z ▸ Ky.tup o (pn_ints ks) (by rw [List.length_map]; exact sh)
def spIsIntP : Sp := fun vs H Q _ => ∃ (v : V) (b : Bool), vs = [v] ∧ Pn v b ∧ Q (.bl b) H
def spAreIntsX : Sp := fun vs H Q _ => ∃ (v : V) (b : Bool), vs = [v] ∧ Ky H v b ∧ ∀ H', Same H H' → Q (.bl b) H'
abbrev NAi : List Str := ["thing", "part"]
theorem scAreInts : FnScope NAi ["thing"] (defScope sAreInts) := ⟨rfl, rfl, rfl, by decide +kernel, rfl, by decide +kernel, by decide +kernel⟩
section
variable {P : Program} {w : World} {K : PySem.W.Frag} {mg : Str → Option Value} {base : Heap} {f fG : Addr} {fd fdG : FuncData}
theorem ok_isIntP (F : Fun K "is_integer" "is_integer" sIsInt f fd) (gI : mg "isinstance" = none) (gInt : mg "int" = none) (gB : mg "bool" = none) : FnOk P w K mg base CX0 1 f fd ["thing"] spIsIntP := by
  refine F.ok scIsInt (fun vs H Q E h => by obtain ⟨k, b, e, _⟩ := h; rw [e]; rfl) fun cdv A outer s H vs Q E hr hsp => ?_
  obtain ⟨v, b, rfl, pn, hq⟩ := hsp
  refine ⟨_, pss_one (ps_ret (pe_and (pe_callB (r := rIsi K) call_isi rfl gI boot_isi (pa_cons (pv 0) (pa_cons (pe_bltn (v := .ty "int") rfl gInt boot_int' rfl) pa_nil)))
    (pe_one (pe_not (pe_callB (r := rIsi K) call_isi rfl gI boot_isi (pa_cons (pv 0) (pa_cons (pe_bltn (v := .ty "bool") rfl gB boot_bool' rfl) pa_nil))))))), ?_⟩
  cases pn with
  | int k => exact ⟨_, rfl, _, _, _, _, true, rfl, .ty _, .base (.int k), kit_ty (by decide +kernel), true, rfl, iteT ⟨_, rfl, _, _, _, _, false, rfl, .ty _, .base (.int k), kit_ty (by decide +kernel), false, rfl, hq⟩⟩
  | bl b => exact ⟨_, rfl, _, _, _, _, true, rfl, .ty _, .base (.bl b), kit_ty (by decide +kernel), true, rfl, iteT ⟨_, rfl, _, _, _, _, true, rfl, .ty _, .base (.bl b), kit_ty (by decide +kernel), true, rfl, hq⟩⟩
  | str x => exact ⟨_, rfl, _, _, _, _, false, rfl, .ty _, .base (.str x), kit_ty (by decide +kernel), false, rfl, iteF hq⟩
  | non => exact ⟨_, rfl, _, _, _, _, false, rfl, .ty _, .base .non, kit_ty (by decide +kernel), false, rfl, iteF hq⟩
theorem ok_areIntsX (F : Fun K "_are_integers" "_are_integers" sAreInts f fd) (FG : Fun K "is_integer" "is_integer" sIsInt fG fdG) (gIG : mg "is_integer" = some (.ref fG)) (gI : mg "isinstance" = none) (gT : mg "tuple" = none) (gA : mg "all" = none) (gInt : mg "int" = none) (gB : mg "bool" = none) : FnOk P w K mg base CX0 2 f fd ["thing"] spAreIntsX := by
  have GG : FnOk P w K mg base CX0 1 fG fdG ["thing"] spIsIntP := ok_isIntP FG gI gInt gB
  have bG := FG.binds (ps := ["thing"]) fun _ _ _ _ _ _ us hl => match us, hl with | [_], _ => rfl
  refine F.ok scAreInts (fun vs H Q E h => by obtain ⟨p, us, e, _⟩ := h; rw [e]; rfl) fun cdv A outer s H vs Q E hr hsp => ?_
  obtain ⟨v, b, rfl, ky, hq⟩ := hsp
  have nd := scAreInts.nd
  refine ⟨_, pss_one (ps_ret (pe_and (pe_callB (r := rIsi K) call_isi rfl gI boot_isi (pa_cons (pv 0) (pa_cons (pe_bltn (v := .ty "tuple") rfl gT boot_tuple' rfl) pa_nil)))
    (pe_one (pe_callB (cr_all rfl) rfl gA boot_all' (pa_cons (pe_lc (own := [("part", 1)]) (tt := tYes) rfl nd (pi_seq (pv 0)) (blkOk_by (N := NAi) (sc := defScope sAreInts) (by decide +kernel)) (fun _ _ _ _ _ => pg_name (i := 1) nd rfl (Or.inl rfl)) (fun _ _ _ _ _ => pts_nil)
      (fun _ _ _ _ _ => pe_call GG hr rfl gIG FG.kp bG .nil pass0 (pa_cons (pv 1) pa_nil))) pa_nil))))), ?_⟩
  cases ky with
  | str x => exact ⟨_, rfl, _, _, _, _, false, rfl, .ty _, .base (.str x), kit_ty (by decide +kernel), false, rfl, iteF (hq H (Same.refl _))⟩
  | @tup t us bs o p sh =>
    have lp : us.length = bs.length := Paired.length p
    refine ⟨_, rfl, _, _, _, _, true, rfl, .ty _, .base (.tup o), kit_ty (by decide +kernel), _, rfl, iteT ?_⟩
    refine ⟨_, rfl, t, us, rfl, .inr ⟨SqT.of o, lc_gen (bs.map V.bl) (by rw [List.length_map]; omega) (fun i H' k lt => ⟨_, _, SqT.of (k _ _ o), List.getElem?_eq_getElem (by rw [List.length_map] at lt; omega)⟩) (fun H' k => ⟨_, SqT.of (k _ _ o), by rw [List.length_map]; omega⟩) ?_ ?_⟩⟩
    · rintro i v y H2 H3 Cn Nn ey s2 ⟨rfl, ev⟩ yes
      have ev := ev _ (SqT.of (s2 _ _ o))
      obtain ⟨bb, eb, pp⟩ := paired_get p ev
      rw [List.getElem?_map, eb] at ey
      obtain rfl : V.bl bb = y := Option.some.inj ey
      exact ⟨rfl, _, rfl, v, bb, rfl, pp, yes _ (Same.refl _)⟩
    · intro H2 D nD oD s2
      exact ⟨D, bs, rfl, SqL.of oD, hq H2 s2⟩
end
end L2.TB
/-! has_just and _is_world of rows, of dicts with more, of None -/
namespace L2.TB
open PySem PySem.Spec PyProof.Rows MK
theorem fnOr {P : Program} {w : World} {K : PySem.W.Frag} {mg : Str → Option Value} {base : Heap} {CX : CXT} {k : Nat} {f : Addr} {fd : FuncData} {ps : List Str} {sp sp1 sp2 : Sp} (F1 : FnOk P w K mg base CX k f fd ps sp1) (F2 : FnOk P w K mg base CX k f fd ps sp2)
    (h : ∀ vs H Q E, sp vs H Q E → sp1 vs H Q E ∨ sp2 vs H Q E) : FnOk P w K mg base CX k f fd ps sp :=
  ⟨fun vs H Q E q => (h _ _ _ _ q).elim (F1.len vs H Q E) (F2.len vs H Q E), fun A outer s H args us vs Q E hr he hb hv hs => (h _ _ _ _ hs).elim (F1.run A outer s H args us vs Q E hr he hb hv) (F2.run A outer s H args us vs Q E hr he hb hv)⟩
theorem pe_or {X : Cx} {e : Expr} {t1 t2 : TE} (h1 : PE X e t1) (h2 : PE X e t2) : PE X e (fun σ H Q => t1 σ H Q ∨ t2 σ H Q) := ⟨fun pins s σ H Q I h => h.elim (h1.run pins s σ H Q I) (h2.run pins s σ H Q I)⟩
/-- what may be looked at as a world -/
inductive WTh (w : World) (H : Hp) (ns : List Str) : V → Option (List Int) → Prop
  | row {d : Addr} {kvs : List (Key × V)} {us : List Int} (o : H d = some (.dK kvs)) (r : RowD ns kvs us) : WTh w H ns (.ref d) (some us)
  | more {d : Addr} {es : List En} (o : H d = some (DE w d es)) (ne : es.length ≠ ns.length) : WTh w H ns (.ref d) none
  | non : WTh w H ns .non none
theorem WTh.same {w : World} {H H' : Hp} {ns : List Str} {v : V} {o : Option (List Int)} (h : WTh w H ns v o) (s : Same H H') : WTh w H' ns v o := by
  cases h with
  | row o r => exact .row (s _ _ o) r
  | more o ne => exact .more (s _ _ o) ne
  | non => exact .non
def worldB (tbl : List (List Int)) (o : Option (List Int)) : Bool := match o with
  | some us => decide (us ∈ tbl)
  | none => false
def spHasJustO (w : World) (K : PySem.W.Frag) : Sp := fun vs H Q _ => ∃ (v : V) (c : Addr) (ns : List Str), vs = [v, .ref c] ∧ WTh w H ns v none ∧ H c = some (.lst (ns.map V.str)) ∧ ns.length < 1000 ∧ Q (.bl false) H
def spHasJustW (w : World) (K : PySem.W.Frag) : Sp := fun vs H Q _ => ∃ (v : V) (c : Addr) (ns : List Str) (o : Option (List Int)), vs = [v, .ref c] ∧ WTh w H ns v o ∧ H c = some (.lst (ns.map V.str)) ∧ ns.length < 1000 ∧ ∀ H', Same H H' → Q (.bl o.isSome) H'
def spIsWorldX (w : World) (C : Addr) : Sp := fun vs H Q _ => ∃ (a : Addr) (v : V) (ns : List Str) (tbl : List (List Int)) (o : Option (List Int)), vs = [.ref a, v] ∧ TabAt H C a ns tbl ∧ ns.Nodup ∧ ns.length < 1000 ∧ WTh w H ns v o ∧ ∀ H', Same H H' → Q (.bl (worldB tbl o)) H'
abbrev NIw : List Str := ["self", "thing", "row", "name"]
theorem scIsWorld : FnScope NIw ["self", "thing"] (defScope sIsWorld) := ⟨rfl, rfl, rfl, by decide +kernel, rfl, by decide +kernel, by decide +kernel⟩
section
variable {P : Program} {w : World} {K : PySem.W.Frag} {mg : Str → Option Value} {base : Heap} {f C fJ fA : Addr} {fd fdJ fdA : FuncData}
theorem ok_hasJustO (F : Fun K "has_just" "has_just" sHasJust f fd) (gI : mg "isinstance" = none) (gD : mg "dict" = none) (gN : mg "len" = none) (gA : mg "all" = none) : FnOk P w K mg base CX0 1 f fd ["thing", "names"] (spHasJustO w K) := by
  refine F.ok scHasJust (fun vs H Q E h => by obtain ⟨d, c, ns, e, _⟩ := h; rw [e]; rfl) fun cdv A outer s H vs Q E hr hsp => ?_
  obtain ⟨v, c, ns, rfl, W, hc, short, hq⟩ := hsp
  have nd := scHasJust.nd
  have hu := hu_of hr
  refine ⟨_, pss_one (ps_ret (pe_and (pe_or (pe_callB (r := rIsi K) call_isi rfl gI boot_isi (pa_cons (pv 0) (pa_cons (pe_bltn (v := .ty "dict") rfl gD boot_dict' rfl) pa_nil))) (pe_callB call_isiD rfl gI boot_isi (pa_cons (pv 0) (pa_cons (pe_bltn (v := .ty "dict") rfl gD boot_dict' rfl) pa_nil)))) (pe_and (pe_cmpR op_eq (pe_callB call_lenX rfl gN boot_len (pa_cons (pv 0) pa_nil)) (pe_callB call_len_seq rfl gN boot_len (pa_cons (pv 1) pa_nil)) (nomark _))
    (pe_one (pe_callB (cr_all rfl) rfl gA boot_all' (pa_cons (pe_lc (own := [("name", 2)]) (tt := tYes) rfl nd (pi_seq (pv 1)) (blkOk_by (N := NHj) (sc := defScope sHasJust) (by decide +kernel)) (fun _ _ _ _ _ => pg_name (i := 2) nd rfl (Or.inl rfl)) (fun _ _ _ _ _ => pts_nil)
      (fun _ _ _ _ _ => pe_cmp (pc_din hu (pv 2) (pv 0)))) pa_nil)))))), ?_⟩
  cases W with
  | non => exact .inl ⟨_, rfl, _, _, _, _, false, rfl, .ty _, .base .non, kit_ty (by decide +kernel), _, rfl, iteF hq⟩
  | more o ne =>
    refine .inr ⟨_, rfl, _, _, _, _, _, true, rfl, .ty _, .inl o, kit_ty (by decide +kernel), _, rfl, iteT ?_⟩
    refine ⟨_, rfl, _, _, _, rfl, .inl o, _, rfl, c, _, rfl, .inl (SqL.of hc), rfl, _, rfl, ?_⟩
    rw [dec_int2, List.length_map, List.length_map, decide_eq_false (by omega)]
    exact iteF hq
theorem ok_hasJustW (F : Fun K "has_just" "has_just" sHasJust f fd) (gI : mg "isinstance" = none) (gD : mg "dict" = none) (gN : mg "len" = none) (gA : mg "all" = none) : FnOk P w K mg base CX0 1 f fd ["thing", "names"] (spHasJustW w K) := by
  refine fnOr (ok_hasJustG F gI gD gN gA) (ok_hasJustO F gI gD gN gA) ?_
  rintro vs H Q E ⟨v, c, ns, o, rfl, W, hc, short, hq⟩
  cases o with
  | none => exact .inr ⟨v, c, ns, rfl, W, hc, short, hq H (Same.refl _)⟩
  | some us =>
    cases W with
    | row o r => exact .inl ⟨_, c, _, ns, rfl, o, hc, r.size, fun x hx => ⟨_, r.val x hx⟩, short, hq⟩
theorem ok_isWorldX (F : Fun K "_is_world" "Table._is_world" sIsWorld f fd) (T : TabC K C) (GJ : FnOk P w K mg base CX0 1 fJ fdJ ["thing", "names"] (spHasJustW w K)) (FJ : Fun K "has_just" "has_just" sHasJust fJ fdJ) (gJ : mg "has_just" = some (.ref fJ))
    (GA : FnOk P w K mg base CX0 2 fA fdA ["thing"] spAreIntsX) (FA : Fun K "_are_integers" "_are_integers" sAreInts fA fdA) (gA : mg "_are_integers" = some (.ref fA)) (gT : mg "tuple" = none) : FnOk P w K mg base CX0 3 f fd ["self", "thing"] (spIsWorldX w C) := by
  have bJ := FJ.binds (ps := ["thing", "names"]) fun _ _ _ _ _ _ us hl => match us, hl with | [_, _], _ => rfl
  have bA := FA.binds (ps := ["thing"]) fun _ _ _ _ _ _ us hl => match us, hl with | [_], _ => rfl
  refine F.ok scIsWorld (fun vs H Q E h => by obtain ⟨a, d, ns, tbl, o, e, _⟩ := h; rw [e]; rfl) fun cdv A outer s H vs Q E hr hsp => ?_
  obtain ⟨a, v, ns, tbl, o, rfl, tab, nnd, nsh, W, hq⟩ := hsp
  obtain ⟨dx, qa, ra, ha, hqa, hra⟩ := id tab.ex
  have nd := scIsWorld.nd
  have hu := hu_of hr
  have hu65 : (A.deeper (envOfC "Table._is_world" (defScope sIsWorld) s.heap.objs.size f cdv)).units + 65 < cLine := by have := hr.un; omega
  refine ⟨_, pss_cons (ps_if (pt_not (pt_val (pe_call GJ (hr.mono (by decide)) rfl gJ FJ.kp bJ .nil pass0 (pa_cons (pv 1) (pa_cons (pe_fld (pv 0) rfl) pa_nil))))) (pss_one (ps_ret pe_bl)) pss_nil)
    (pss_cons (ps_set (i := 2) nd rfl (Or.inl rfl) (pe_callTy (r := rTupOf K) call_tuple_of rfl gT boot_tuple' (pa_cons (pe_lc (own := [("name", 3)]) (tt := tYes) rfl nd (pi_list (pe_fld (pv 0) rfl)) (blkOk_by (N := NIw) (sc := defScope sIsWorld) (by decide +kernel)) (fun _ _ _ _ _ => pg_name (i := 3) nd rfl (Or.inl rfl)) (fun _ _ _ _ _ => pts_nil)
        (fun _ _ _ _ _ => pe_dget hu (pv 1) (pv 3) (fun _ _ => rfl))) pa_nil)))
    (pss_one (ps_ret (pe_and (pe_call GA hr rfl gA FA.kp bA .nil pass0 (pa_cons (pv 2) pa_nil)) (pe_one (pe_cmpR (op_inD hu65) (pv 2) (pe_fld (pv 0) rfl) rfl)))))), ?_⟩
  refine ⟨_, rfl, _, rfl, a, C, dx, _, _, rfl, ha, T.cl, T.nQ, rfl, v, qa, ns, o, rfl, W, hqa, nsh, fun H1 k1 => ⟨_, rfl, ?_⟩⟩
  cases o with
  | none => exact iteT (hq H1 k1)
  | some us =>
    refine iteF ?_
    cases W with
    | @row d kvs us od rd =>
      refine ⟨_, rfl, a, C, dx, _, _, rfl, k1 _ _ ha, T.cl, T.nQ, rfl, qa, rfl, ⟨_, SqL.of (k1 _ _ hqa)⟩, lc_gen ((ns.map (av ns us)).map V.int) (by rw [List.length_map, List.length_map]; omega) (fun j H' s lt => ⟨ns.map V.str, _, SqL.of (s _ _ (k1 _ _ hqa)), List.getElem?_eq_getElem (by rw [List.length_map, List.length_map] at lt; rw [List.length_map]; exact lt)⟩) (fun H' s => ⟨ns.map V.str, SqL.of (s _ _ (k1 _ _ hqa)), by rw [List.length_map, List.length_map, List.length_map]; omega⟩) ?_ ?_⟩
      · rintro j x y H6 H7 Cm Nm ey s6 ⟨rfl, ex⟩ yes2
        have ex := ex _ (SqL.of (s6 _ _ (k1 _ _ hqa)))
        rw [List.getElem?_map] at ex
        obtain ⟨z, ez, rfl⟩ := Option.map_eq_some_iff.mp ex
        rw [List.getElem?_map, List.getElem?_map, ez] at ey
        obtain rfl : V.int (av ns us z) = y := Option.some.inj ey
        refine ⟨rfl, ?_⟩
        exact ⟨_, rfl, _, rfl, d, _, rfl, rd.val z (List.mem_of_getElem? ez) ▸ DGet.k (k := Sum.inr z) (s6 _ _ (k1 _ _ od)), yes2 H7 (Same.refl _)⟩
      · intro H6 l nl ol s6
        rw [av_all nnd rd.len] at ol
        refine ⟨l, _, rfl, .inl ⟨SqL.of ol, fun t nt => ?_⟩⟩
        have st := same_new (o := .tup (us.map V.int)) nt
        have ot : upd H6 t (.tup (us.map V.int)) t = some (.tup (us.map V.int)) := upd_same
        have k2 := (k1.trans s6).trans st
        generalize upd H6 t (.tup (us.map V.int)) = H7 at ot k2
        refine ⟨_, rfl, .ref t, true, rfl, ky_ints ot (by rw [rd.len]; exact nsh), fun H8 k8 => ⟨_, rfl, iteT ?_⟩⟩
        have k3 := k2.trans k8
        refine ⟨_, rfl, _, rfl, a, C, dx, _, _, rfl, k3 _ _ ha, T.cl, T.nR, rfl, tupD us, tbl.map tupD, dpD_tup (k8 _ _ ot), dpD_rows (hra.same k3), tupD_shaped us, rowsD_shaped tbl, ?_⟩
        have any : ((tbl.map tupD).any fun z => PyData.eqv z (tupD us)) = decide (us ∈ tbl) := by
          rw [Bool.eq_iff_iff, List.any_eq_true, decide_eq_true_eq]
          constructor
          · rintro ⟨z, hz, e⟩
            obtain ⟨u, hu, rfl⟩ := List.mem_map.mp hz
            rw [tupD_eqv] at e
            exact of_decide_eq_true e ▸ hu
          · intro m
            exact ⟨tupD us, List.mem_map_of_mem m, by rw [tupD_eqv]; simp⟩
        rw [any]
        exact hq _ k3
end
end L2.TB
/-! plan and apart -/
namespace L2.TB
open PySem PySem.Spec PyProof.Rows MK
def spPlan (w : World) (K : PySem.W.Frag) (C : Addr) : Sp := fun vs H Q _ => ∃ (a b : Addr) (ns known : List Str) (x : Str) (tbl : List (List Int)), vs = [.ref a, .ref b, .str x] ∧ Asked K H C a b ns known tbl ∧ x ∈ ns ∧
  (Tells ns tbl known x → ∀ H' d es, H d = none → LotAt w H' d es (lotOf ns known x tbl) → Same H H' → Q (.ref d) H') ∧ (¬ Tells ns tbl known x → ∀ H', Same H H' → Q .non H')
/-- two rows that part, as dicts -/
structure PairAt (H : Hp) (t : Addr) (ns known : List Str) (tbl : List (List Int)) (x : Str) (p q : Addr) (u v : List Int) : Prop where
  o : H t = some (.tup [.ref p, .ref q])
  op : H p = some (.dK (dk ns u))
  oq : H q = some (.dK (dk ns v))
  mu : u ∈ tbl
  mv : v ∈ tbl
  lu : u.length = ns.length
  lv : v.length = ns.length
  k : keyR ns known u = keyR ns known v
  ne : av ns u x ≠ av ns v x
def spApart (K : PySem.W.Frag) (C : Addr) : Sp := fun vs H Q _ => ∃ (a b : Addr) (ns known : List Str) (x : Str) (tbl : List (List Int)), vs = [.ref a, .ref b, .str x] ∧ Asked K H C a b ns known tbl ∧ x ∈ ns ∧
  (Tells ns tbl known x → ∀ H', Same H H' → Q .non H') ∧ (¬ Tells ns tbl known x → ∀ H' t p q u v, H t = none → PairAt H' t ns known tbl x p q u v → Same H H' → Q (.ref t) H')
theorem scPlan : FnScope ["self", "known", "asked"] ["self", "known", "asked"] (defScope sPlan) := ⟨rfl, rfl, rfl, by decide +kernel, rfl, by decide +kernel, by decide +kernel⟩
theorem scApart : FnScope ["self", "known", "asked", "rows"] ["self", "known", "asked"] (defScope sApart) := ⟨rfl, rfl, rfl, by decide +kernel, rfl, by decide +kernel, by decide +kernel⟩
theorem pair_len {H : Hp} {n : Nat} : ∀ {ps : List Addr} {tbl : List (List Int)}, Paired (fun p vs => H p = some (.tup (vs.map V.int)) ∧ vs.length = n) ps tbl → ∀ u ∈ tbl, u.length = n
  | _, _, .nil, u, hu => by cases hu
  | _, _, .cons h t, u, hu => by
    rcases List.mem_cons.mp hu with rfl | hu
    · exact h.2
    · exact pair_len t u hu
theorem TRows.row_len {H : Hp} {ra : Addr} {n : Nat} {tbl : List (List Int)} (h : TRows H ra n tbl) : ∀ u ∈ tbl, u.length = n := by
  obtain ⟨ps, _, pr⟩ := h
  exact pair_len pr
section
variable {P : Program} {w : World} {K : PySem.W.Frag} {mg : Str → Option Value} {base : Heap} {f C fQ fI fPl fPr fO fD aF aL aO aK aA aB : Addr} {fd fdO fdD : FuncData}
theorem ok_plan (F : Fun K "plan" "Table.plan" sPlan f fd) (T : TabM K C fQ fI fPl fPr) (Ck : Chk K mg aF aL aO aK aA aB) (FO : Fun K "_plan_of" "Table._plan_of" sPlanOf fO fdO) (mO : Meth K C "_plan_of" fO) : FnOk P w K mg base CX0 5 f fd ["self", "known", "asked"] (spPlan w K C) := by
  obtain ⟨fdB, FB⟩ := Ck.CB
  have GB := ok_ckB (P := P) (w := w) (base := base) Ck FB
  have bB := FB.binds (ps := ["names", "known", "asked"]) fun _ _ _ _ _ _ us hl => match us, hl with | [_, _, _], _ => rfl
  obtain ⟨fdL, FL⟩ := T.L
  obtain ⟨fdR, FR⟩ := T.R
  have GR := ok_parting (P := P) (w := w) (mg := mg) (base := base) FR FL T.mL T.toTabC Ck.nT
  have bR := FR.binds (ps := ["self", "known", "asked"]) fun _ _ _ _ _ _ us hl => match us, hl with | [_, _, _], _ => rfl
  have GO := ok_planOf (P := P) (w := w) (mg := mg) (base := base) FO FL T.mL T.toTabC Ck.nT
  have bO := FO.binds (ps := ["self", "known", "asked"]) fun _ _ _ _ _ _ us hl => match us, hl with | [_, _, _], _ => rfl
  refine F.ok scPlan (fun vs H Q E h => by obtain ⟨a, b, ns, known, x, tbl, e, _⟩ := h; rw [e]; rfl) fun cdv A outer s H vs Q E hr hsp => ?_
  obtain ⟨a, b, ns, known, x, tbl, rfl, ask, xin, yes, no⟩ := hsp
  refine ⟨_, pss_cons (ps_expr (pe_call GB hr rfl Ck.gCB FB.kp bB .nil pass0 (pa_cons (pe_fld (pv 0) rfl) (pa_cons (pv 1) (pa_cons (pv 2) pa_nil)))))
    (pss_cons (ps_if (pt_cmp (pc_notN (pe_meth (pv 0) T.cl T.mR GR (hr.mono (by decide)) bR .nil pass0 (pa_cons (pv 1) (pa_cons (pv 2) pa_nil))))) (pss_one (ps_ret pe_non)) pss_nil)
    (pss_one (ps_ret (pe_meth (pv 0) T.cl mO GO (hr.mono (by decide)) bO .nil pass0 (pa_cons (pv 1) (pa_cons (pv 2) pa_nil)))))), ?_⟩
  obtain ⟨dx, qa, ra, ha, hqa, hra⟩ := ask.t.ex
  refine ⟨_, rfl, _, _, _, _, _, rfl, ha, T.cl, T.nQ, tabF_q _ _, _, rfl, _, rfl, qa, b, ns, known, x, rfl, hqa, ask.k, ask.nd, ask.sub, ask.short, xin, fun H1 s1 => ?_⟩
  refine ⟨_, rfl, a, dx, _, rfl, s1 _ _ ha, rfl, _, rfl, _, rfl, a, b, ns, known, x, tbl, rfl, ask.t.same s1, ask.k.same s1, ask.sub, ask.short, xin, ask.s2, fun tl H' s' => ?_, fun nt H' t p q u v _ _ _ _ _ _ _ _ s' => ?_⟩
  · have s2 := s1.trans s'
    exact ⟨_, rfl, iteF ⟨_, rfl, a, dx, _, rfl, s2 _ _ ha, rfl, _, rfl, _, rfl, a, b, ns, known, x, tbl, rfl, ask.t.same s2, ask.k.same s2, ask.sub, ask.short, xin, ask.s2, fun H3 d es nd LA s3 => yes tl H3 d es (s2.free nd) LA (s2.trans s3)⟩⟩
  · exact ⟨_, rfl, iteT (no nt H' (s1.trans s'))⟩
theorem ok_apart (F : Fun K "apart" "Table.apart" sApart f fd) (T : TabM K C fQ fI fPl fPr) (Ck : Chk K mg aF aL aO aK aA aB) (FD : Fun K "_dict_of" "Table._dict_of" sDictOf fD fdD) (mD : Meth K C "_dict_of" fD) (gZ : mg "zip" = none) : FnOk P w K mg base CX0 5 f fd ["self", "known", "asked"] (spApart K C) := by
  obtain ⟨fdB, FB⟩ := Ck.CB
  have GB := ok_ckB (P := P) (w := w) (base := base) Ck FB
  have bB := FB.binds (ps := ["names", "known", "asked"]) fun _ _ _ _ _ _ us hl => match us, hl with | [_, _, _], _ => rfl
  obtain ⟨fdL, FL⟩ := T.L
  obtain ⟨fdR, FR⟩ := T.R
  have GR := ok_parting (P := P) (w := w) (mg := mg) (base := base) FR FL T.mL T.toTabC Ck.nT
  have bR := FR.binds (ps := ["self", "known", "asked"]) fun _ _ _ _ _ _ us hl => match us, hl with | [_, _, _], _ => rfl
  have GD : FnOk P w K mg base CX0 1 fD fdD ["self", "row"] (spDictOf C) := ok_dictOf FD T.toTabC gZ
  have bD := FD.binds (ps := ["self", "row"]) fun _ _ _ _ _ _ us hl => match us, hl with | [_, _], _ => rfl
  refine F.ok scApart (fun vs H Q E h => by obtain ⟨a, b, ns, known, x, tbl, e, _⟩ := h; rw [e]; rfl) fun cdv A outer s H vs Q E hr hsp => ?_
  obtain ⟨a, b, ns, known, x, tbl, rfl, ask, xin, yes, no⟩ := hsp
  have nd := scApart.nd
  refine ⟨_, pss_cons (ps_expr (pe_call GB hr rfl Ck.gCB FB.kp bB .nil pass0 (pa_cons (pe_fld (pv 0) rfl) (pa_cons (pv 1) (pa_cons (pv 2) pa_nil)))))
    (pss_cons (ps_set (i := 3) nd rfl (Or.inl rfl) (pe_meth (pv 0) T.cl T.mR GR (hr.mono (by decide)) bR .nil pass0 (pa_cons (pv 1) (pa_cons (pv 2) pa_nil))))
    (pss_cons (ps_if (pt_cmp (pc_isN (pv 3))) (pss_one (ps_ret pe_non)) pss_nil)
    (pss_one (ps_ret (pe_tup (pa_cons (pe_meth (pv 0) T.cl mD GD (hr.mono (by decide)) bD .nil pass0 (pa_cons (pe_ix (r := rIxT K) ix_tup (pv 3) pe_int (fun _ _ => rfl)) pa_nil)) (pa_cons (pe_meth (pv 0) T.cl mD GD (hr.mono (by decide)) bD .nil pass0 (pa_cons (pe_ix (r := rIxT K) ix_tup (pv 3) pe_int (fun _ _ => rfl)) pa_nil)) pa_nil))))))), ?_⟩
  obtain ⟨dx, qa, ra, ha, hqa, hra⟩ := ask.t.ex
  refine ⟨_, rfl, _, _, _, _, _, rfl, ha, T.cl, T.nQ, tabF_q _ _, _, rfl, _, rfl, qa, b, ns, known, x, rfl, hqa, ask.k, ask.nd, ask.sub, ask.short, xin, fun H1 s1 => ?_⟩
  refine ⟨_, rfl, a, dx, _, rfl, s1 _ _ ha, rfl, _, rfl, _, rfl, a, b, ns, known, x, tbl, rfl, ask.t.same s1, ask.k.same s1, ask.sub, ask.short, xin, ask.s2, fun tl H' s' => ?_, fun nt H2 t p q u v nt0 ot hu hv op oq ek ea s' => ?_⟩
  · exact ⟨_, rfl, _, rfl, iteT (yes tl H' (s1.trans s'))⟩
  · have s2 := s1.trans s'
    have lu := hra.row_len u hu
    have lv := hra.row_len v hv
    refine ⟨_, rfl, _, rfl, iteF ?_⟩
    refine ⟨_, rfl, a, dx, _, rfl, s2 _ _ ha, rfl, _, rfl, t, _, (0 : Int), _, rfl, rfl, SqT.of ot, rfl, a, p, ns, tbl, u, rfl, ask.t.same s2, ask.ndn, ask.s1, op, lu, fun H3 d1 nd1 od1 s3 => ?_⟩
    have s23 := s2.trans s3
    refine ⟨_, rfl, a, dx, _, rfl, s23 _ _ ha, rfl, _, rfl, t, _, (1 : Int), _, rfl, rfl, SqT.of (s3 _ _ ot), rfl, a, q, ns, tbl, v, rfl, ask.t.same s23, ask.ndn, ask.s1, s3 _ _ oq, lv, fun H4 d2 nd2 od2 s4 => ?_⟩
    refine ⟨(by show 2 ≤ sizeLine; decide), fun tt ntt => ?_⟩
    have st := same_new (o := .tup [.ref d1, .ref d2]) ntt
    have s24 := s23.trans s4
    exact no nt _ tt d1 d2 u v (s24.free ntt) ⟨upd_same, st _ _ (s4 _ _ od1), st _ _ od2, hu, hv, lu, lv, ek, ea⟩ (s24.trans st)
end
end L2.TB
/-! is_plan -/
namespace L2.TB
open PySem PySem.Spec PyProof.Rows MK
section
variable {X : Cx} {w : World} {o i : Expr} {pos : Pos} {td ty : TE}
theorem pe_dgetXw (hw : X.w = w) (hu : X.A.in1.units + 8 < cLine) (ho : PE X o td) (hi : PE X i ty) (hs : NoSl i) : PE X (.Subscript o i pos) (MK.tDGetX w td ty) := hw ▸ MK.pe_dgetX hu ho hi hs
theorem call_lenXw (hw : X.w = w) : CallR X (.builtin "len") (fun xs H Q => ∃ (d : Addr) (es : List En), xs = [.ref d] ∧ Rd H d (DE w d es) ∧ Q (.int es.length) H) := by
  subst hw
  rintro pins s σ H xs us Q I r ⟨d, es, e, rd, q⟩
  exact call_lenX pins s σ H xs us Q I r ⟨d, _, _, e, rd, by rw [List.length_map]; exact q⟩
theorem pi_keysXw {tg e : Expr} (hw : X.w = w) (he : PE X e td) : PI X tg e (iKeysX w td) := hw ▸ pi_keysX he
end
theorem ty_same {K : PySem.W.Frag} {H H' : Hp} {v : V} {t : String} (h : TyX K H v (.type t)) (s : Same H H') : TyX K H' v (.type t) := by
  generalize e : Value.type t = u at h
  cases h with
  | base b =>
    refine .base ?_
    cases b with
    | non => exact .non
    | bl x => exact .bl x
    | int i => exact .int i
    | str x => exact .str x
    | flt x => exact .flt x
    | lst q => exact .lst (s _ _ q)
    | frz q => exact .frz (s _ _ q)
    | tup q => exact .tup (s _ _ q)
    | dK q => exact .dK (s _ _ q)
    | dT q => exact .dT (s _ _ q)
    | ins q => cases e
  | byt b => exact .byt b
  | set q => exact .set (s _ _ q)
  | kList q c => exact .kList q c
  | kTuple q c => exact .kTuple q c
  | kDict q c => exact .kDict q c
  | fTuple q => exact .fTuple (s _ _ q)
  | fDict q => exact .fDict (s _ _ q)
/-- what may be looked at as a plan -/
inductive PlTh (w : World) (K : PySem.W.Frag) (H : Hp) : V → Option (List En × List (Bool × Bool)) → Prop
  | odd {v : V} {t : String} (ty : TyX K H v (.type t)) (k : kitB t "dict" = some false) : PlTh w K H v none
  | dict {d : Addr} {es : List En} {ms : List (Bool × Bool)} (o : H d = some (DE w d es)) (m : MixE H es) (p : Paired (fun (e : En) (m : Bool × Bool) => Ky H e.2.1 m.1 ∧ Pn e.2.2 m.2) es ms) (sh : es.length < 1000) : PlTh w K H (.ref d) (some (es, ms))
def goodE (L : Lot) (e : En) (m : Bool × Bool) : Bool := m.1 && ((valN L e.1).isSome && (m.2 && decide (some e.2.2 = valN L e.1)))
def planB (L : Lot) (o : Option (List En × List (Bool × Bool))) : Bool := match o with
  | some p => decide (p.1.length = L.length) && (p.1.zip p.2).all fun q => goodE L q.1 q.2
  | none => false
theorem planB_some (L : Lot) (es : List En) (ms : List (Bool × Bool)) : planB L (some (es, ms)) = (decide (es.length = L.length) && (es.zip ms).all fun q => goodE L q.1 q.2) := rfl
theorem valN_int {L : Lot} {k : NestedKey} {r : V} (h : valN L k = some r) : ∃ n, r = .int n := by
  unfold valN at h
  obtain ⟨p, _, e⟩ := Option.map_eq_some_iff.mp h
  exact ⟨p.2, e.symm⟩
theorem dec_some (v : V) (n : Int) : decide (v = V.int n) = decide (some v = some (V.int n)) := by
  by_cases h : v = .int n
  · rw [h]; simp
  · rw [decide_eq_false h, decide_eq_false (fun z => h (Option.some.inj z))]
def spIsPlan (w : World) (K : PySem.W.Frag) (C : Addr) : Sp := fun vs H Q _ => ∃ (a b : Addr) (ns known : List Str) (x : Str) (tbl : List (List Int)) (v : V) (o : Option (List En × List (Bool × Bool))), vs = [.ref a, .ref b, .str x, v] ∧ Asked K H C a b ns known tbl ∧ x ∈ ns ∧ PlTh w K H v o ∧
  ∀ H', Same H H' → Q (.bl (decide (Tells ns tbl known x) && planB (lotOf ns known x tbl) o)) H'
abbrev NIp : List Str := ["self", "known", "asked", "thing", "right", "key"]
theorem scIsPlan : FnScope NIp ["self", "known", "asked", "thing"] (defScope sIsPlan) := ⟨rfl, rfl, rfl, by decide +kernel, rfl, by decide +kernel, by decide +kernel⟩
section
variable {P : Program} {w : World} {K : PySem.W.Frag} {mg : Str → Option Value} {base : Heap} {f C fQ fI fPl fPr fO fA fG aF aL aO aK aA aB : Addr} {fd fdO fdA fdG : FuncData}
theorem ok_isPlan (F : Fun K "is_plan" "Table.is_plan" sIsPlan f fd) (T : TabM K C fQ fI fPl fPr) (Ck : Chk K mg aF aL aO aK aA aB) (FO : Fun K "_plan_of" "Table._plan_of" sPlanOf fO fdO) (mO : Meth K C "_plan_of" fO)
    (FA : Fun K "_are_integers" "_are_integers" sAreInts fA fdA) (gA : mg "_are_integers" = some (.ref fA)) (GA : FnOk P w K mg base CX0 2 fA fdA ["thing"] spAreIntsX) (FG : Fun K "is_integer" "is_integer" sIsInt fG fdG) (gG : mg "is_integer" = some (.ref fG)) (GG : FnOk P w K mg base CX0 1 fG fdG ["thing"] spIsIntP)
    (nI : mg "isinstance" = none) (nD : mg "dict" = none) (nN : mg "len" = none) (nA : mg "all" = none) : FnOk P w K mg base CX0 5 f fd ["self", "known", "asked", "thing"] (spIsPlan w K C) := by
  obtain ⟨fdB, FB⟩ := Ck.CB
  have GB := ok_ckB (P := P) (w := w) (base := base) Ck FB
  have bB := FB.binds (ps := ["names", "known", "asked"]) fun _ _ _ _ _ _ us hl => match us, hl with | [_, _, _], _ => rfl
  obtain ⟨fdL, FL⟩ := T.L
  obtain ⟨fdR, FR⟩ := T.R
  have GR := ok_parting (P := P) (w := w) (mg := mg) (base := base) FR FL T.mL T.toTabC Ck.nT
  have bR := FR.binds (ps := ["self", "known", "asked"]) fun _ _ _ _ _ _ us hl => match us, hl with | [_, _, _], _ => rfl
  have GO := ok_planOf (P := P) (w := w) (mg := mg) (base := base) FO FL T.mL T.toTabC Ck.nT
  have bO := FO.binds (ps := ["self", "known", "asked"]) fun _ _ _ _ _ _ us hl => match us, hl with | [_, _, _], _ => rfl
  have bA := FA.binds (ps := ["thing"]) fun _ _ _ _ _ _ us hl => match us, hl with | [_], _ => rfl
  have bG := FG.binds (ps := ["thing"]) fun _ _ _ _ _ _ us hl => match us, hl with | [_], _ => rfl
  refine F.ok scIsPlan (fun vs H Q E h => by obtain ⟨a, b, ns, known, x, tbl, v, o, e, _⟩ := h; rw [e]; rfl) fun cdv A outer s H vs Q E hr hsp => ?_
  obtain ⟨a, b, ns, known, x, tbl, v, o, rfl, ask, xin, PT, hq⟩ := hsp
  have nd := scIsPlan.nd
  have hu := hu_in hr
  refine ⟨_, pss_cons (ps_expr (pe_call GB hr rfl Ck.gCB FB.kp bB .nil pass0 (pa_cons (pe_fld (pv 0) rfl) (pa_cons (pv 1) (pa_cons (pv 2) pa_nil)))))
    (pss_cons (ps_if (PW.pt (pw_or (pt_cmp (pc_notN (pe_meth (pv 0) T.cl T.mR GR (hr.mono (by decide)) bR .nil pass0 (pa_cons (pv 1) (pa_cons (pv 2) pa_nil)))))
        (pw_or1 (pt_not (pt_val (pe_or (pe_callB (r := rIsi K) call_isi rfl nI boot_isi (pa_cons (pv 3) (pa_cons (pe_bltn (v := .ty "dict") rfl nD boot_dict' rfl) pa_nil))) (pe_callB call_isiD rfl nI boot_isi (pa_cons (pv 3) (pa_cons (pe_bltn (v := .ty "dict") rfl nD boot_dict' rfl) pa_nil))))))))) (pss_one (ps_ret pe_bl)) pss_nil)
    (pss_cons (ps_set (i := 4) nd rfl (Or.inr rfl) (pe_meth (pv 0) T.cl mO GO (hr.mono (by decide)) bO .nil pass0 (pa_cons (pv 1) (pa_cons (pv 2) pa_nil))))
    (pss_cons (ps_if (pt_cmpR op_ne (pe_callB (call_lenXw rfl) rfl nN boot_len (pa_cons (pv 3) pa_nil)) (pe_callB (call_lenXw rfl) rfl nN boot_len (pa_cons (pv 4) pa_nil)) (nomark _)) (pss_one (ps_ret pe_bl)) pss_nil)
    (pss_one (ps_ret (pe_callB (cr_all rfl) rfl nA boot_all' (pa_cons (pe_lock (pe_lc (own := [("key", 5)]) (tt := tYes) rfl nd (pi_keysXw rfl (pv 3)) (blkOk_by (N := NIp) (sc := defScope sIsPlan) (by decide +kernel)) (fun _ _ _ _ _ => pg_name (i := 5) nd rfl (Or.inl rfl)) (fun _ _ _ _ _ => pts_nil)
      (fun _ _ _ _ _ => pe_and (pe_call GA (hr.mono (by decide)) rfl gA FA.kp bA .nil pass0 (pa_cons (pv 5) pa_nil)) (pe_and (pe_cmp (pc_dinX rfl hu (pv 5) (pv 4))) (pe_and (pe_call GG (hr.mono (by decide)) rfl gG FG.kp bG .nil pass0 (pa_cons (pe_dgetXw rfl hu (pv 3) (pv 5) (fun _ _ => rfl)) pa_nil))
        (pe_one (pe_cmpR op_eq (pe_dgetXw rfl hu (pv 3) (pv 5) (fun _ _ => rfl)) (pe_dgetXw rfl hu (pv 4) (pv 5) (fun _ _ => rfl)) (nomark _)))))))) pa_nil))))))), ?_⟩
  obtain ⟨dx, qa, ra, ha, hqa, hra⟩ := ask.t.ex
  refine ⟨_, rfl, _, _, _, _, _, rfl, ha, T.cl, T.nQ, tabF_q _ _, _, rfl, _, rfl, qa, b, ns, known, x, rfl, hqa, ask.k, ask.nd, ask.sub, ask.short, xin, fun H1 s1 => ?_⟩
  refine ⟨_, rfl, a, dx, _, rfl, s1 _ _ ha, rfl, _, rfl, _, rfl, a, b, ns, known, x, tbl, rfl, ask.t.same s1, ask.k.same s1, ask.sub, ask.short, xin, ask.s2, fun tl H2 s' => ?_, fun nt H' t p q u v _ _ _ _ _ _ _ _ s' => ?_⟩
  rotate_left
  · have z := hq H' (s1.trans s')
    rw [decide_eq_false nt, Bool.false_and] at z
    exact ⟨_, rfl, iteT z⟩
  have s2 := s1.trans s'
  rw [decide_eq_true tl, Bool.true_and] at hq
  cases PT with
  | odd ty k => exact ⟨_, rfl, iteF (.inl ⟨_, rfl, _, _, _, _, false, rfl, .ty _, ty_same ty s2, kit_ty k, _, rfl, iteT (hq H2 s2)⟩)⟩
  | @dict d es ms o m p sh =>
    refine ⟨_, rfl, iteF (.inr ⟨_, rfl, _, _, _, _, _, true, rfl, .ty _, .inl (s2 _ _ o), kit_ty (by decide +kernel), _, rfl, iteF ?_⟩)⟩
    refine ⟨_, rfl, a, dx, _, rfl, s2 _ _ ha, rfl, _, rfl, _, rfl, a, b, ns, known, x, tbl, rfl, ask.t.same s2, ask.k.same s2, ask.sub, ask.short, xin, ask.s2, fun H3 d2 rs nd2 LA s3 => ?_⟩
    have s03 := s2.trans s3
    have lr : rs.length = (lotOf ns known x tbl).length := Paired.length LA.e
    have mx2 := LA.e.mix (lot_nd (ns := ns) (known := known) (x := x) tbl)
    have lp : es.length = ms.length := Paired.length p
    have o3 := s03 _ _ o
    refine ⟨_, rfl, d, es, rfl, .inl o3, _, rfl, d2, rs, rfl, .inl LA.o, rfl, _, rfl, ?_⟩
    rw [dec_int2]
    by_cases le : (es.length : Int) = rs.length
    · rw [decide_eq_true le]
      refine iteF ?_
      have le2 : es.length = (lotOf ns known x tbl).length := by omega
      have dd : d ≠ d2 := fun z => by rw [← z, s2 _ _ o] at nd2; cases nd2
      have tk0 : ∀ a vs, H a = some (.tup vs) → H3 a = some (.tup vs) := fun a vs e => s03 _ _ e
      refine ⟨d, _, o3, trivial, fun od => ⟨_, rfl, d, od, _, _, rfl, upd_same, lc_gen ((es.zip ms).map fun q => V.bl (goodE (lotOf ns known x tbl) q.1 q.2)) (by rw [List.length_map, List.length_zip]; omega) (fun i H' k lt => ⟨k _ _ upd_same, by rw [List.length_map, List.length_zip] at lt; rw [List.length_map]; omega⟩) (fun H' k => ⟨k _ _ upd_same, by rw [List.length_map, List.length_map, List.length_zip]; omega⟩) ?_ ?_⟩⟩
      · rintro i y z H4 H5 Cn Nn ez s4 ⟨rfl, v, ev⟩ yes
        have tk : ∀ H9, Same (upd H3 d (.frz od (DE w d es))) H9 → ∀ a vs, H3 a = some (.tup vs) → H9 a = some (.tup vs) := fun H9 s9 a vs e => s9 _ _ (by
          have ne : a ≠ d := fun z => by rw [z, o3] at e; cases e
          rw [upd_ne ne]; exact e)
        rw [List.getElem?_map] at ev ez
        obtain ⟨e, ee, e12⟩ := Option.map_eq_some_iff.mp ev
        obtain ⟨mm, em, ky, pn⟩ := paired_get p ee
        rw [List.getElem?_zip_eq_some.mpr (show es[i]? = some (e, mm).1 ∧ ms[i]? = some (e, mm).2 from ⟨ee, em⟩)] at ez
        obtain rfl : V.bl (goodE (lotOf ns known x tbl) e mm) = z := Option.some.inj ez
        obtain rfl : e.2.1 = y := congrArg Prod.fst e12
        have kh := m.is_ i e.1 e.2 (by rw [List.getElem?_map, ee]; rfl) (by rw [List.getElem?_map, ee]; rfl)
        have ek : (es.map (·.1))[i]? = some e.1 := by rw [List.getElem?_map, ee]; rfl
        have dp : e.1.depth ≤ 8 := m.dp _ (List.mem_of_getElem? ek)
        have t4 := tk _ s4
        refine ⟨rfl, ?_⟩
        refine ⟨_, rfl, _, mm.1, rfl, (ky.mono tk0).mono t4, fun H6 s6 => ⟨mm.1, rfl, ?_⟩⟩
        have s46 := s4.trans s6
        have t6 := tk _ s46
        have rd6 : Rd H6 d (DE w d es) := .inr ⟨od, s46 _ _ upd_same⟩
        have rd2 : Rd H6 d2 (DE w d2 rs) := .inl (s46 _ _ (by rw [upd_ne (Ne.symm dd)]; exact LA.o))
        have mxd : MixE H6 es := (m.mono tk0).mono t6
        have mx6 : MixE H6 rs := mx2.mono t6
        have kh6 : KeyH H6 e.1 e.2.1 := (kh.mono tk0).mono t6
        have yes6 := yes
        unfold goodE at yes
        cases e1 : mm.1 with
        | false =>
          rw [e1, Bool.false_and] at yes
          exact iteF (yes H6 s6)
        | true =>
          rw [e1, Bool.true_and] at yes
          refine iteT ⟨_, rfl, _, rfl, d2, rs, e.1, rfl, rd2, mx6, kh6, dp, _, rfl, ?_⟩
          rw [Bool.false_xor, LA.e.val]
          cases e2 : valN (lotOf ns known x tbl) e.1 with
          | none =>
            rw [e2] at yes
            exact iteF (yes H6 s6)
          | some r =>
            rw [e2] at yes
            refine iteT ⟨_, rfl, _, rfl, d, _, _, e.1, i, e.2, rfl, rd6, mxd, kh6, ek, (by rw [List.getElem?_map, ee]; rfl), _, mm.2, rfl, pn, mm.2, rfl, ?_⟩
            cases e3 : mm.2 with
            | false =>
              rw [e3] at yes
              exact iteF (yes H6 s6)
            | true =>
              rw [e3] at yes pn
              obtain ⟨n, rfl⟩ := valN_int e2
              obtain ⟨k2, e4⟩ : ∃ k, e.2.2 = V.int k := by
                generalize e.2.2 = v at pn
                cases pn with
                | int k => exact ⟨k, rfl⟩
              obtain ⟨j, e', ej, ek', ev'⟩ := valE_in ((LA.e.val e.1).trans e2)
              refine iteT ⟨_, rfl, _, rfl, d, _, _, e.1, i, e.2, rfl, rd6, mxd, kh6, ek, (by rw [List.getElem?_map, ee]; rfl), _, rfl, _, rfl, d2, _, _, e.1, j, e'.2, rfl, rd2, mx6, kh6, (by rw [List.getElem?_map, ej, ← ek']; rfl), (by rw [List.getElem?_map, ej]; rfl), ?_⟩
              rw [ev', e4]
              rw [e4, ← dec_some] at yes
              exact ⟨rfl, yes H6 s6⟩
      · intro H4 D nD oD s4
        obtain ⟨b1, s34⟩ := lock_off o3 s4
        have Dd : D ≠ d := fun z => by rw [z, upd_same] at nD; cases nD
        have e : ((es.zip ms).map fun q => V.bl (goodE (lotOf ns known x tbl) q.1 q.2)) = ((es.zip ms).map fun q => goodE (lotOf ns known x tbl) q.1 q.2).map V.bl := by rw [List.map_map]; rfl
        rw [e] at oD
        refine ⟨b1, D, _, rfl, SqL.of (by rw [upd_ne Dd]; exact oD), ?_⟩
        have z := hq _ (s03.trans s34)
        rw [planB_some, decide_eq_true le2, Bool.true_and] at z
        rw [List.all_map]
        exact z
    · rw [decide_eq_false le]
      have z := hq H3 s03
      have e : planB (lotOf ns known x tbl) (some (es, ms)) = false := by
        rw [planB_some, decide_eq_false (by omega), Bool.false_and]
      rw [e] at z
      exact iteT z
end
end L2.TB
/-! found -/
namespace L2.TB
open PySem PySem.Spec PyProof.Rows MK
theorem ens_good {w : World} {K : PySem.W.Frag} {H : Hp} {L0 : Lot} (nd0 : (L0.map (·.1)).Nodup) : ∀ {es : List En} {L : Lot}, Paired (PairL H) es L → (∀ p ∈ L, p ∈ L0 ∧ p.1.length < 1000) → Paired (fun (e : En) (m : Bool × Bool) => Ky H e.2.1 m.1 ∧ Pn e.2.2 m.2) es (List.replicate es.length (true, true)) ∧ ((es.zip (List.replicate es.length (true, true))).all fun q => goodE L0 q.1 q.2) = true
  | _, _, .nil, _ => ⟨.nil, rfl⟩
  | _, _, @Paired.cons _ _ _ e p es L h t, sub => by
    obtain ⟨h1, h2⟩ := ens_good (w := w) (K := K) nd0 t fun p hp => sub p (List.mem_cons_of_mem _ hp)
    obtain ⟨s1, s2⟩ := sub p List.mem_cons_self
    rw [List.length_cons, List.replicate_succ, List.zip_cons_cons, List.all_cons]
    obtain ⟨tt, et, ot⟩ := h.t
    refine ⟨.cons ⟨et ▸ ky_ints ot s2, h.v ▸ .int _⟩ h1, ?_⟩
    rw [h2, Bool.and_true]
    show goodE L0 e (true, true) = true
    unfold goodE
    rw [h.k, valN_at nd0 s1, h.v]
    simp
theorem lot_plan {w : World} {K : PySem.W.Frag} {H : Hp} {d : Addr} {es : List En} {L : Lot} (LA : LotAt w H d es L) (nd : (L.map (·.1)).Nodup) (sh : ∀ p ∈ L, p.1.length < 1000) (few : L.length < 1000) :
    PlTh w K H (.ref d) (some (es, List.replicate es.length (true, true))) ∧ planB L (some (es, List.replicate es.length (true, true))) = true := by
  have le : es.length = L.length := Paired.length LA.e
  obtain ⟨h1, h2⟩ := ens_good (w := w) (K := K) nd LA.e fun p hp => ⟨hp, sh p hp⟩
  refine ⟨.dict LA.o (LA.e.mix nd) h1 (by omega), ?_⟩
  rw [planB_some, h2, decide_eq_true le]
  rfl
theorem lot_short {ns known : List Str} {x : Str} {tbl : List (List Int)} (sh : known.length < 1000) : ∀ p ∈ lotOf ns known x tbl, p.1.length < 1000 := fun p hp => by
  obtain ⟨u, _, e, _⟩ := lot_from tbl p hp
  rw [e]
  unfold keyR
  rw [List.length_map]
  exact sh
/-- answers at hand, and more -/
structure GivAt (w : World) (H : Hp) (g : Addr) (gs : List En) (f : Str → Int) (known : List Str) : Prop where
  o : H g = some (DE w g gs)
  m : MixE H gs
  v : ∀ x ∈ known, valE gs (.text x) = some (.int (f x))
theorem GivAt.same {w : World} {H H' : Hp} {g : Addr} {gs : List En} {f : Str → Int} {known : List Str} (h : GivAt w H g gs f known) (s : Same H H') : GivAt w H' g gs f known := ⟨s _ _ h.o, h.m.mono fun _ _ e => s _ _ e, h.v⟩
def spLack (w : World) (K : PySem.W.Frag) : Sp := fun vs H Q _ => ∃ (b g : Addr) (known : List Str) (gs : List En) (f : Str → Int), vs = [.ref b, .ref g] ∧ SqA K H b (known.map V.str) ∧ known.length < 1000 ∧ GivAt w H g gs f known ∧ ∀ H', Same H H' → Q .non H'
def spFound (w : World) (K : PySem.W.Frag) (C : Addr) : Sp := fun vs H Q _ => ∃ (a b d g : Addr) (ns known : List Str) (x : Str) (tbl : List (List Int)) (es gs : List En) (us : List Int), vs = [.ref a, .ref b, .str x, .ref d, .ref g] ∧ Asked K H C a b ns known tbl ∧ x ∈ ns ∧ Tells ns tbl known x ∧
  LotAt w H d es (lotOf ns known x tbl) ∧ us ∈ tbl ∧ GivAt w H g gs (av ns us) known ∧ ∀ H', Same H H' → Q (.int (av ns us x)) H'
abbrev NLk : List Str := ["known", "answers", "name"]
theorem scLack : FnScope NLk ["known", "answers"] (defScope sCkLack) := ⟨rfl, rfl, rfl, by decide +kernel, rfl, by decide +kernel, by decide +kernel⟩
abbrev NFo : List Str := ["self", "known", "asked", "plan", "answers", "key", "name"]
theorem scFound : FnScope NFo ["self", "known", "asked", "plan", "answers"] (defScope sFound) := ⟨rfl, rfl, rfl, by decide +kernel, rfl, by decide +kernel, by decide +kernel⟩
section
variable {P : Program} {w : World} {K : PySem.W.Frag} {mg : Str → Option Value} {base : Heap} {f C fP fA fL : Addr} {fd fdP fdA fdL : FuncData}
theorem ok_lack (F : Fun K "check_lacking" "check_lacking" sCkLack f fd) (nI : mg "isinstance" = none) (nD : mg "dict" = none) (nA : mg "all" = none) : FnOk P w K mg base CX0 1 f fd ["known", "answers"] (spLack w K) := by
  refine F.ok scLack (fun vs H Q E h => by obtain ⟨b, g, known, gs, f, e, _⟩ := h; rw [e]; rfl) fun cdv A outer s H vs Q E hr hsp => ?_
  obtain ⟨b, g, known, gs, ff, rfl, hb, sh, G, hq⟩ := hsp
  have nd := scLack.nd
  have hu := hu_in hr
  refine ⟨_, pss_one (ps_if (PW.pt (pw_or (pt_not (pt_val (pe_callB call_isiD rfl nI boot_isi (pa_cons (pv 1) (pa_cons (pe_bltn (v := .ty "dict") rfl nD boot_dict' rfl) pa_nil)))))
      (pw_or1 (pt_not (pt_val (pe_callB (cr_all rfl) rfl nA boot_all' (pa_cons (pe_lc (own := [("name", 2)]) (tt := tYes) rfl nd (pi_seq (pv 0)) (blkOk_by (N := NLk) (sc := defScope sCkLack) (by decide +kernel)) (fun _ _ _ _ _ => pg_name (i := 2) nd rfl (Or.inl rfl)) (fun _ _ _ _ _ => pts_nil)
        (fun _ _ _ _ _ => pe_cmp (pc_dinX rfl hu (pv 2) (pv 1)))) pa_nil))))))) (pss_one ps_never) pss_nil), ?_⟩
  refine ⟨_, rfl, _, _, _, _, _, true, rfl, .ty _, .inl G.o, kit_ty (by decide +kernel), _, rfl, iteF ?_⟩
  obtain ⟨o, ho, ko⟩ := hb.ho
  refine ⟨_, rfl, lc_seq ko ho (by rw [List.length_map]; omega) (fun _ => true) (fun _ => .bl true) ?_ ?_⟩
  · rintro i v H2 Cn Nn ev s2 yes no
    rw [List.getElem?_map] at ev
    obtain ⟨x, ex, rfl⟩ := Option.map_eq_some_iff.mp ev
    refine ⟨rfl, ?_⟩
    have G2 := G.same s2
    refine ⟨_, rfl, _, rfl, g, gs, .text x, rfl, .inl G2.o, G2.m, .str x, by simp [NestedKey.depth], ?_⟩
    rw [G.v x (List.mem_of_getElem? ex)]
    exact yes rfl H2 (Same.refl _)
  · intro H2 D nD oD s2
    rw [const_map, bools_map] at oD
    refine ⟨D, _, rfl, SqL.of oD, _, rfl, ?_⟩
    rw [all_true]
    exact iteF (hq H2 s2)
theorem ok_found (F : Fun K "found" "Table.found" sFound f fd) (T : TabC K C) (FP : Fun K "is_plan" "Table.is_plan" sIsPlan fP fdP) (mP : Meth K C "is_plan" fP) (GP : FnOk P w K mg base CX0 5 fP fdP ["self", "known", "asked", "thing"] (spIsPlan w K C))
    (FL : Fun K "check_lacking" "check_lacking" sCkLack fL fdL) (gL : mg "check_lacking" = some (.ref fL)) (GL : FnOk P w K mg base CX0 1 fL fdL ["known", "answers"] (spLack w K))
    (FA : Fun K "_are_integers" "_are_integers" sAreInts fA fdA) (gA : mg "_are_integers" = some (.ref fA)) (GA : FnOk P w K mg base CX0 2 fA fdA ["thing"] spAreIntsX) (nT : mg "tuple" = none) : FnOk P w K mg base CX0 6 f fd ["self", "known", "asked", "plan", "answers"] (spFound w K C) := by
  have bP := FP.binds (ps := ["self", "known", "asked", "thing"]) fun _ _ _ _ _ _ us hl => match us, hl with | [_, _, _, _], _ => rfl
  have bL := FL.binds (ps := ["known", "answers"]) fun _ _ _ _ _ _ us hl => match us, hl with | [_, _], _ => rfl
  have bA := FA.binds (ps := ["thing"]) fun _ _ _ _ _ _ us hl => match us, hl with | [_], _ => rfl
  refine F.ok scFound (fun vs H Q E h => by obtain ⟨a, b, d, g, ns, known, x, tbl, es, gs, us, e, _⟩ := h; rw [e]; rfl) fun cdv A outer s H vs Q E hr hsp => ?_
  obtain ⟨a, b, d, g, ns, known, x, tbl, es, gs, us, rfl, ask, xin, tl, LA, uin, G, hq⟩ := hsp
  have nd := scFound.nd
  have hu := hu_in hr
  refine ⟨_, pss_cons (ps_if (pt_not (pt_val (pe_meth (pv 0) T.cl mP GP (hr.mono (by decide)) bP .nil pass0 (pa_cons (pv 1) (pa_cons (pv 2) (pa_cons (pv 3) pa_nil)))))) (pss_one ps_never) pss_nil)
    (pss_cons (ps_expr (pe_call GL (hr.mono (by decide)) rfl gL FL.kp bL .nil pass0 (pa_cons (pv 1) (pa_cons (pv 4) pa_nil))))
    (pss_cons (ps_set (i := 5) nd rfl (Or.inl rfl) (pe_callTy (r := rTupOf K) call_tuple_of rfl nT boot_tuple' (pa_cons (pe_lc (own := [("name", 6)]) (tt := tYes) rfl nd (pi_seq (pv 1)) (blkOk_by (N := NFo) (sc := defScope sFound) (by decide +kernel)) (fun _ _ _ _ _ => pg_name (i := 6) nd rfl (Or.inl rfl)) (fun _ _ _ _ _ => pts_nil)
        (fun _ _ _ _ _ => pe_dgetXw rfl hu (pv 4) (pv 6) (fun _ _ => rfl))) pa_nil)))
    (pss_cons (ps_if (PW.pt (pw_or (pt_not (pt_val (pe_call GA (hr.mono (by decide)) rfl gA FA.kp bA .nil pass0 (pa_cons (pv 5) pa_nil)))) (pw_or1 (pt_cmp (pc_dnotinX rfl hu (pv 5) (pv 3)))))) (pss_one ps_never) pss_nil)
    (pss_one (ps_ret (pe_dgetXw rfl hu (pv 3) (pv 5) (fun _ _ => rfl))))))), ?_⟩
  obtain ⟨dx, qa, ra, ha, hqa, hra⟩ := ask.t.ex
  have few := lot_len (ns := ns) (known := known) (x := x) tbl
  have ss2 := ask.s2
  obtain ⟨pt, pb⟩ := lot_plan (K := K) LA (lot_nd tbl) (lot_short ask.short) (by omega)
  refine ⟨_, rfl, a, dx, _, rfl, ha, rfl, _, rfl, _, rfl, _, rfl, a, b, ns, known, x, tbl, .ref d, _, rfl, ask, xin, pt, fun H1 s1 => ⟨_, rfl, ?_⟩⟩
  rw [pb, decide_eq_true tl]
  refine iteF ?_
  refine ⟨_, rfl, _, rfl, b, g, known, gs, _, rfl, ask.k.same s1, ask.short, G.same s1, fun H2 s2 => ?_⟩
  have s02 := s1.trans s2
  obtain ⟨o, ho, ko⟩ := (ask.k.same s02).ho
  refine ⟨_, rfl, lc_seq ko ho (by rw [List.length_map]; have := ask.short; omega) (fun _ => true) (fun v => match v with | .str y => .int (av ns us y) | _ => .non) ?_ ?_⟩
  · rintro i v H3 Cn Nn ev s3 yes no
    rw [List.getElem?_map] at ev
    obtain ⟨y, ey, rfl⟩ := Option.map_eq_some_iff.mp ev
    refine ⟨rfl, ?_⟩
    have G3 := G.same (s02.trans s3)
    obtain ⟨j, e', ej, ek', ev'⟩ := valE_in (G.v y (List.mem_of_getElem? ey))
    refine ⟨_, rfl, _, rfl, g, _, _, .text y, j, e'.2, rfl, .inl G3.o, G3.m, .str y, (by rw [List.getElem?_map, ej, ← ek']; rfl), (by rw [List.getElem?_map, ej]; rfl), ?_⟩
    rw [ev']
    exact yes rfl H3 (Same.refl _)
  · intro H3 l nl ol s3
    have ekey : ((known.map V.str).filter fun _ => true).map (fun v => match v with | .str y => V.int (av ns us y) | _ => .non) = (keyR ns known us).map V.int := by
      rw [List.filter_eq_self.mpr (fun _ _ => rfl), List.map_map]
      unfold keyR
      rw [List.map_map]
      rfl
    rw [ekey] at ol
    refine ⟨l, _, rfl, .inl ⟨SqL.of ol, fun t nt => ?_⟩⟩
    have st := same_new (o := .tup ((keyR ns known us).map V.int)) nt
    have ot : upd H3 t (.tup ((keyR ns known us).map V.int)) t = some (.tup ((keyR ns known us).map V.int)) := upd_same
    have s04 := (s02.trans s3).trans st
    generalize upd H3 t (.tup ((keyR ns known us).map V.int)) = H4 at ot s04
    have kl : (keyR ns known us).length < 1000 := by unfold keyR; rw [List.length_map]; exact ask.short
    refine ⟨_, rfl, .ref t, true, rfl, ky_ints ot kl, fun H5 s5 => ⟨_, rfl, iteF ?_⟩⟩
    have s05 := s04.trans s5
    have L5 := LA.same s05
    have mx5 := L5.e.mix (lot_nd (ns := ns) (known := known) (x := x) tbl)
    have kh5 : KeyH H5 (keyN (keyR ns known us)) (.ref t) := keyH_ints (s5 _ _ ot)
    have vv := (L5.e.val (keyN (keyR ns known us))).trans (valN_at (lot_nd tbl) (lot_has tl uin))
    refine ⟨_, rfl, _, rfl, d, es, keyN (keyR ns known us), rfl, .inl L5.o, mx5, kh5, keyN_depth _, ?_⟩
    rw [vv]
    refine ⟨_, rfl, iteF ?_⟩
    obtain ⟨j, e', ej, ek', ev'⟩ := valE_in vv
    refine ⟨_, rfl, _, rfl, d, _, _, keyN (keyR ns known us), j, e'.2, rfl, .inl L5.o, mx5, kh5, (by rw [List.getElem?_map, ej, ← ek']; rfl), (by rw [List.getElem?_map, ej]; rfl), ?_⟩
    rw [ev']
    exact hq H5 s05
end
end L2.TB
/-! comprehensions whose turns make things anew (from k00's texts) -/
namespace L2.TB
open PySem PySem.Spec PyProof.Rows
theorem pairs_lc {J : It} {g : TG} {tt : TT} {te : TE} {vs : List Nat} {σ : St} {H1 : Hp} {Q : Addr → Hp → Prop} (kvs : List (Key × V)) (short : kvs.length < 1000) (go : ∀ i H, Same H1 H → i < kvs.length → J.go i H) (stop : ∀ H, Same H1 H → J.stop kvs.length H)
    (turn : ∀ (i : Nat) (v : V) (k : Key) (x : V) (H H' : Hp) (C : V → Hp → Prop) (N : Hp → Prop), kvs[i]? = some (k, x) → Same H1 H → J.yld i H v H' → (∀ t H4, H4 t = some (.tup [kV k, x]) → Same H H4 → C (.ref t) H4) → g v (wipe σ vs) H' fun σ2 H2 => wipe σ2 vs = wipe σ vs ∧ tt σ2 H2 fun b H3 => if b = true then te σ2 H3 C else N H3)
    (fin : ∀ H D ps, H1 D = none → H D = some (.lst ((ps : List Addr).map V.ref)) → Paired (fun p (kv : Key × V) => H p = some (.tup [kV kv.1, kv.2])) ps kvs → Same H1 H → Q D H) : LcW J g tt te vs σ H1 Q := by
  refine lc_made kvs.length (by omega) go stop (fun i y H' => ∃ t k x, y = V.ref t ∧ kvs[i]? = some (k, x) ∧ H' t = some (.tup [kV k, x])) ?_ ?_ ?_
  · rintro i y H2 H3 D l ⟨t, k, x, rfl, ex, ot⟩ oD keep
    exact ⟨t, k, x, rfl, ex, keep _ _ (ne_of ot oD (by intro z; cases z)) ot⟩
  · intro i v H2 H3 C N lt s2 yl yes
    exact turn i v kvs[i].1 kvs[i].2 H2 H3 C N (List.getElem?_eq_getElem lt) s2 yl fun t H4 ot s4 => yes _ _ ⟨t, _, _, rfl, List.getElem?_eq_getElem lt, ot⟩ s4
  · intro H2 D ys nD oD ly ry s2
    obtain ⟨ps, rfl, pa⟩ := addrs_of (H := H2) (P := fun i t => ∃ k x, kvs[i]? = some (k, x) ∧ H2 t = some (.tup [kV k, x])) ys 0 fun j y e => by
      obtain ⟨t, k, x, e1, e2, e3⟩ := ry j y e
      exact ⟨t, e1, k, x, by simpa using e2, e3⟩
    refine fin H2 D ps nD oD (paired_of ps _ (by rw [← ly, List.length_map]) fun i t kv et ekv => ?_) s2
    obtain ⟨k, x, e2, e3⟩ := pa i t et
    rw [Nat.zero_add, ekv] at e2
    cases e2
    exact e3
end L2.TB
/-! is_list, is_one_of, first_bad of things of any kind -/
namespace L2.TB
open PySem PySem.Spec PyProof.Rows
/-- a thing that is no text -/
def NoStr (K : PySem.W.Frag) (H : Hp) (v : V) : Prop := ∃ t : String, TyX K H v (.type t) ∧ kitB t "str" = some false
/-- a thing that is neither a list nor a tuple -/
def NoSeq (K : PySem.W.Frag) (H : Hp) (v : V) : Prop := ∃ t : String, TyX K H v (.type t) ∧ kitB t "list" = some false ∧ kitB t "tuple" = some false
/-- what needs no heap to be told -/
inductive Atom : V → Prop
  | str (x : Str) : Atom (.str x)
  | int (i : Int) : Atom (.int i)
  | bl (b : Bool) : Atom (.bl b)
  | non : Atom .non
def strOf : V → Option Str
  | .str x => some x
  | _ => none
theorem strOf_none {v : V} (h : strOf v = none) (a : Atom v) (K : PySem.W.Frag) (H : Hp) : NoStr K H v := by
  cases a with
  | str x => cases h
  | int i => exact ⟨_, .base (.int i), by decide +kernel⟩
  | bl b => exact ⟨_, .base (.bl b), by decide +kernel⟩
  | non => exact ⟨_, .base .non, by decide +kernel⟩
theorem strOf_some {v : V} {x : Str} (h : strOf v = some x) : v = .str x := by
  cases v <;> first | (cases h; rfl) | cases h
theorem NoStr.same {K : PySem.W.Frag} {H H' : Hp} {v : V} (h : NoStr K H v) (s : Same H H') : NoStr K H' v := let ⟨t, a, b⟩ := h; ⟨t, ty_same a s, b⟩
theorem NoSeq.same {K : PySem.W.Frag} {H H' : Hp} {v : V} (h : NoSeq K H v) (s : Same H H') : NoSeq K H' v := let ⟨t, a, b⟩ := h; ⟨t, ty_same a s, b⟩
/-- the first place at which a thing is no name or stood before -/
def badAt (ns : List Str) : List V → List Str → Nat → Option Nat
  | [], _, _ => none
  | v :: r, seen, i => match strOf v with
    | some x => if x ∈ ns ∧ x ∉ seen then badAt ns r (seen ++ [x]) (i + 1) else some i
    | none => some i
def optV : Option Nat → V
  | none => .non
  | some i => .int (i : Nat)
def spIsListG (K : PySem.W.Frag) : Sp := fun vs H Q _ => ∃ v : V, vs = [v] ∧ (((∃ a xs, v = .ref a ∧ SqA K H a xs) ∧ ∀ H', Same H H' → Q (.bl true) H') ∨ (NoSeq K H v ∧ ∀ H', Same H H' → Q (.bl false) H'))
def spIsOneG (K : PySem.W.Frag) : Sp := fun vs H Q _ => ∃ (c : Addr) (ns : List Str) (v : V), vs = [.ref c, v] ∧ SqL K H c (ns.map V.str) ∧ ((∃ x, v = .str x ∧ Q (.bl (decide (x ∈ ns))) H) ∨ (NoStr K H v ∧ Q (.bl false) H))
/-- what first_bad says of v -/
inductive Bad (K : PySem.W.Frag) (H : Hp) (ns : List Str) : V → Option Nat → Prop
  | no {v : V} (h : NoSeq K H v) : Bad K H ns v (some 0)
  | seq {a : Addr} {xs : List V} (h : SqA K H a xs) (at_ : ∀ x ∈ xs, strOf x = none → NoStr K H x) (short : xs.length < 1000) : Bad K H ns (.ref a) (badAt ns xs [] 0)
theorem Bad.same {K : PySem.W.Frag} {H H' : Hp} {ns : List Str} {v : V} {r : Option Nat} (h : Bad K H ns v r) (s : Same H H') : Bad K H' ns v r := by
  cases h with
  | no h => exact .no (h.same s)
  | seq h a l => exact .seq (h.same s) (fun x hx e => (a x hx e).same s) l
def spFirstG (K : PySem.W.Frag) : Sp := fun vs H Q _ => ∃ (c : Addr) (ns : List Str) (v : V) (r : Option Nat), vs = [.ref c, v] ∧ H c = some (.lst (ns.map V.str)) ∧ Bad K H ns v r ∧ ∀ H', Same H H' → Q (optV r) H'
theorem kit_two_n {K : PySem.W.Frag} {t : String} (h1 : kitB t "list" = some false) (h2 : kitB t "tuple" = some false) : PySem.W.kitAny K (.type t) [.type "list", .type "tuple"] = some false :=
  kitAny_cons (b := false) (kit_ty h1) (fun _ => kitAny_cons (b := false) (kit_ty h2) (fun _ => kitAny_nil) (fun z => by cases z)) (fun z => by cases z)
section
variable {P : Program} {w : World} {K : PySem.W.Frag} {mg : Str → Option Value} {base : Heap} {f fL fO : Addr} {fd fdL fdO : FuncData}
theorem ok_isListG (F : Fun K "is_list" "is_list" sIsList f fd) (gI : mg "isinstance" = none) (gL : mg "list" = none) (gT : mg "tuple" = none) : FnOk P w K mg base CX0 1 f fd ["thing"] (spIsListG K) := by
  refine F.ok scIsList (fun vs H Q E h => by obtain ⟨a, e, _⟩ := h; rw [e]; rfl) fun cdv A outer s H vs Q E hr hsp => ?_
  obtain ⟨v, rfl, hq⟩ := hsp
  refine ⟨_, pss_one (ps_ret (pe_callB (r := rIsiT K) call_isiT rfl gI boot_isi (pa_cons (pv 0) (pa_cons (pe_tup (pa_cons (pe_bltn (v := .ty "list") rfl gL boot_list' rfl) (pa_cons (pe_bltn (v := .ty "tuple") rfl gT boot_tuple' rfl) pa_nil))) pa_nil)))), ?_⟩
  refine ⟨_, rfl, (by show 2 ≤ sizeLine; decide), fun t nt => ?_⟩
  have kt := same_new (o := .tup [.ty "list", .ty "tuple"]) nt
  rcases hq with ⟨⟨a, xs, rfl, hS⟩, hq⟩ | ⟨hN, hq⟩
  · rcases hS.same kt with e | e
    · exact ⟨_, _, _, _, _, true, rfl, upd_same, .cons (.ty _) (.cons (.ty _) .nil), .base (.lst e), kit_two_l, hq _ kt⟩
    · exact ⟨_, _, _, _, _, true, rfl, upd_same, .cons (.ty _) (.cons (.ty _) .nil), .base (.tup e), kit_two_t, hq _ kt⟩
  · obtain ⟨ty, h1, h2, h3⟩ := hN.same kt
    exact ⟨_, _, _, _, _, false, rfl, upd_same, .cons (.ty _) (.cons (.ty _) .nil), h1, kit_two_n h2 h3, hq _ kt⟩
theorem ok_isOneG (F : Fun K "is_one_of" "is_one_of" sIsOne f fd) (gI : mg "isinstance" = none) (gS : mg "str" = none) : FnOk P w K mg base CX0 1 f fd ["names", "thing"] (spIsOneG K) := by
  refine F.ok scIsOne (fun vs H Q E h => by obtain ⟨c, ns, x, e, _⟩ := h; rw [e]; rfl) fun cdv A outer s H vs Q E hr hsp => ?_
  obtain ⟨c, ns, v, rfl, hS, hq⟩ := hsp
  refine ⟨_, pss_one (ps_ret (pe_and (pe_callB (r := rIsi K) call_isi rfl gI boot_isi (pa_cons (pv 1) (pa_cons (pe_bltn (v := .ty "str") rfl gS boot_str' rfl) pa_nil)))
    (pe_one (pe_cmpR op_in_seq (pv 1) (pv 0) rfl)))), ?_⟩
  rcases hq with ⟨x, rfl, hq⟩ | ⟨⟨t, h1, h2⟩, hq⟩
  · refine ⟨_, rfl, _, _, _, _, true, rfl, .ty _, .base (.str x), kit_ty (by decide +kernel), true, rfl, _, rfl, _, rfl, c, _, rfl, .inl hS, rfl, flat_strs ns, ?_⟩
    rw [inV_strs]
    exact hq
  · exact ⟨_, rfl, _, _, _, _, false, rfl, .ty _, h1, kit_ty h2, false, rfl, hq⟩
theorem badAt_step {ns : List Str} {xs : List V} {us : List Str} {i : Nat} {v : V} (hv : xs[i]? = some v) :
    badAt ns (xs.drop i) us i = match strOf v with | some x => if x ∈ ns ∧ x ∉ us then badAt ns (xs.drop (i + 1)) (us ++ [x]) (i + 1) else some i | none => some i := by
  have e : xs.drop i = v :: xs.drop (i + 1) := by
    obtain ⟨h, e⟩ := List.getElem?_eq_some_iff.mp hv
    rw [List.drop_eq_getElem_cons h, e]
  rw [e]
  rfl
theorem ok_firstG (F : Fun K "first_bad" "first_bad" sFirst f fd) (FL : Fun K "is_list" "is_list" sIsList fL fdL) (gIL : mg "is_list" = some (.ref fL)) (FO : Fun K "is_one_of" "is_one_of" sIsOne fO fdO) (gIO : mg "is_one_of" = some (.ref fO))
    (gI : mg "isinstance" = none) (gL : mg "list" = none) (gT : mg "tuple" = none) (gS : mg "str" = none) (gE : mg "enumerate" = none) : FnOk P w K mg base CX0 2 f fd ["names", "things"] (spFirstG K) := by
  have GL : FnOk P w K mg base CX0 1 fL fdL ["thing"] (spIsListG K) := ok_isListG FL gI gL gT
  have bL := FL.binds (ps := ["thing"]) fun _ _ _ _ _ _ us hl => match us, hl with | [_], _ => rfl
  have GO : FnOk P w K mg base CX0 1 fO fdO ["names", "thing"] (spIsOneG K) := ok_isOneG FO gI gS
  have bO := FO.binds (ps := ["names", "thing"]) fun _ _ _ _ _ _ us hl => match us, hl with | [_, _], _ => rfl
  refine F.ok scFirst (fun vs H Q E h => by obtain ⟨c, ns, v, r, e, _⟩ := h; rw [e]; rfl) fun cdv A outer s H vs Q E hr hsp => ?_
  obtain ⟨c, ns, v, r, rfl, hc, hB, hq⟩ := hsp
  have nd := scFirst.nd
  have hu := hu_of hr
  refine ⟨_, pss_cons (ps_if (pt_not (pt_val (pe_call GL hr rfl gIL FL.kp bL .nil pass0 (pa_cons (pv 1) pa_nil)))) (pss_one (ps_ret pe_int)) pss_nil)
    (pss_cons (ps_set (i := 2) nd rfl (Or.inl rfl) pe_dnewK)
    (pss_cons (ps_for PassesOwn.never rfl (pi_enumS rfl gE (pa_cons (pv 1) pa_nil)) (pg_tup rfl (pgs_cons (pg_name (i := 3) nd rfl (Or.inl rfl)) (pgs_cons (pg_name (i := 4) nd rfl (Or.inl rfl)) pgs_nil)))
      (pss_cons (ps_if (PW.pt (pw_or (pt_not (pt_val (pe_call GO hr rfl gIO FO.kp bO .nil pass0 (pa_cons (pv 0) (pa_cons (pv 4) pa_nil))))) (pw_or1 (pt_cmp (pc_din hu (pv 4) (pv 2)))))) (pss_one (ps_ret (pv 3))) pss_nil)
      (pss_one (ps_dput hu (pv 2) (pv 4) pe_bl rfl))))
    (pss_one (ps_ret pe_non)))), ?_⟩
  cases hB with
  | no hN => exact ⟨_, rfl, _, rfl, .inr ⟨hN, fun H1 k1 => ⟨_, rfl, iteT (hq H1 k1)⟩⟩⟩
  | @seq a xs hS hA short =>
  refine ⟨_, rfl, _, rfl, .inl ⟨⟨a, xs, rfl, hS⟩, fun H1 k1 => ⟨_, rfl, iteF fun d nd2 => ?_⟩⟩⟩
  have kd := same_new (o := .dK []) nd2
  obtain ⟨o, ho, ko⟩ : ∃ o, H1 a = some o ∧ (o = .lst xs ∨ o = .tup xs) := by
    rcases hS.same k1 with e | e
    · exact ⟨_, e, .inl rfl⟩
    · exact ⟨_, e, .inr rfl⟩
  refine ⟨_, rfl, enum_seq ko (fun i σ H' => ∃ us : List Str, us.length = i ∧ badAt ns xs [] 0 = badAt ns (xs.drop i) us i ∧ H' d = some (.dK (seenD us)) ∧ Same H1 H' ∧ ∃ s3 s4, σ = [some (.ref c), some (.ref a), some (.ref d), s3, s4])
    ⟨[], rfl, by rw [List.drop_zero], upd_same, kd, _, _, rfl⟩ (fun i σ H' _ ⟨us, h⟩ => h.2.2.2.1 _ _ ho) ?_ ?_⟩
  · rintro i v σ H2 T ev ⟨us, lu, eb, od, s2, s3, s4, rfl⟩ nT
    have hi : i < xs.length := (List.getElem?_eq_some_iff.mp ev).1
    have kT := same_new (o := .tup [.int (i : Nat), v]) nT
    refine ⟨T, _, rfl, SqT.of upd_same, rfl, ?_⟩
    refine ⟨_, _, rfl, _, _, rfl, rfl, ?_⟩
    rw [badAt_step ev] at eb
    refine ⟨_, rfl, _, rfl, c, ns, v, rfl, SqL.of (kT _ _ (s2 _ _ (k1 _ _ hc))), ?_⟩
    cases hs : strOf v with
    | none =>
      rw [hs] at eb
      refine .inr ⟨((hA v (List.mem_of_getElem? ev)) hs).same ((k1.trans s2).trans kT), _, rfl, iteT ?_⟩
      have z := hq _ (k1.trans (s2.trans kT))
      rw [eb] at z
      exact iteT ⟨_, rfl, z⟩
    | some x =>
      obtain rfl := strOf_some hs
      rw [hs] at eb
      refine .inl ⟨x, rfl, _, rfl, ?_⟩
      by_cases xin : x ∈ ns
      · rw [decide_eq_true xin]
        refine iteF ⟨_, rfl, _, rfl, d, _, rfl, DGet.k (k := Sum.inr x) (kT _ _ od), ?_⟩
        by_cases xs' : x ∈ us
        · obtain ⟨v2, e2⟩ := has_key (kvs := seenD us) (ns := us) (by unfold seenD; rw [List.map_map]; rfl) xs'
          rw [e2]
          dsimp only at eb
          rw [if_neg (fun z => z.2 xs')] at eb
          have z := hq _ (k1.trans (s2.trans kT))
          rw [eb] at z
          exact ⟨_, rfl, iteT ⟨_, rfl, z⟩⟩
        · rw [seen_none xs']
          refine ⟨_, rfl, iteF ?_⟩
          dsimp only at eb
          rw [if_pos ⟨xin, xs'⟩] at eb
          have small : (seenD us).length < sizeLine := by
            rw [sizeLine_eq]
            unfold seenD
            rw [List.length_map]; omega
          refine ⟨_, rfl, _, rfl, d, _, rfl, DPut.k (k := Sum.inr x) (kT _ _ od) small, us ++ [x], by rw [List.length_append, lu]; rfl, eb, ?_, ?_, _, _, rfl⟩
          · rw [upd_same, seen_put xs']
          · intro b u e
            have nb : b ≠ d := ne_of_none e nd2
            rw [upd_ne nb]
            exact kT _ _ (s2 _ _ e)
      · rw [decide_eq_false xin]
        dsimp only at eb
        rw [if_neg (fun z => xin z.1)] at eb
        have z := hq _ (k1.trans (s2.trans kT))
        rw [eb] at z
        exact iteT ⟨_, rfl, z⟩
  · rintro σ H2 ⟨us, lu, eb, od, s2, s3, s4, rfl⟩
    rw [List.drop_length] at eb
    have z := hq _ (k1.trans s2)
    rw [eb] at z
    exact z
end
end L2.TB
/-! dicts made of pairs -/
namespace L2.TB
open PySem PySem.Spec PyProof.Rows MK
def rDictPX (w : World) (K : PySem.W.Frag) : List V → Hp → VK → Prop := fun xs H Q => ∃ (a : Addr) (ps : List Addr) (es : List En), xs = [.ref a] ∧ SqL K H a (ps.map V.ref) ∧ Paired (fun b x => PairX K H b x) ps es ∧
  ∀ p, H p = none → MixE (upd H p (DE w p (putsE [] es))) (putsE [] es) → Q (.ref p) (upd H p (DE w p (putsE [] es)))
theorem call_dictPXw {X : Cx} {w : World} (hw : X.w = w) (hc : X.calm = true) (hu : X.A.in1.in1.units + 8 < cLine) : CallR X (.type "dict") (rDictPX w X.K) := by
  subst hw
  exact call_dictPX hc hu
theorem hu_in2 {k : Nat} {A : Around} (hr : Room k A) : A.in1.in1.units + 8 < cLine := by
  have h := hr.un
  show A.units + _ + _ + 8 < cLine
  omega
theorem putsE_nd : ∀ (es acc : List En), ((acc ++ es).map (·.1)).Nodup → putsE acc es = acc ++ es
  | [], acc, _ => (List.append_nil acc).symm
  | x :: es, acc, nd => by
    have e : acc ++ x :: es = (acc ++ [x]) ++ es := by simp
    rw [e] at nd ⊢
    have no : x.1 ∉ acc.map (·.1) := fun h => by
      rw [List.map_append, List.map_append, List.nodup_append] at nd
      have nd1 := nd.1
      rw [List.nodup_append] at nd1
      exact nd1.2.2 _ h _ (by simp) rfl
    show putsE (putE acc x.1 x.2.1 x.2.2) es = _
    rw [putE_new no]
    exact putsE_nd es _ nd
theorem ens_puts {H : Hp} : ∀ {es : List En} {L : Lot}, Paired (PairL H) es L → ∀ {acc : List En} {La : Lot}, Ens H acc La → Ens H (putsE acc es) (L.foldl (fun M p => putL M p.1 p.2) La)
  | _, _, .nil, _, _, h => h
  | _, _, @Paired.cons _ _ _ e p es L q t, acc, La, h => by
    obtain ⟨tt, et, ot⟩ := q.t
    have z := h.put (v := p.2) ot
    rw [← q.k, ← et, ← q.v] at z
    exact ens_puts t z
/-- pairs made by a walk -/
theorem lc_pairsO {J : It} {g : TG} {tt : TT} {te : TE} {vs : List Nat} {σ : St} {H1 : Hp} {Q : Addr → Hp → Prop} (opts : List (Option En)) (short : opts.length < 1000000) (go : ∀ i H, Same H1 H → i < opts.length → J.go i H) (stop : ∀ H, Same H1 H → J.stop opts.length H)
    (turn : ∀ (i : Nat) (v : V) (o : Option En) (H H' : Hp) (C : V → Hp → Prop) (N : Hp → Prop), opts[i]? = some o → Same H1 H → J.yld i H v H' → (∀ x, o = some x → ∀ t H4, Same H H4 → H4 t = some (.tup [x.2.1, x.2.2]) → C (.ref t) H4) → (o = none → ∀ H4, Same H H4 → N H4) →
      g v (wipe σ vs) H' fun σ2 H2 => wipe σ2 vs = wipe σ vs ∧ tt σ2 H2 fun b H3 => if b = true then te σ2 H3 C else N H3)
    (fin : ∀ H D ps, H1 D = none → H D = some (.lst ((ps : List Addr).map V.ref)) → Paired (fun p (x : En) => H p = some (.tup [x.2.1, x.2.2])) ps (opts.filterMap id) → Same H1 H → Q D H) : LcW J g tt te vs σ H1 Q := by
  intro D nD
  refine ⟨fun i m H => m = opts.length - i ∧ i ≤ opts.length ∧ (∃ ps : List Addr, H D = some (.lst (ps.map V.ref)) ∧ Paired (fun p (x : En) => H p = some (.tup [x.2.1, x.2.2])) ps ((opts.take i).filterMap id)) ∧ Same H1 H, ⟨_, rfl, Nat.zero_le _, ⟨[], upd_same, .nil⟩, same_new nD⟩, ?_⟩
  rintro i m H ⟨rfl, le, ⟨ps, oD, pr⟩, s1⟩
  by_cases lt : i < opts.length
  · refine .inr ⟨go i H s1 lt, fun H' => (∃ ps : List Addr, H' D = some (.lst (ps.map V.ref)) ∧ Paired (fun p (x : En) => H' p = some (.tup [x.2.1, x.2.2])) ps ((opts.take (i + 1)).filterMap id)) ∧ Same H1 H', fun H' h => ⟨opts.length - (i + 1), by omega, rfl, lt, h⟩, fun v H' yl => ?_⟩
    have eo : opts[i]? = some opts[i] := List.getElem?_eq_getElem lt
    have et : opts.take (i + 1) = opts.take i ++ [opts[i]] := by rw [List.take_succ, eo]; rfl
    refine turn i v opts[i] H H' _ _ eo s1 yl (fun x ex t H4 s4 ot => ⟨_, s4 _ _ oD, ?_, ⟨ps ++ [t], by rw [upd_same]; simp, ?_⟩, ?_⟩) (fun no H4 s4 => ⟨⟨ps, s4 _ _ oD, ?_⟩, s1.trans s4⟩)
    · have l1 := Paired.length pr
      have l2 := List.length_filterMap_le id (opts.take i)
      rw [List.length_take] at l2
      rw [sizeLine_eq, List.length_map]
      omega
    · have tD : t ≠ D := fun z => by rw [z, s4 _ _ oD] at ot; cases ot
      rw [et, List.filterMap_append, ex]
      refine paired_snoc (by rw [upd_ne tD]; exact ot) (Paired.mapP pr fun p x h => ?_)
      rw [upd_ne (ne_of h oD (by intro z; cases z))]
      exact s4 _ _ h
    · intro b u e
      rw [upd_ne (ne_of_none e nD)]
      exact s4 _ _ (s1 _ _ e)
    · rw [et, List.filterMap_append, no]
      simpa using Paired.mapP pr fun p x h => s4 _ _ h
  · obtain rfl : i = opts.length := by omega
    rw [List.take_length] at pr
    exact .inl ⟨stop H s1, fin H D ps nD oD pr s1⟩
theorem paired_px {K : PySem.W.Frag} {H : Hp} {ps : List Addr} {es : List En} (pr : Paired (fun p (x : En) => H p = some (.tup [x.2.1, x.2.2])) ps es) (k : ∀ x ∈ es, KeyH H x.1 x.2.1 ∧ x.1.depth ≤ 8) : Paired (fun b x => PairX K H b x) ps es := by
  refine nth_pair ps es (Paired.length pr) fun i p x e1 e2 => ?_
  obtain ⟨y, ey, h⟩ := paired_get pr e1
  rw [e2] at ey
  obtain rfl := Option.some.inj ey
  exact ⟨SqT.of h, (k x (List.mem_of_getElem? e2)).1, (k x (List.mem_of_getElem? e2)).2⟩
/-- dict([.. for one in d ..]) -/
theorem dict_walk {w : World} {K : PySem.W.Frag} {td : TE} {g : TG} {tt : TT} {te : TE} {vs : List Nat} {σ : St} {H : Hp} {Q : VK} {d : Addr} {es : List En} (hd : H d = some (DE w d es)) (rd : ∀ od R, R (.ref d) (upd H d (.frz od (DE w d es))) → td σ (upd H d (.frz od (DE w d es))) R) (opts : List (Option En)) (lo : opts.length = es.length) (short : es.length < 1000000)
    (turn : ∀ (i : Nat) (e : En) (o : Option En) (od : Obj) (H' : Hp) (C : V → Hp → Prop) (N : Hp → Prop), es[i]? = some e → opts[i]? = some o → Same (upd H d (.frz od (DE w d es))) H' → (∀ x, o = some x → ∀ t H4, Same H' H4 → H4 t = some (.tup [x.2.1, x.2.2]) → C (.ref t) H4) → (o = none → ∀ H4, Same H' H4 → N H4) →
      g e.2.1 (wipe σ vs) H' fun σ2 H2 => wipe σ2 vs = wipe σ vs ∧ tt σ2 H2 fun b H3 => if b = true then te σ2 H3 C else N H3)
    (keys : ∀ x ∈ opts.filterMap id, KeyH H x.1 x.2.1 ∧ x.1.depth ≤ 8) (nd : ((opts.filterMap id).map (·.1)).Nodup)
    (fin : ∀ H' p, H p = none → H' p = some (DE w p (opts.filterMap id)) → MixE H' (opts.filterMap id) → Same H H' → Q (.ref p) H') :
    tCB (rDictPX w K) (tCons (tLockE (tLc (iKeysX w td) g tt te vs)) tNil) σ H Q := by
  refine ⟨d, _, hd, trivial, fun od => ?_⟩
  refine rd od _ ⟨d, od, _, _, rfl, upd_same, lc_pairsO opts (by omega) (fun i H' k lt => ⟨k _ _ upd_same, by rw [List.length_map]; omega⟩) (fun H' k => ⟨k _ _ upd_same, by rw [List.length_map]; omega⟩) ?_ ?_⟩
  · rintro i v o H2 H3 C N eo s2 ⟨rfl, v2, ev⟩ yes no
    rw [List.getElem?_map] at ev
    obtain ⟨e, ee, e12⟩ := Option.map_eq_some_iff.mp ev
    obtain rfl : e.2.1 = v := congrArg Prod.fst e12
    exact turn i e o od _ C N ee eo s2 yes no
  · intro H2 D ps nD oD pr s2
    obtain ⟨b1, s34⟩ := lock_off hd s2
    have Dd : D ≠ d := fun z => by rw [z, upd_same] at nD; cases nD
    have pr2 : Paired (fun p (x : En) => (upd H2 d (DE w d es)) p = some (.tup [x.2.1, x.2.2])) ps (opts.filterMap id) := Paired.mapP pr fun p x h => by
      rw [upd_ne (ne_of h b1 (by intro z; cases z))]; exact h
    refine ⟨b1, D, ps, opts.filterMap id, rfl, SqL.of (by rw [upd_ne Dd]; exact oD), paired_px pr2 (fun x hx => ⟨(keys x hx).1.mono fun _ _ e => s34 _ _ e, (keys x hx).2⟩), fun p np mx => ?_⟩
    have pe : putsE [] (opts.filterMap id) = opts.filterMap id := by
      have z := putsE_nd (opts.filterMap id) [] (by simpa using nd)
      simpa using z
    rw [pe] at mx ⊢
    exact fin _ p (s34.free np) upd_same mx (s34.trans (same_new np))
end L2.TB
/-! things frozen: lists and tuples to tuples, dicts anew -/
namespace L2.TB
open PySem PySem.Spec PyProof.Rows MK
/-- what a frozen thing is -/
inductive Tr
  | one (v : V)
  | tu (l : List Tr)
  | di (kvs : List (Key × V))
  | dx (es : List En)
inductive FzAt (w : World) (H : Hp) : Tr → V → Prop
  | one {v : V} (h : Atom v) : FzAt w H (.one v) v
  | tu {a : Addr} {us : List V} {ts : List Tr} (h : H a = some (.tup us)) (len : us.length = ts.length) (sh : us.length < 1000) (al : ∀ (i : Nat) (u : V) (t : Tr), us[i]? = some u → ts[i]? = some t → FzAt w H t u) : FzAt w H (.tu ts) (.ref a)
  | di {a : Addr} {kvs : List (Key × V)} (h : H a = some (.dK kvs)) (at_ : ∀ kv ∈ kvs, Atom kv.2) : FzAt w H (.di kvs) (.ref a)
  | dx {a : Addr} {es : List En} (h : H a = some (DE w a es)) (m : MixE H es) (at_ : ∀ e ∈ es, Atom e.2.2) : FzAt w H (.dx es) (.ref a)
/-- a thing, to this depth, and what it is frozen -/
inductive Thg (w : World) (H : Hp) : Nat → V → Tr → Prop
  | one {v : V} (h : Atom v) : Thg w H 0 v (.one v)
  | seq {n : Nat} {a : Addr} {xs : List V} {ts : List Tr} (h : H a = some (.lst xs) ∨ H a = some (.tup xs)) (len : xs.length = ts.length) (sh : xs.length < 1000) (al : ∀ (i : Nat) (x : V) (t : Tr), xs[i]? = some x → ts[i]? = some t → Thg w H n x t) : Thg w H (n + 1) (.ref a) (.tu ts)
  | dic {n : Nat} {a : Addr} {kvs : List (Key × V)} (h : H a = some (.dK kvs)) (sh : kvs.length < 1000) (nd : (kvs.map (·.1)).Nodup) (at_ : ∀ kv ∈ kvs, Atom kv.2) : Thg w H (n + 1) (.ref a) (.di kvs)
  | dix {n : Nat} {a : Addr} {es : List En} (h : H a = some (DE w a es)) (sh : es.length < 1000) (m : MixE H es) (at_ : ∀ e ∈ es, Atom e.2.2) : Thg w H (n + 1) (.ref a) (.dx es)
  | up {n : Nat} {v : V} {t : Tr} (h : Thg w H n v t) : Thg w H (n + 1) v t
theorem FzAt.but {w : World} {H H' : Hp} {t : Tr} {v : V} (h : FzAt w H t v) : ∀ {D : Addr} {l : List V}, H D = some (.lst l) → (∀ b o, b ≠ D → H b = some o → H' b = some o) → FzAt w H' t v := by
  induction h with
  | one h => exact fun _ _ => .one h
  | tu h len sh _ ih => exact fun oD s => .tu (s _ _ (fun z => by rw [z, oD] at h; cases h) h) len sh fun i u t e1 e2 => ih i u t e1 e2 oD s
  | di h at_ => exact fun oD s => .di (s _ _ (fun z => by rw [z, oD] at h; cases h) h) at_
  | dx h m at_ => exact fun oD s => .dx (s _ _ (fun z => by rw [z, oD] at h; cases h) h) (m.mono fun b vs e => s _ _ (fun z => by rw [z, oD] at e; cases e) e) at_
theorem FzAt.same {w : World} {H H' : Hp} {t : Tr} {v : V} (h : FzAt w H t v) (s : Same H H') : FzAt w H' t v := by
  induction h with
  | one h => exact .one h
  | tu h len sh _ ih => exact .tu (s _ _ h) len sh ih
  | di h at_ => exact .di (s _ _ h) at_
  | dx h m at_ => exact .dx (s _ _ h) (m.mono fun _ _ e => s _ _ e) at_
theorem Thg.same {w : World} {H H' : Hp} {n : Nat} {t : Tr} {v : V} (h : Thg w H n v t) (s : Same H H') : Thg w H' n v t := by
  induction h with
  | one h => exact .one h
  | seq h len sh _ ih => exact .seq (h.imp (s _ _) (s _ _)) len sh ih
  | dic h sh nd at_ => exact .dic (s _ _ h) sh nd at_
  | dix h sh m at_ => exact .dix (s _ _ h) sh (m.mono fun _ _ e => s _ _ e) at_
  | up _ ih => exact .up ih
theorem atom_ty {v : V} (a : Atom v) (K : PySem.W.Frag) (H : Hp) : ∃ t : String, TyX K H v (.type t) ∧ kitB t "dict" = some false ∧ kitB t "list" = some false ∧ kitB t "tuple" = some false := by
  cases a with
  | str x => exact ⟨_, .base (.str x), by decide +kernel, by decide +kernel, by decide +kernel⟩
  | int i => exact ⟨_, .base (.int i), by decide +kernel, by decide +kernel, by decide +kernel⟩
  | bl b => exact ⟨_, .base (.bl b), by decide +kernel, by decide +kernel, by decide +kernel⟩
  | non => exact ⟨_, .base .non, by decide +kernel, by decide +kernel, by decide +kernel⟩
/-- a comprehension over a list or a tuple whose turns make things -/
theorem lc_madeSeq {K : PySem.W.Frag} {a : Addr} {xs : List V} {o : HO} {g : TG} {tt : TT} {te : TE} {vs : List Nat} {σ : St} {H1 : Hp} {Q : Addr → Hp → Prop} (ko : o = .lst xs ∨ o = .tup xs) (ho : H1 a = some o) (short : xs.length < 1000000) (R : Nat → V → Hp → Prop)
    (stays : ∀ i y H H' D l, R i y H → H D = some (.lst l) → (∀ b o, b ≠ D → H b = some o → H' b = some o) → R i y H')
    (turn : ∀ (i : Nat) (x : V) (H : Hp) (C : V → Hp → Prop) (N : Hp → Prop), xs[i]? = some x → Same H1 H → (∀ y H4, R i y H4 → Same H H4 → C y H4) → g x (wipe σ vs) H fun σ2 H2 => wipe σ2 vs = wipe σ vs ∧ tt σ2 H2 fun b H3 => if b = true then te σ2 H3 C else N H3)
    (fin : ∀ H D ys, H1 D = none → H D = some (.lst ys) → ys.length = xs.length → (∀ j y, ys[j]? = some y → R j y H) → Same H1 H → Q D H) :
    ∃ b ys, V.ref a = V.ref b ∧ ((SqL K H1 b ys ∧ LcW (Itl K b) g tt te vs σ H1 Q) ∨ (SqT K H1 b ys ∧ LcW (Itt K b) g tt te vs σ H1 Q)) := by
  rcases ko with rfl | rfl
  · refine ⟨a, xs, rfl, .inl ⟨SqL.of ho, lc_made xs.length short (fun i H' k lt => ⟨_, _, SqL.of (k _ _ ho), List.getElem?_eq_getElem lt⟩) (fun H' k => ⟨_, SqL.of (k _ _ ho), Nat.le_refl _⟩) R stays ?_ fin⟩⟩
    rintro i x H2 H3 Cn Nn lt s2 ⟨rfl, ex⟩ yes
    exact turn i x _ Cn Nn (ex _ (SqL.of (s2 _ _ ho))) s2 yes
  · refine ⟨a, xs, rfl, .inr ⟨SqT.of ho, lc_made xs.length short (fun i H' k lt => ⟨_, _, SqT.of (k _ _ ho), List.getElem?_eq_getElem lt⟩) (fun H' k => ⟨_, SqT.of (k _ _ ho), Nat.le_refl _⟩) R stays ?_ fin⟩⟩
    rintro i x H2 H3 Cn Nn lt s2 ⟨rfl, ex⟩ yes
    exact turn i x _ Cn Nn (ex _ (SqT.of (s2 _ _ ho))) s2 yes
theorem valV_at : ∀ {kvs : List (Key × V)} {i : Nat} {k : Key} {x : V}, (kvs.map (·.1)).Nodup → kvs[i]? = some (k, x) → valV kvs k = some x
  | [], i, k, x, _, e => by cases e
  | p :: r, 0, k, x, _, e => by
    obtain rfl : p = (k, x) := by simpa using e
    exact valV_pos rfl
  | p :: r, i + 1, k, x, nd, e => by
    have e2 : r[i]? = some (k, x) := by simpa using e
    rw [List.map_cons, List.nodup_cons] at nd
    have ne : ¬ p.1 = k := fun z => nd.1 (by rw [z]; exact List.mem_map.mpr ⟨_, List.mem_of_getElem? e2, rfl⟩)
    rw [valV_neg ne]
    exact valV_at nd.2 e2
def spFrozen (w : World) (n : Nat) : Sp := fun vs H Q _ => ∃ (v : V) (t : Tr), vs = [v] ∧ Thg w H n v t ∧ ∀ H' u, Same H H' → FzAt w H' t u → Q u H'
abbrev NFz : List Str := ["thing", "key", "part"]
theorem scFz : FnScope NFz ["thing"] (defScope sFrozen) := ⟨rfl, rfl, rfl, by decide +kernel, rfl, by decide +kernel, by decide +kernel⟩
/-- the names that it reads -/
structure FzM (mg : Str → Option Value) : Prop where
  nI : mg "isinstance" = none
  nL : mg "list" = none
  nT : mg "tuple" = none
  nD : mg "dict" = none
section
variable {P : Program} {w : World} {K : PySem.W.Frag} {mg : Str → Option Value} {base : Heap} {f : Addr} {fd : FuncData}
theorem ok_frozenA (F : Fun K "_law_frozen" "_law_frozen" sFrozen f fd) (M : FzM mg) : FnOk P w K mg base CX0 1 f fd ["thing"] (fun vs H Q _ => ∃ v : V, vs = [v] ∧ Atom v ∧ ∀ H', Same H H' → Q v H') := by
  refine F.ok scFz (fun vs H Q E h => by obtain ⟨x, e, _⟩ := h; rw [e]; rfl) fun cdv A outer s H vs Q E hr hsp => ?_
  obtain ⟨v, rfl, hA, hq⟩ := hsp
  refine ⟨_, pss_cons (ps_if (pt_val (pe_callB (r := rIsi K) call_isi rfl M.nI boot_isi (pa_cons (pv 0) (pa_cons (pe_bltn (v := .ty "dict") rfl M.nD boot_dict' rfl) pa_nil)))) pss_never pss_nil)
    (pss_one (ps_ret (pe_ifExp (pt_val (pe_callB (r := rIsiT K) call_isiT rfl M.nI boot_isi (pa_cons (pv 0) (pa_cons (pe_tup (pa_cons (pe_bltn (v := .ty "list") rfl M.nL boot_list' rfl) (pa_cons (pe_bltn (v := .ty "tuple") rfl M.nT boot_tuple' rfl) pa_nil))) pa_nil))))
      (⟨fun _ _ _ _ _ _ h => h.elim⟩ : PE _ _ (fun _ _ _ => False)) (pv 0)))), ?_⟩
  obtain ⟨t, ty, h1, h2, h3⟩ := atom_ty hA K H
  refine ⟨_, rfl, _, _, _, _, false, rfl, .ty _, ty, kit_ty h1, _, rfl, iteF ?_⟩
  refine ⟨_, rfl, (by show 2 ≤ sizeLine; decide), fun t nt => ?_⟩
  have st := same_new (o := .tup [.ty "list", .ty "tuple"]) nt
  exact ⟨_, _, _, _, _, false, rfl, upd_same, .cons (.ty _) (.cons (.ty _) .nil), ty_same ty st, kit_two_n h2 h3, _, rfl, iteF ⟨_, rfl, hq _ st⟩⟩
theorem ok_frozen (F : Fun K "_law_frozen" "_law_frozen" sFrozen f fd) (gF : mg "_law_frozen" = some (.ref f)) (M : FzM mg) : ∀ n : Nat, FnOk P w K mg base CX0 (n + 1) f fd ["thing"] (spFrozen w n)
  | 0 => by
    have G := ok_frozenA (P := P) (w := w) (base := base) F M
    refine ⟨fun vs H Q E h => by obtain ⟨v, t, e, _⟩ := h; rw [e]; rfl, fun A outer s H args us vs Q E hr he hb hv hs => G.run A outer s H args us vs Q E hr he hb hv ?_⟩
    obtain ⟨v, t, rfl, th, hq⟩ := hs
    cases th with
    | one h => exact ⟨v, rfl, h, fun H' s => hq _ _ s (.one h)⟩
  | n + 1 => by
    have G := ok_frozen F gF M n
    have b := F.binds (ps := ["thing"]) fun _ _ _ _ _ _ us hl => match us, hl with | [_], _ => rfl
    have nd := scFz.nd
    have GU : FnOk P w K mg base CX0 (n + 2) f fd ["thing"] (spFrozen w n) := G.mono (Nat.le_succ _)
    have GS : FnOk P w K mg base CX0 (n + 2) f fd ["thing"] (fun vs H Q _ => ∃ (a : Addr) (xs : List V) (ts : List Tr), vs = [.ref a] ∧ (H a = some (.lst xs) ∨ H a = some (.tup xs)) ∧ xs.length = ts.length ∧ xs.length < 1000 ∧ (∀ (i : Nat) (x : V) (t : Tr), xs[i]? = some x → ts[i]? = some t → Thg w H n x t) ∧ ∀ H' u, Same H H' → FzAt w H' (.tu ts) u → Q u H') := by
      refine F.ok scFz (fun vs H Q E h => by obtain ⟨a, xs, ts, e, _⟩ := h; rw [e]; rfl) fun cdv A outer s H vs Q E hr hsp => ?_
      obtain ⟨a, xs, ts, rfl, ho, len, sh, al, hq⟩ := hsp
      refine ⟨_, pss_cons (ps_if (pt_val (pe_callB (r := rIsi K) call_isi rfl M.nI boot_isi (pa_cons (pv 0) (pa_cons (pe_bltn (v := .ty "dict") rfl M.nD boot_dict' rfl) pa_nil)))) pss_never pss_nil)
        (pss_one (ps_ret (pe_ifExp (pt_val (pe_callB (r := rIsiT K) call_isiT rfl M.nI boot_isi (pa_cons (pv 0) (pa_cons (pe_tup (pa_cons (pe_bltn (v := .ty "list") rfl M.nL boot_list' rfl) (pa_cons (pe_bltn (v := .ty "tuple") rfl M.nT boot_tuple' rfl) pa_nil))) pa_nil))))
          (pe_callTy (r := rTupOf K) call_tuple_of rfl M.nT boot_tuple' (pa_cons (pe_lc (own := [("part", 2)]) (tt := tYes) (g := gName 2) rfl nd (pi_seq (pv 0)) (blkOk_by (N := NFz) (sc := defScope sFrozen) (by decide +kernel)) (fun _ _ _ _ _ => pg_name (i := 2) nd rfl (Or.inl rfl)) (fun _ _ _ _ _ => pts_nil)
            (fun _ _ _ _ _ => pe_call G hr rfl gF F.kp b .nil pass0 (pa_cons (pv 2) pa_nil))) pa_nil)) (pv 0)))), ?_⟩
      obtain ⟨t, ty, h1, h2⟩ : ∃ t : String, TyX K H (.ref a) (.type t) ∧ kitB t "dict" = some false ∧ PySem.W.kitAny K (.type t) [.type "list", .type "tuple"] = some true := by
        rcases ho with e | e
        · exact ⟨_, .base (.lst e), by decide +kernel, kit_two_l⟩
        · exact ⟨_, .base (.tup e), by decide +kernel, kit_two_t⟩
      refine ⟨_, rfl, _, _, _, _, false, rfl, .ty _, ty, kit_ty h1, _, rfl, iteF ?_⟩
      refine ⟨_, rfl, (by show 2 ≤ sizeLine; decide), fun t nt => ?_⟩
      have st := same_new (o := .tup [.ty "list", .ty "tuple"]) nt
      refine ⟨_, _, _, _, _, true, rfl, upd_same, .cons (.ty _) (.cons (.ty _) .nil), ty_same ty st, h2, _, rfl, iteT ?_⟩
      generalize upd H t (.tup [.ty "list", .ty "tuple"]) = H1 at st
      obtain ⟨o, oa, ko⟩ : ∃ o, H1 a = some o ∧ (o = .lst xs ∨ o = .tup xs) := by
        rcases ho with e | e
        · exact ⟨_, st _ _ e, .inl rfl⟩
        · exact ⟨_, st _ _ e, .inr rfl⟩
      refine ⟨_, rfl, lc_madeSeq ko oa (by omega) (fun i y H' => ∃ t, ts[i]? = some t ∧ FzAt w H' t y) ?_ ?_ ?_⟩
      · rintro i y H2 H3 D l ⟨t, et, ft⟩ oD keep
        exact ⟨t, et, ft.but oD keep⟩
      · rintro i x H2 Cn Nn ex s2 yes
        have lt : i < ts.length := by rw [← len]; exact (List.getElem?_eq_some_iff.mp ex).1
        have et : ts[i]? = some ts[i] := List.getElem?_eq_getElem lt
        refine ⟨rfl, ?_⟩
        exact ⟨_, rfl, x, _, rfl, (al i x _ ex et).same (st.trans s2), fun H4 u s4 fu => yes _ _ ⟨_, et, fu⟩ s4⟩
      · intro H2 D ys nD oD ly ry s2
        refine ⟨D, ys, rfl, .inl ⟨SqL.of oD, fun l nl => ?_⟩⟩
        have kl := same_new (o := .tup ys) nl
        refine hq _ _ ((st.trans s2).trans kl) (.tu upd_same (by rw [ly, len]) (by rw [ly]; exact sh) fun i u t eu et => ?_)
        obtain ⟨t2, e2, f2⟩ := ry i u eu
        rw [et] at e2
        cases e2
        exact f2.same kl
    have GD : FnOk P w K mg base CX0 (n + 2) f fd ["thing"] (fun vs H Q _ => ∃ (a : Addr) (kvs : List (Key × V)), vs = [.ref a] ∧ H a = some (.dK kvs) ∧ kvs.length < 1000 ∧ (kvs.map (·.1)).Nodup ∧ (∀ kv ∈ kvs, Atom kv.2) ∧ ∀ H' u, Same H H' → FzAt w H' (.di kvs) u → Q u H') := by
      refine F.ok scFz (fun vs H Q E h => by obtain ⟨a, kvs, e, _⟩ := h; rw [e]; rfl) fun cdv A outer s H vs Q E hr hsp => ?_
      obtain ⟨a, kvs, rfl, ho, sh, nk, hA, hq⟩ := hsp
      have hu := hu_of hr
      have GA := ok_frozenA (P := P) (w := w) (base := base) F M
      refine ⟨_, pss_cons (ps_if (pt_val (pe_callB (r := rIsi K) call_isi rfl M.nI boot_isi (pa_cons (pv 0) (pa_cons (pe_bltn (v := .ty "dict") rfl M.nD boot_dict' rfl) pa_nil))))
        (pss_one (ps_ret (pe_callTy (call_dictP rfl) rfl M.nD boot_dict' (pa_cons (pe_lock (pe_lc (own := [("key", 1)]) (tt := tYes) (g := gName 1) rfl nd (pi_keys (pv 0)) (blkOk_by (N := NFz) (sc := defScope sFrozen) (by decide +kernel)) (fun _ _ _ _ _ => pg_name (i := 1) nd rfl (Or.inl rfl)) (fun _ _ _ _ _ => pts_nil)
          (fun _ _ _ _ _ => pe_tup (pa_cons (pv 1) (pa_cons (pe_call GA (hr.mono (by omega)) rfl gF F.kp b .nil pass0 (pa_cons (pe_dget hu (pv 0) (pv 1) (fun _ _ => rfl)) pa_nil)) pa_nil))))) pa_nil)))) pss_nil)
        pss_never, ?_⟩
      refine ⟨_, rfl, _, _, _, _, true, rfl, .ty _, .base (.dK ho), kit_ty (by decide +kernel), _, rfl, iteT ?_⟩
      refine ⟨a, _, ho, trivial, fun od => ⟨_, rfl, a, od, rfl, .inl ⟨_, upd_same, ?_⟩⟩⟩
      have oL : upd H a (.frz od (.dK kvs)) a = some (.frz od (.dK kvs)) := upd_same
      refine pairs_lc kvs sh (fun i H' s lt => ⟨s _ _ oL, lt⟩) (fun H' s => ⟨s _ _ oL, Nat.le_refl _⟩) ?_ ?_
      · rintro i v k x H2 H3 Cn Nn ek s2 ⟨rfl, k2, x2, ek2, rfl⟩ yes
        rw [ek] at ek2
        cases ek2
        refine ⟨rfl, ?_⟩
        have ga : Atom x := hA _ (List.mem_of_getElem? ek)
        have dg : DGet H3 a (kV k) (valV kvs k) := .inl ⟨kvs, k, .inr ⟨od, s2 _ _ oL⟩, rfl, rfl⟩
        rw [valV_at nk ek] at dg
        refine ⟨_, rfl, _, rfl, _, rfl, a, _, rfl, dg, x, rfl, ga, fun H4 s4 => ⟨(by show 2 ≤ sizeLine; decide), fun t nt => ?_⟩⟩
        exact yes t _ upd_same (s4.trans (same_new nt))
      · intro H2 D ps nD oD pr s2
        obtain ⟨b1, s02⟩ := lock_off ho s2
        have ne1 : ∀ {b : Addr} {o : HO}, (∀ u, o ≠ .frz od u) → H2 b = some o → upd H2 a (.dK kvs) b = some o := fun no e => by
          rw [upd_ne (fun z => by rw [z, b1] at e; exact no _ (Option.some.inj e).symm)]; exact e
        refine ⟨b1, D, ps, kvs, rfl, SqL.of (ne1 (fun u z => by cases z) oD), Paired.mapP pr fun p kv e => SqT.of (ne1 (fun u z => by cases z) e), fun p np => ?_⟩
        rw [merge_nd nk]
        exact hq _ _ (s02.trans (same_new np)) (.di upd_same hA)
    have GX : FnOk P w K mg base CX0 (n + 2) f fd ["thing"] (fun vs H Q _ => ∃ (a : Addr) (es : List En), vs = [.ref a] ∧ H a = some (DE w a es) ∧ es.length < 1000 ∧ MixE H es ∧ (∀ e ∈ es, Atom e.2.2) ∧ ∀ H' u, Same H H' → FzAt w H' (.dx es) u → Q u H') := by
      refine F.ok scFz (fun vs H Q E h => by obtain ⟨a, es, e, _⟩ := h; rw [e]; rfl) fun cdv A outer s H vs Q E hr hsp => ?_
      obtain ⟨a, es, rfl, ho, sh, mx, hA, hq⟩ := hsp
      have hu := hu_in hr
      have GA := ok_frozenA (P := P) (w := w) (base := base) F M
      refine ⟨_, pss_cons (ps_if (pt_val (pe_callB call_isiD rfl M.nI boot_isi (pa_cons (pv 0) (pa_cons (pe_bltn (v := .ty "dict") rfl M.nD boot_dict' rfl) pa_nil))))
        (pss_one (ps_ret (pe_callTy (call_dictPXw rfl rfl (hu_in2 hr)) rfl M.nD boot_dict' (pa_cons (pe_lock (pe_lc (own := [("key", 1)]) (tt := tYes) (g := gName 1) rfl nd (pi_keysXw rfl (pv 0)) (blkOk_by (N := NFz) (sc := defScope sFrozen) (by decide +kernel)) (fun _ _ _ _ _ => pg_name (i := 1) nd rfl (Or.inl rfl)) (fun _ _ _ _ _ => pts_nil)
          (fun _ _ _ _ _ => pe_tup (pa_cons (pv 1) (pa_cons (pe_call GA (hr.mono (by omega)) rfl gF F.kp b .nil pass0 (pa_cons (pe_dgetXw rfl hu (pv 0) (pv 1) (fun _ _ => rfl)) pa_nil)) pa_nil))))) pa_nil)))) pss_nil)
        pss_never, ?_⟩
      refine ⟨_, rfl, _, _, _, _, _, true, rfl, .ty _, .inl ho, kit_ty (by decide +kernel), _, rfl, iteT ?_⟩
      refine dict_walk ho (fun od R r => ⟨_, rfl, r⟩) (es.map some) (by rw [List.length_map]) (by omega) ?_ ?_ ?_ ?_
      · intro i e o od H' C N ee eo s' yes no
        rw [List.getElem?_map, ee] at eo
        obtain rfl : some e = o := Option.some.inj eo
        have tk : ∀ b vs, H b = some (.tup vs) → H' b = some (.tup vs) := fun b vs e => s' _ _ (by rw [upd_ne (fun z => by rw [z, ho] at e; cases e)]; exact e)
        have m' := mx.mono tk
        have hk : KeyH H' e.1 e.2.1 := m'.is_ i e.1 (e.2.1, e.2.2) (by rw [List.getElem?_map, ee]; rfl) (by rw [List.getElem?_map, ee]; rfl)
        refine ⟨rfl, ?_⟩
        refine ⟨_, rfl, _, rfl, _, rfl, a, _, _, e.1, i, (e.2.1, e.2.2), rfl, .inr ⟨od, s' _ _ upd_same⟩, m', hk, (by rw [List.getElem?_map, ee]; rfl), (by rw [List.getElem?_map, ee]; rfl), ?_⟩
        refine ⟨e.2.2, rfl, hA _ (List.mem_of_getElem? ee), fun H4 s4 => ⟨(by show 2 ≤ sizeLine; decide), fun t nt => yes e rfl t _ (s4.trans (same_new nt)) upd_same⟩⟩
      · intro x hx
        have ef : (es.map some).filterMap id = es := by rw [List.filterMap_map]; simp
        rw [ef] at hx
        obtain ⟨i, hi, ei⟩ := List.getElem_of_mem hx
        have ee : es[i]? = some x := by rw [List.getElem?_eq_getElem hi, ei]
        exact ⟨mx.is_ i x.1 (x.2.1, x.2.2) (by rw [List.getElem?_map, ee]; rfl) (by rw [List.getElem?_map, ee]; rfl), mx.dp _ (List.mem_map.mpr ⟨x, hx, rfl⟩)⟩
      · have ef : (es.map some).filterMap id = es := by rw [List.filterMap_map]; simp
        rw [ef]
        exact mx.nd
      · intro H' p np op mp s'
        have ef : (es.map some).filterMap id = es := by rw [List.filterMap_map]; simp
        rw [ef] at op mp
        exact hq _ _ s' (.dx op mp hA)
    refine ⟨fun vs H Q E h => by obtain ⟨v, t, e, _⟩ := h; rw [e]; rfl, fun A outer s H args us vs Q E hr he hb hv hs => ?_⟩
    obtain ⟨v, t, rfl, th, hq⟩ := hs
    cases th with
    | seq h len sh al => exact GS.run A outer s H args us _ Q E hr he hb hv ⟨_, _, _, rfl, h, len, sh, al, hq⟩
    | dic h sh nk at_ => exact GD.run A outer s H args us _ Q E hr he hb hv ⟨_, _, rfl, h, sh, nk, at_, hq⟩
    | dix h sh m at_ => exact GX.run A outer s H args us _ Q E hr he hb hv ⟨_, _, rfl, h, sh, m, at_, hq⟩
    | up h => exact GU.run A outer s H args us _ Q E hr he hb hv ⟨_, _, rfl, h, hq⟩
end
end L2.TB
/-! isinstance of a dict of any keys, against several classes -/
namespace L2.MK
open PySem PySem.Spec PyProof.Rows
theorem call_isiTD {X : Cx} {w : World} (hw : X.w = w) : CallR X (.builtin "isinstance") (fun xs H Q => ∃ (d : Addr) (es : List En) (tp : Addr) (cs : List V) (us : List Value) (b : Bool), xs = [.ref d, .ref tp] ∧ H tp = some (.tup cs) ∧ Paired ClsV cs us ∧ Rd H d (DE w d es) ∧ PySem.W.kitAny X.K (.type "dict") us = some b ∧ Q (.bl b) H) := by
  subst hw
  rintro pins s σ H xs us Q I r ⟨d, es, tp, cs, ws, b, rfl, hT, k, rd, e, q⟩
  obtain ⟨u1, u2, rfl, r1, r2⟩ := vals2 r
  cases (show u1 = Value.ref d from r1)
  cases (show u2 = Value.ref tp from r2)
  obtain ⟨od, z1, z2⟩ := dx_type I rd
  obtain ⟨_, its, rv, ⟨oc, oz, dt, sl⟩, h1, h2, n, h3⟩ := (show ObjOk X.prog X.w H s.heap tp (.tup cs) from I.hok tp _ hT)
  obtain rfl := ClsV.all k rv
  cases h2
  cases h3
  exact PySem.W.kia_tup PySem.W.kitx_dict I.kIn ⟨od, z1, z2⟩ h1 e (fun z => nomatch z) fun tk => ⟨.bl b, H, I.tok tk, rfl, q⟩
end L2.MK
/-! the law's look whether two things are the same: texts, numbers, None, dicts, lists and tuples of these -/
namespace L2.TB
open PySem PySem.Spec PyProof.Rows MK
abbrev NSm : List Str := ["found", "due", "x", "y"]
theorem scSame : FnScope NSm ["found", "due"] (defScope sSame) := ⟨rfl, rfl, rfl, by decide +kernel, rfl, by decide +kernel, by decide +kernel⟩
/-- the names that it reads -/
structure Sm (mg : Str → Option Value) : Prop where
  nI : mg "isinstance" = none
  nL : mg "list" = none
  nT : mg "tuple" = none
  nInt : mg "int" = none
  nB : mg "bool" = none
  nN : mg "len" = none
  nA : mg "all" = none
  nZ : mg "zip" = none
/-- alike, to this depth -/
inductive AlkF (w : World) (H : Hp) : Nat → V → V → Prop
  | one {v : V} (h : Atom v) : AlkF w H 0 v v
  | dic {a b : Addr} {kvs : List (Key × V)} (ha : H a = some (.dK kvs)) (hb : H b = some (.dK kvs)) (nd : (kvs.map (·.1)).Nodup) (at_ : ∀ kv ∈ kvs, Atom kv.2) : AlkF w H 0 (.ref a) (.ref b)
  | dx {a b : Addr} {es : List En} (ha : H a = some (DE w a es)) (hb : H b = some (DE w b es)) (m : MixE H es) (at_ : ∀ e ∈ es, Atom e.2.2) : AlkF w H 0 (.ref a) (.ref b)
  | lst {n : Nat} {a b : Addr} {xs ys : List V} (ha : H a = some (.lst xs)) (hb : H b = some (.lst ys)) (l : xs.length = ys.length) (sh : xs.length < 1000) (al : ∀ (i : Nat) (x y : V), xs[i]? = some x → ys[i]? = some y → AlkF w H n x y) : AlkF w H (n + 1) (.ref a) (.ref b)
  | tup {n : Nat} {a b : Addr} {xs ys : List V} (ha : H a = some (.tup xs)) (hb : H b = some (.tup ys)) (l : xs.length = ys.length) (sh : xs.length < 1000) (al : ∀ (i : Nat) (x y : V), xs[i]? = some x → ys[i]? = some y → AlkF w H n x y) : AlkF w H (n + 1) (.ref a) (.ref b)
  | up {n : Nat} {x y : V} (h : AlkF w H n x y) : AlkF w H (n + 1) x y
theorem AlkF.same {w : World} {H H' : Hp} (s : Same H H') {n : Nat} {x y : V} (h : AlkF w H n x y) : AlkF w H' n x y := by
  induction h with
  | one h => exact .one h
  | dic ha hb nd at_ => exact .dic (s _ _ ha) (s _ _ hb) nd at_
  | dx ha hb m at_ => exact .dx (s _ _ ha) (s _ _ hb) (m.mono fun _ _ e => s _ _ e) at_
  | lst ha hb l sh _ ih => exact .lst (s _ _ ha) (s _ _ hb) l sh ih
  | tup ha hb l sh _ ih => exact .tup (s _ _ ha) (s _ _ hb) l sh ih
  | up _ ih => exact .up ih
theorem kit_three_n {K : PySem.W.Frag} {t : String} (h0 : kitB t "int" = some false) (h1 : kitB t "list" = some false) (h2 : kitB t "tuple" = some false) : PySem.W.kitAny K (.type t) [.type "int", .type "list", .type "tuple"] = some false :=
  kitAny_cons (b := false) (kit_ty h0) (fun _ => kit_two_n h1 h2) (fun z => by cases z)
theorem flat_atom {v : V} (a : Atom v) : flatB v = true := by cases a <;> rfl
def spSameF (w : World) (n : Nat) : Sp := fun vs H Q _ => ∃ x y : V, vs = [x, y] ∧ AlkF w H n x y ∧ ∀ H', Same H H' → Q (.bl true) H'
section
variable {P : Program} {w : World} {K : PySem.W.Frag} {mg : Str → Option Value} {base : Heap} {f : Addr} {fd : FuncData}
theorem same_num (F : Fun K "_law_same" "_law_same" sSame f fd) (M : Sm mg) : FnOk P w K mg base CX0 1 f fd ["found", "due"] (fun vs H Q _ => ∃ v : V, vs = [v, v] ∧ ((∃ i, v = .int i) ∨ ∃ b, v = .bl b) ∧ ∀ H', Same H H' → Q (.bl true) H') := by
  refine F.ok scSame (fun vs H Q E h => by obtain ⟨x, e, _⟩ := h; rw [e]; rfl) fun cdv A outer s H vs Q E hr hsp => ?_
  obtain ⟨v, rfl, hv, hq⟩ := hsp
  refine ⟨_, pss_cons (ps_if (pt_val (pe_callB (r := rIsiT K) call_isiT rfl M.nI boot_isi (pa_cons (pv 1) (pa_cons (pe_tup (pa_cons (pe_bltn (v := .ty "list") rfl M.nL boot_list' rfl) (pa_cons (pe_bltn (v := .ty "tuple") rfl M.nT boot_tuple' rfl) pa_nil))) pa_nil)))) pss_never pss_nil)
    (pss_cons (ps_if (pt_val (pe_callB (r := rIsi K) call_isi rfl M.nI boot_isi (pa_cons (pv 1) (pa_cons (pe_bltn (v := .ty "int") rfl M.nInt boot_int' rfl) pa_nil)))) (pss_one (ps_ret (pe_and (pe_callB (r := rIsi K) call_isi rfl M.nI boot_isi (pa_cons (pv 0) (pa_cons (pe_bltn (v := .ty "int") rfl M.nInt boot_int' rfl) pa_nil))) (pe_and (pe_cmpR op_eq (pe_callB (r := rIsi K) call_isi rfl M.nI boot_isi (pa_cons (pv 0) (pa_cons (pe_bltn (v := .ty "bool") rfl M.nB boot_bool' rfl) pa_nil))) (pe_callB (r := rIsi K) call_isi rfl M.nI boot_isi (pa_cons (pv 1) (pa_cons (pe_bltn (v := .ty "bool") rfl M.nB boot_bool' rfl) pa_nil))) (nomark _)) (pe_one (pe_cmpR op_eq (pv 0) (pv 1) (nomark _))))))) pss_nil) pss_never), ?_⟩
  refine ⟨_, rfl, (by show 2 ≤ sizeLine; decide), fun t nt => ?_⟩
  have st := same_new (o := .tup [.ty "list", .ty "tuple"]) nt
  rcases hv with ⟨k, rfl⟩ | ⟨k, rfl⟩
  · refine ⟨_, _, _, _, _, false, rfl, upd_same, .cons (.ty _) (.cons (.ty _) .nil), .base (.int k), kit_two_n (by decide +kernel) (by decide +kernel), _, rfl, iteF ?_⟩
    refine ⟨_, rfl, _, _, _, _, true, rfl, .ty _, .base (.int k), kit_ty (by decide +kernel), _, rfl, iteT ?_⟩
    refine ⟨_, rfl, _, _, _, _, true, rfl, .ty _, .base (.int k), kit_ty (by decide +kernel), _, rfl, iteT ?_⟩
    refine ⟨_, rfl, _, _, _, _, false, rfl, .ty _, .base (.int k), kit_ty (by decide +kernel), _, rfl, _, _, _, _, false, rfl, .ty _, .base (.int k), kit_ty (by decide +kernel), rfl, _, rfl, iteT ⟨_, rfl, _, rfl, rfl, ?_⟩⟩
    rw [decide_eq_true rfl]
    exact hq _ st
  · refine ⟨_, _, _, _, _, false, rfl, upd_same, .cons (.ty _) (.cons (.ty _) .nil), .base (.bl k), kit_two_n (by decide +kernel) (by decide +kernel), _, rfl, iteF ?_⟩
    refine ⟨_, rfl, _, _, _, _, true, rfl, .ty _, .base (.bl k), kit_ty (by decide +kernel), _, rfl, iteT ?_⟩
    refine ⟨_, rfl, _, _, _, _, true, rfl, .ty _, .base (.bl k), kit_ty (by decide +kernel), _, rfl, iteT ?_⟩
    refine ⟨_, rfl, _, _, _, _, true, rfl, .ty _, .base (.bl k), kit_ty (by decide +kernel), _, rfl, _, _, _, _, true, rfl, .ty _, .base (.bl k), kit_ty (by decide +kernel), rfl, _, rfl, iteT ⟨_, rfl, _, rfl, rfl, ?_⟩⟩
    rw [decide_eq_true rfl]
    exact hq _ st
/-- what is neither a number nor a list: by == -/
theorem same_oth (F : Fun K "_law_same" "_law_same" sSame f fd) (M : Sm mg) {x y : V} {r : R2} {t : String} (h0 : kitB t "int" = some false) (h1 : kitB t "list" = some false) (h2 : kitB t "tuple" = some false) (op : ∀ X : Cx, X.A.units + 1 < cLine → OpR X (compareOp .Eq) r) :
    FnOk P w K mg base CX0 1 f fd ["found", "due"] (fun vs H Q _ => vs = [x, y] ∧ TyX K H x (.type t) ∧ TyX K H y (.type t) ∧ ∀ H', Same H H' → r x y H' Q) := by
  refine F.ok scSame (fun vs H Q E h => by obtain ⟨e, _⟩ := h; rw [e]; rfl) fun cdv A outer s H vs Q E hr hsp => ?_
  obtain ⟨rfl, tx, ty, hq⟩ := hsp
  refine ⟨_, pss_cons (ps_if (pt_val (pe_callB (r := rIsiT K) call_isiT rfl M.nI boot_isi (pa_cons (pv 1) (pa_cons (pe_tup (pa_cons (pe_bltn (v := .ty "list") rfl M.nL boot_list' rfl) (pa_cons (pe_bltn (v := .ty "tuple") rfl M.nT boot_tuple' rfl) pa_nil))) pa_nil)))) pss_never pss_nil)
    (pss_cons (ps_if (pt_val (pe_callB (r := rIsi K) call_isi rfl M.nI boot_isi (pa_cons (pv 1) (pa_cons (pe_bltn (v := .ty "int") rfl M.nInt boot_int' rfl) pa_nil)))) pss_never pss_nil)
    (pss_one (ps_ret (pe_and (pe_cmpR op_isBl (pe_callB (r := rIsiT K) call_isiT rfl M.nI boot_isi (pa_cons (pv 0) (pa_cons (pe_tup (pa_cons (pe_bltn (v := .ty "int") rfl M.nInt boot_int' rfl) (pa_cons (pe_bltn (v := .ty "list") rfl M.nL boot_list' rfl) (pa_cons (pe_bltn (v := .ty "tuple") rfl M.nT boot_tuple' rfl) pa_nil)))) pa_nil))) pe_bl (nomark _)) (pe_one (pe_cmpR (op _ (hu_of hr)) (pv 0) (pv 1) (nomark _))))))), ?_⟩
  refine ⟨_, rfl, (by show 2 ≤ sizeLine; decide), fun t nt => ?_⟩
  have st := same_new (o := .tup [.ty "list", .ty "tuple"]) nt
  refine ⟨_, _, _, _, _, false, rfl, upd_same, .cons (.ty _) (.cons (.ty _) .nil), ty_same ty st, kit_two_n h1 h2, _, rfl, iteF ?_⟩
  refine ⟨_, rfl, _, _, _, _, false, rfl, .ty _, ty_same ty st, kit_ty h0, _, rfl, iteF ?_⟩
  refine ⟨_, rfl, (by show 3 ≤ sizeLine; decide), fun t2 nt2 => ?_⟩
  have st2 := same_new (o := .tup [.ty "int", .ty "list", .ty "tuple"]) nt2
  refine ⟨_, _, _, _, _, false, rfl, upd_same, .cons (.ty _) (.cons (.ty _) (.cons (.ty _) .nil)), ty_same tx (st.trans st2), kit_three_n h0 h1 h2, _, _, rfl, rfl, _, rfl, iteT ⟨_, rfl, _, rfl, ?_⟩⟩
  exact hq _ (st.trans st2)
theorem same_lst (F : Fun K "_law_same" "_law_same" sSame f fd) (gSm : mg "_law_same" = some (.ref f)) (M : Sm mg) {n : Nat} (G : FnOk P w K mg base CX0 (n + 1) f fd ["found", "due"] (spSameF w n)) : FnOk P w K mg base CX0 (n + 2) f fd ["found", "due"] (fun vs H Q _ => ∃ (a b : Addr) (xs ys : List V), vs = [.ref a, .ref b] ∧ H a = some (.lst xs) ∧ H b = some (.lst ys) ∧ xs.length = ys.length ∧ xs.length < 1000 ∧
    (∀ (i : Nat) (x y : V), xs[i]? = some x → ys[i]? = some y → AlkF w H n x y) ∧ ∀ H', Same H H' → Q (.bl true) H') := by
  have b := F.binds (ps := ["found", "due"]) fun _ _ _ _ _ _ us hl => match us, hl with | [_, _], _ => rfl
  refine F.ok scSame (fun vs H Q E h => by obtain ⟨a, b, xs, ys, e, _⟩ := h; rw [e]; rfl) fun cdv A outer s H vs Q E hr hsp => ?_
  obtain ⟨a, bb, xs, ys, rfl, ha, hb, len, short, al, hq⟩ := hsp
  have nd := scSame.nd
  refine ⟨_, pss_cons (ps_if (pt_val (pe_callB (r := rIsiT K) call_isiT rfl M.nI boot_isi (pa_cons (pv 1) (pa_cons (pe_tup (pa_cons (pe_bltn (v := .ty "list") rfl M.nL boot_list' rfl) (pa_cons (pe_bltn (v := .ty "tuple") rfl M.nT boot_tuple' rfl) pa_nil))) pa_nil))))
      (pss_cons (ps_if (PW.pt (pw_or (pt_cmpR op_ne (pe_callB (r := rIsi K) call_isi rfl M.nI boot_isi (pa_cons (pv 0) (pa_cons (pe_bltn (v := .ty "list") rfl M.nL boot_list' rfl) pa_nil))) (pe_callB (r := rIsi K) call_isi rfl M.nI boot_isi (pa_cons (pv 1) (pa_cons (pe_bltn (v := .ty "list") rfl M.nL boot_list' rfl) pa_nil))) (nomark _)) (pw_or1 (pt_cmpR op_ne (pe_callB (r := rIsi K) call_isi rfl M.nI boot_isi (pa_cons (pv 0) (pa_cons (pe_bltn (v := .ty "tuple") rfl M.nT boot_tuple' rfl) pa_nil))) (pe_callB (r := rIsi K) call_isi rfl M.nI boot_isi (pa_cons (pv 1) (pa_cons (pe_bltn (v := .ty "tuple") rfl M.nT boot_tuple' rfl) pa_nil))) (nomark _))))) pss_never pss_nil)
      (pss_one (ps_ret (pe_and (pe_cmpR op_eq (pe_callB call_len_seq rfl M.nN boot_len (pa_cons (pv 0) pa_nil)) (pe_callB call_len_seq rfl M.nN boot_len (pa_cons (pv 1) pa_nil)) (nomark _))
        (pe_one (pe_callB (cr_all rfl) rfl M.nA boot_all' (pa_cons (pe_lc (own := [("x", 2), ("y", 3)]) (tt := tYes) (g := gTup K 2 (gCons (gName 2) (gCons (gName 3) gNil))) rfl nd (RZ.pi_zipA rfl M.nZ (pa_cons (pv 0) (pa_cons (pv 1) pa_nil))) (blkOk_by (N := NSm) (sc := defScope sSame) (by decide +kernel))
          (fun _ _ _ _ _ => pg_tup rfl (pgs_cons (pg_name (i := 2) nd rfl (Or.inl rfl)) (pgs_cons (pg_name (i := 3) nd rfl (Or.inl rfl)) pgs_nil))) (fun _ _ _ _ _ => pts_nil)
          (fun _ _ _ _ _ => pe_call G hr rfl gSm F.kp b .nil pass0 (pa_cons (pv 2) (pa_cons (pv 3) pa_nil)))) pa_nil))))))) pss_nil) pss_never, ?_⟩
  refine ⟨_, rfl, (by show 2 ≤ sizeLine; decide), fun t nt => ?_⟩
  have st := same_new (o := .tup [.ty "list", .ty "tuple"]) nt
  refine ⟨_, _, _, _, _, true, rfl, upd_same, .cons (.ty _) (.cons (.ty _) .nil), .base (.lst (st _ _ hb)), kit_two_l, _, rfl, iteT ?_⟩
  generalize upd H t (.tup [.ty "list", .ty "tuple"]) = H1 at st
  have ha := st _ _ ha
  have hb := st _ _ hb
  refine ⟨_, rfl, _, _, _, _, true, rfl, .ty _, .base (.lst ha), kit_ty (by decide +kernel), _, rfl, _, _, _, _, true, rfl, .ty _, .base (.lst hb), kit_ty (by decide +kernel), rfl, _, rfl, iteF ?_⟩
  refine ⟨_, rfl, _, _, _, _, false, rfl, .ty _, .base (.lst ha), kit_ty (by decide +kernel), _, rfl, _, _, _, _, false, rfl, .ty _, .base (.lst hb), kit_ty (by decide +kernel), rfl, _, rfl, iteF ?_⟩
  refine ⟨_, rfl, a, _, rfl, .inl (SqL.of ha), _, rfl, bb, _, rfl, .inl (SqL.of hb), rfl, _, rfl, ?_⟩
  rw [dec_int2, decide_eq_true (by omega : ((xs.length : Nat) : Int) = (ys.length : Nat))]
  refine iteT ⟨_, rfl, _, rfl, a, bb, _, _, rfl, .inl ⟨SqL.of ha, SqL.of hb, ?_⟩⟩
  refine lc_gen (bools xs.length) (by rw [bools_len]; omega) (fun i H' s lt => ?_) (fun H' s => ?_) ?_ ?_
  · rw [bools_len] at lt
    exact ⟨_, _, _, _, SqL.of (s _ _ ha), SqL.of (s _ _ hb), List.getElem?_eq_getElem (by omega), List.getElem?_eq_getElem (by omega)⟩
  · exact ⟨_, _, SqL.of (s _ _ ha), SqL.of (s _ _ hb), .inl (by rw [bools_len]; exact Nat.le_refl _)⟩
  · rintro i v y H2 H3 Cn Nn ey s2 ⟨T, u1, u2, rfl, nT, rfl, e1, e2⟩ yes
    obtain ⟨rfl, lt⟩ := bools_at ey
    have e1 := e1 _ (SqL.of (s2 _ _ ha))
    have e2 := e2 _ (SqL.of (s2 _ _ hb))
    have sT := same_new (o := .tup [u1, u2]) nT
    refine ⟨T, _, rfl, SqT.of upd_same, rfl, _, _, rfl, _, _, rfl, rfl, rfl, ?_⟩
    exact ⟨_, rfl, _, rfl, u1, u2, rfl, (al i u1 u2 e1 e2).same ((st.trans s2).trans sT), fun H4 s4 => yes H4 (sT.trans s4)⟩
  · intro H2 D nD oD s2
    rw [bools_map] at oD
    refine ⟨D, _, rfl, SqL.of oD, ?_⟩
    rw [all_true]
    exact hq _ (st.trans s2)
theorem same_tup (F : Fun K "_law_same" "_law_same" sSame f fd) (gSm : mg "_law_same" = some (.ref f)) (M : Sm mg) {n : Nat} (G : FnOk P w K mg base CX0 (n + 1) f fd ["found", "due"] (spSameF w n)) : FnOk P w K mg base CX0 (n + 2) f fd ["found", "due"] (fun vs H Q _ => ∃ (a b : Addr) (xs ys : List V), vs = [.ref a, .ref b] ∧ H a = some (.tup xs) ∧ H b = some (.tup ys) ∧ xs.length = ys.length ∧ xs.length < 1000 ∧
    (∀ (i : Nat) (x y : V), xs[i]? = some x → ys[i]? = some y → AlkF w H n x y) ∧ ∀ H', Same H H' → Q (.bl true) H') := by
  have b := F.binds (ps := ["found", "due"]) fun _ _ _ _ _ _ us hl => match us, hl with | [_, _], _ => rfl
  refine F.ok scSame (fun vs H Q E h => by obtain ⟨a, b, xs, ys, e, _⟩ := h; rw [e]; rfl) fun cdv A outer s H vs Q E hr hsp => ?_
  obtain ⟨a, bb, xs, ys, rfl, ha, hb, len, short, al, hq⟩ := hsp
  have nd := scSame.nd
  refine ⟨_, pss_cons (ps_if (pt_val (pe_callB (r := rIsiT K) call_isiT rfl M.nI boot_isi (pa_cons (pv 1) (pa_cons (pe_tup (pa_cons (pe_bltn (v := .ty "list") rfl M.nL boot_list' rfl) (pa_cons (pe_bltn (v := .ty "tuple") rfl M.nT boot_tuple' rfl) pa_nil))) pa_nil))))
      (pss_cons (ps_if (PW.pt (pw_or (pt_cmpR op_ne (pe_callB (r := rIsi K) call_isi rfl M.nI boot_isi (pa_cons (pv 0) (pa_cons (pe_bltn (v := .ty "list") rfl M.nL boot_list' rfl) pa_nil))) (pe_callB (r := rIsi K) call_isi rfl M.nI boot_isi (pa_cons (pv 1) (pa_cons (pe_bltn (v := .ty "list") rfl M.nL boot_list' rfl) pa_nil))) (nomark _)) (pw_or1 (pt_cmpR op_ne (pe_callB (r := rIsi K) call_isi rfl M.nI boot_isi (pa_cons (pv 0) (pa_cons (pe_bltn (v := .ty "tuple") rfl M.nT boot_tuple' rfl) pa_nil))) (pe_callB (r := rIsi K) call_isi rfl M.nI boot_isi (pa_cons (pv 1) (pa_cons (pe_bltn (v := .ty "tuple") rfl M.nT boot_tuple' rfl) pa_nil))) (nomark _))))) pss_never pss_nil)
      (pss_one (ps_ret (pe_and (pe_cmpR op_eq (pe_callB call_len_seq rfl M.nN boot_len (pa_cons (pv 0) pa_nil)) (pe_callB call_len_seq rfl M.nN boot_len (pa_cons (pv 1) pa_nil)) (nomark _))
        (pe_one (pe_callB (cr_all rfl) rfl M.nA boot_all' (pa_cons (pe_lc (own := [("x", 2), ("y", 3)]) (tt := tYes) (g := gTup K 2 (gCons (gName 2) (gCons (gName 3) gNil))) rfl nd (RZ.pi_zipA rfl M.nZ (pa_cons (pv 0) (pa_cons (pv 1) pa_nil))) (blkOk_by (N := NSm) (sc := defScope sSame) (by decide +kernel))
          (fun _ _ _ _ _ => pg_tup rfl (pgs_cons (pg_name (i := 2) nd rfl (Or.inl rfl)) (pgs_cons (pg_name (i := 3) nd rfl (Or.inl rfl)) pgs_nil))) (fun _ _ _ _ _ => pts_nil)
          (fun _ _ _ _ _ => pe_call G hr rfl gSm F.kp b .nil pass0 (pa_cons (pv 2) (pa_cons (pv 3) pa_nil)))) pa_nil))))))) pss_nil) pss_never, ?_⟩
  refine ⟨_, rfl, (by show 2 ≤ sizeLine; decide), fun t nt => ?_⟩
  have st := same_new (o := .tup [.ty "list", .ty "tuple"]) nt
  refine ⟨_, _, _, _, _, true, rfl, upd_same, .cons (.ty _) (.cons (.ty _) .nil), .base (.tup (st _ _ hb)), kit_two_t, _, rfl, iteT ?_⟩
  generalize upd H t (.tup [.ty "list", .ty "tuple"]) = H1 at st
  have ha := st _ _ ha
  have hb := st _ _ hb
  refine ⟨_, rfl, _, _, _, _, false, rfl, .ty _, .base (.tup ha), kit_ty (by decide +kernel), _, rfl, _, _, _, _, false, rfl, .ty _, .base (.tup hb), kit_ty (by decide +kernel), rfl, _, rfl, iteF ?_⟩
  refine ⟨_, rfl, _, _, _, _, true, rfl, .ty _, .base (.tup ha), kit_ty (by decide +kernel), _, rfl, _, _, _, _, true, rfl, .ty _, .base (.tup hb), kit_ty (by decide +kernel), rfl, _, rfl, iteF ?_⟩
  refine ⟨_, rfl, a, _, rfl, .inr (SqT.of ha), _, rfl, bb, _, rfl, .inr (SqT.of hb), rfl, _, rfl, ?_⟩
  rw [dec_int2, decide_eq_true (by omega : ((xs.length : Nat) : Int) = (ys.length : Nat))]
  refine iteT ⟨_, rfl, _, rfl, a, bb, _, _, rfl, .inr ⟨SqT.of ha, SqT.of hb, ?_⟩⟩
  refine lc_gen (bools xs.length) (by rw [bools_len]; omega) (fun i H' s lt => ?_) (fun H' s => ?_) ?_ ?_
  · rw [bools_len] at lt
    exact ⟨_, _, _, _, SqT.of (s _ _ ha), SqT.of (s _ _ hb), List.getElem?_eq_getElem (by omega), List.getElem?_eq_getElem (by omega)⟩
  · exact ⟨_, _, SqT.of (s _ _ ha), SqT.of (s _ _ hb), .inl (by rw [bools_len]; exact Nat.le_refl _)⟩
  · rintro i v y H2 H3 Cn Nn ey s2 ⟨T, u1, u2, rfl, nT, rfl, e1, e2⟩ yes
    obtain ⟨rfl, lt⟩ := bools_at ey
    have e1 := e1 _ (SqT.of (s2 _ _ ha))
    have e2 := e2 _ (SqT.of (s2 _ _ hb))
    have sT := same_new (o := .tup [u1, u2]) nT
    refine ⟨T, _, rfl, SqT.of upd_same, rfl, _, _, rfl, _, _, rfl, rfl, rfl, ?_⟩
    exact ⟨_, rfl, _, rfl, u1, u2, rfl, (al i u1 u2 e1 e2).same ((st.trans s2).trans sT), fun H4 s4 => yes H4 (sT.trans s4)⟩
  · intro H2 D nD oD s2
    rw [bools_map] at oD
    refine ⟨D, _, rfl, SqL.of oD, ?_⟩
    rw [all_true]
    exact hq _ (st.trans s2)
theorem same_dx (F : Fun K "_law_same" "_law_same" sSame f fd) (M : Sm mg) :
    FnOk P w K mg base CX0 1 f fd ["found", "due"] (fun vs H Q _ => ∃ (a b : Addr) (es : List En), vs = [.ref a, .ref b] ∧ H a = some (DE w a es) ∧ H b = some (DE w b es) ∧ MixE H es ∧ (∀ e ∈ es, Atom e.2.2) ∧ ∀ H', Same H H' → Q (.bl true) H') := by
  refine F.ok scSame (fun vs H Q E h => by obtain ⟨a, b, es, e, _⟩ := h; rw [e]; rfl) fun cdv A outer s H vs Q E hr hsp => ?_
  obtain ⟨a, b, es, rfl, ha, hb, m, at_, hq⟩ := hsp
  have hl : (A.deeper (envOfC "_law_same" (defScope sSame) s.heap.objs.size f cdv)).units < cLine := by have := hr.un; omega
  refine ⟨_, pss_cons (ps_if (pt_val (pe_callB (call_isiTD rfl) rfl M.nI boot_isi (pa_cons (pv 1) (pa_cons (pe_tup (pa_cons (pe_bltn (v := .ty "list") rfl M.nL boot_list' rfl) (pa_cons (pe_bltn (v := .ty "tuple") rfl M.nT boot_tuple' rfl) pa_nil))) pa_nil)))) pss_never pss_nil)
    (pss_cons (ps_if (pt_val (pe_callB call_isiD rfl M.nI boot_isi (pa_cons (pv 1) (pa_cons (pe_bltn (v := .ty "int") rfl M.nInt boot_int' rfl) pa_nil)))) pss_never pss_nil)
    (pss_one (ps_ret (pe_and (pe_cmpR op_isBl (pe_callB (call_isiTD rfl) rfl M.nI boot_isi (pa_cons (pv 0) (pa_cons (pe_tup (pa_cons (pe_bltn (v := .ty "int") rfl M.nInt boot_int' rfl) (pa_cons (pe_bltn (v := .ty "list") rfl M.nL boot_list' rfl) (pa_cons (pe_bltn (v := .ty "tuple") rfl M.nT boot_tuple' rfl) pa_nil)))) pa_nil))) pe_bl (nomark _)) (pe_one (pe_cmpR (op_eqX rfl (hu_in hr) hl) (pv 0) (pv 1) (nomark _))))))), ?_⟩
  refine ⟨_, rfl, (by show 2 ≤ sizeLine; decide), fun t nt => ?_⟩
  have st := same_new (o := .tup [.ty "list", .ty "tuple"]) nt
  refine ⟨_, _, _, _, _, false, rfl, upd_same, .cons (.ty _) (.cons (.ty _) .nil), .inl (st _ _ hb), kit_two_n (by decide +kernel) (by decide +kernel), _, rfl, iteF ?_⟩
  refine ⟨_, rfl, _, _, _, _, _, false, rfl, .ty _, .inl (st _ _ hb), kit_ty (by decide +kernel), _, rfl, iteF ?_⟩
  refine ⟨_, rfl, (by show 3 ≤ sizeLine; decide), fun t2 nt2 => ?_⟩
  have st2 := same_new (o := .tup [.ty "int", .ty "list", .ty "tuple"]) nt2
  have s02 := st.trans st2
  refine ⟨_, _, _, _, _, false, rfl, upd_same, .cons (.ty _) (.cons (.ty _) (.cons (.ty _) .nil)), .inl (s02 _ _ ha), kit_three_n (by decide +kernel) (by decide +kernel) (by decide +kernel), _, _, rfl, rfl, _, rfl, iteT ⟨_, rfl, _, rfl, ?_⟩⟩
  have m2 : MixE _ es := m.mono fun _ _ e => s02 _ _ e
  refine ⟨a, b, es, es, rfl, rfl, .inl (s02 _ _ ha), .inl (s02 _ _ hb), m2, m2, rfl, fun e he => ⟨?_, flat_atom (at_ e he)⟩, hq _ s02⟩
  obtain ⟨i, hi, ei⟩ := List.getElem_of_mem he
  exact valE_at m.nd (by rw [List.getElem?_eq_getElem hi, ei])
theorem ok_sameF (F : Fun K "_law_same" "_law_same" sSame f fd) (gSm : mg "_law_same" = some (.ref f)) (M : Sm mg) : ∀ n : Nat, FnOk P w K mg base CX0 (n + 1) f fd ["found", "due"] (spSameF w n)
  | 0 => by
    refine ⟨fun vs H Q E h => by obtain ⟨x, y, e, _⟩ := h; rw [e]; rfl, fun A outer s H args us vs Q E hr he hb hv hs => ?_⟩
    obtain ⟨x, y, rfl, al, hq⟩ := hs
    cases al with
    | one h =>
      cases h with
      | int i => exact (same_num F M).run A outer s H args us _ Q E hr he hb hv ⟨_, rfl, .inl ⟨i, rfl⟩, hq⟩
      | bl i => exact (same_num F M).run A outer s H args us _ Q E hr he hb hv ⟨_, rfl, .inr ⟨i, rfl⟩, hq⟩
      | str z => exact (same_oth F M (x := .str z) (y := .str z) (r := rEq) (t := "str") (by decide +kernel) (by decide +kernel) (by decide +kernel) fun X _ => op_eq).run A outer s H args us _ Q E hr he hb hv ⟨rfl, .base (.str z), .base (.str z), fun H' s => ⟨rfl, by rw [decide_eq_true rfl]; exact hq _ s⟩⟩
      | non => exact (same_oth F M (x := .non) (y := .non) (r := rEq) (t := "NoneType") (by decide +kernel) (by decide +kernel) (by decide +kernel) fun X _ => op_eq).run A outer s H args us _ Q E hr he hb hv ⟨rfl, .base .non, .base .non, fun H' s => ⟨rfl, by rw [decide_eq_true rfl]; exact hq _ s⟩⟩
    | dx ha hb' m at_ => exact (same_dx F M).run A outer s H args us _ Q E hr he hb hv ⟨_, _, _, rfl, ha, hb', m, at_, hq⟩
    | @dic a b kvs ha hb' nd at_ =>
      have all : ∀ p ∈ kvs, valV kvs p.1 = some p.2 ∧ flatB p.2 = true := fun p hp => by
        obtain ⟨i, hi⟩ := List.mem_iff_getElem?.mp hp
        exact ⟨valV_at nd hi, flat_atom (at_ p hp)⟩
      exact (same_oth F M (x := .ref a) (y := .ref b) (r := rEqDA) (t := "dict") (by decide +kernel) (by decide +kernel) (by decide +kernel) fun X hu => op_eq_dictA (by omega)).run A outer s H args us _ Q E hr he hb hv
        ⟨rfl, .base (.dK ha), .base (.dK hb'), fun H' s => ⟨a, b, kvs, kvs, rfl, rfl, s _ _ ha, s _ _ hb', rfl, all, hq _ s⟩⟩
  | n + 1 => by
    have G := ok_sameF F gSm M n
    have GU : FnOk P w K mg base CX0 (n + 2) f fd ["found", "due"] (spSameF w n) := G.mono (Nat.le_succ _)
    refine ⟨fun vs H Q E h => by obtain ⟨x, y, e, _⟩ := h; rw [e]; rfl, fun A outer s H args us vs Q E hr he hb hv hs => ?_⟩
    obtain ⟨x, y, rfl, al, hq⟩ := hs
    cases al with
    | lst ha hb' l sh al => exact (same_lst F gSm M G).run A outer s H args us _ Q E hr he hb hv ⟨_, _, _, _, rfl, ha, hb', l, sh, al, hq⟩
    | tup ha hb' l sh al => exact (same_tup F gSm M G).run A outer s H args us _ Q E hr he hb hv ⟨_, _, _, _, rfl, ha, hb', l, sh, al, hq⟩
    | up h => exact GU.run A outer s H args us _ Q E hr he hb hv ⟨_, _, rfl, h, hq⟩
end
end L2.TB
/-! the checks, both ways: they let through, or an error of their class flies -/
namespace L2.TB
open PySem PySem.Spec PyProof.Rows
structure ErrF (P : Program) (w : World) (K : PySem.W.Frag) (mg : Str → Option Value) (base : Heap) (x : Str) (C : Addr) (fld : Str) : Prop where
  g : mg x = some (.ref C)
  ex : ∃ (fI : Addr) (fd : FuncData) (y : Str), ErrC K C fI fld ∧ FnOk P w K mg base CX0 1 fI fd ["self", y] (spErr K fld) ∧ Binds K fd ["self", y] []
def tRaise (K : PySem.W.Frag) (C : Addr) (fld : Str) (te : TE) (W : WX) : TS := fun _ σ H => tMkO C (spErr K fld) [] (tCons te tNil) σ H fun cls d H' => W cls d σ H'
theorem ps_raiseE {X : Cx} {W : WX} {x fld : Str} {C : Addr} {e : Expr} {te : TE} {p pos pos2 : Pos} (hc : X.calm = true) (tk : Takes X W) (E : ErrF X.prog X.w X.K X.mg X.base x C fld) (hr : Room 2 X.A) (hg : Gl X x) (he : PE X e te)
    (hdb : (x == ("__debug__" : Str)) = false := by decide) (hs : starEach [e] X.env = (false, eval e X.env) :: starEach [] X.env := by rfl) : PS X (.Raise (some (.Call (.Name x p) [e] [] pos)) none pos2) (tRaise X.K C fld te W) := by
  obtain ⟨fI, fd, y, EC, G, b⟩ := E.ex
  exact ps_raise hc tk (pmk_err EC G b hr hg E.g he hdb hs)
theorem Flies.up {P : Program} {w : World} {K : PySem.W.Frag} {mg : Str → Option Value} {base : Heap} {x fld : Str} {C : Addr} {v : V} {H1 : Hp} {Q : XK} (E : ErrF P w K mg base x C fld) (h : Flies C fld v H1 Q) :
    [v].length ≤ 1000 ∧ ∀ a, H1 a = none → spErr K fld (.ref a :: ([v] ++ [])) (upd H1 a (exo a C none))
      (fun v H2 => v = .non ∧ ∃ (d : Addr) (fs : List (Str × V)), H2 a = some (exo a C (some d)) ∧ H2 d = some (exd d fs) ∧ H1 d = none ∧ Q (.ref C) (some d) (upd (del H2 a) d (.xd fs))) (fun _ _ _ => False) := by
  obtain ⟨fI, fd, y, EC, _⟩ := E.ex
  exact Flies.mk EC h
/-- what is asked is no question -/
def BadAsk (K : PySem.W.Frag) (H : Hp) (ns : List Str) (v : V) : Prop := (∃ x, v = .str x ∧ x ∉ ns) ∨ NoStr K H v
theorem BadAsk.same {K : PySem.W.Frag} {H H' : Hp} {ns : List Str} {v : V} (h : BadAsk K H ns v) (s : Same H H') : BadAsk K H' ns v := h.imp id fun h => h.same s
def spCkKX (K : PySem.W.Frag) (CK : Addr) : Sp := fun vs H Q E => ∃ (c : Addr) (ns : List Str) (v : V) (r : Option Nat), vs = [.ref c, v] ∧ H c = some (.lst (ns.map V.str)) ∧ Bad K H ns v r ∧ (r = none → ∀ H', Same H H' → Q .non H') ∧ ∀ i : Nat, r = some i → Flies CK "index" (.int i) H E
def spCkAX (K : PySem.W.Frag) (CQ : Addr) : Sp := fun vs H Q E => ∃ (c : Addr) (ns : List Str) (v : V), vs = [.ref c, v] ∧ SqL K H c (ns.map V.str) ∧ ((∃ x, v = .str x ∧ x ∈ ns ∧ Q .non H) ∨ (BadAsk K H ns v ∧ Flies CQ "name" v H E))
def spCkBX (K : PySem.W.Frag) (CK CQ : Addr) : Sp := fun vs H Q E => ∃ (c : Addr) (ns : List Str) (v x : V) (r : Option Nat), vs = [.ref c, v, x] ∧ H c = some (.lst (ns.map V.str)) ∧ Bad K H ns v r ∧
  ((∃ i : Nat, r = some i ∧ Flies CK "index" (.int i) H E) ∨ (r = none ∧ ((∃ y, x = .str y ∧ y ∈ ns ∧ ∀ H', Same H H' → Q .non H') ∨ (BadAsk K H ns x ∧ Flies CQ "name" x H E))))
section
variable {P : Program} {w : World} {K : PySem.W.Frag} {mg : Str → Option Value} {base : Heap} {f CK CQ aF aL aO aK aA aB : Addr} {fd fdK fdA : FuncData}
theorem ok_ckKX (C : Chk K mg aF aL aO aK aA aB) (EK : ErrF P w K mg base "BadKnown" CK "index") (F : Fun K "check_known" "check_known" sCkK f fd) : FnOk P w K mg base (L2.CX P w) 3 f fd ["names", "known"] (spCkKX K CK) := by
  obtain ⟨fdF, FF⟩ := C.F
  obtain ⟨fdL, FL⟩ := C.L
  obtain ⟨fdO, FO⟩ := C.O
  have G : FnOk P w K mg base CX0 2 aF fdF ["names", "things"] (spFirstG K) := ok_firstG FF FL C.gL FO C.gO C.nI C.nL C.nT C.nS C.nE
  have b := FF.binds (ps := ["names", "things"]) fun _ _ _ _ _ _ us hl => match us, hl with | [_, _], _ => rfl
  refine F.okX scCkK (fun vs H Q E h => by obtain ⟨c, ns, v, r, e, _⟩ := h; rw [e]; rfl) fun cdv A outer s H vs Q E hr hsp => ?_
  obtain ⟨c, ns, v, r, rfl, hc, hB, hq, hf⟩ := hsp
  have nd := scCkK.nd
  refine ⟨_, pss_cons (ps_set (i := 2) nd rfl (Or.inl rfl) (pe_call G hr rfl C.gF FF.kp b .nil pass0 (pa_cons (pv 0) (pa_cons (pv 1) pa_nil))))
    (pss_one (ps_if (pt_cmp (pc_notN (pv 2))) (pss_one (ps_raiseE rfl (takes_of rfl rfl rfl rfl) EK hr rfl (pv 2))) pss_nil)), ?_⟩
  refine ⟨_, rfl, _, rfl, c, ns, v, r, rfl, hc, hB, fun H1 k1 => ?_⟩
  cases r with
  | none => exact ⟨_, rfl, _, rfl, iteF (hq rfl H1 k1)⟩
  | some i => exact ⟨_, rfl, _, rfl, iteT ⟨_, rfl, ((hf i rfl).same k1).up EK⟩⟩
theorem ok_ckAX (C : Chk K mg aF aL aO aK aA aB) (EQ : ErrF P w K mg base "NoQuestion" CQ "name") (F : Fun K "check_asked" "check_asked" sCkA f fd) : FnOk P w K mg base (L2.CX P w) 3 f fd ["names", "asked"] (spCkAX K CQ) := by
  obtain ⟨fdO, FO⟩ := C.O
  have G : FnOk P w K mg base CX0 1 aO fdO ["names", "thing"] (spIsOneG K) := ok_isOneG FO C.nI C.nS
  have b := FO.binds (ps := ["names", "thing"]) fun _ _ _ _ _ _ us hl => match us, hl with | [_, _], _ => rfl
  refine F.okX scCkA (fun vs H Q E h => by obtain ⟨c, ns, x, e, _⟩ := h; rw [e]; rfl) fun cdv A outer s H vs Q E hr hsp => ?_
  obtain ⟨c, ns, v, rfl, hc, hq⟩ := hsp
  refine ⟨_, pss_one (ps_if (pt_not (pt_val (pe_call G (hr.mono (by decide)) rfl C.gO FO.kp b .nil pass0 (pa_cons (pv 0) (pa_cons (pv 1) pa_nil))))) (pss_one (ps_raiseE rfl (takes_of rfl rfl rfl rfl) EQ hr rfl (pv 1))) pss_nil), ?_⟩
  refine ⟨_, rfl, _, rfl, c, ns, v, rfl, hc, ?_⟩
  rcases hq with ⟨x, rfl, xin, hq⟩ | ⟨⟨x, rfl, xin⟩ | hN, hf⟩
  · exact .inl ⟨x, rfl, _, rfl, by rw [decide_eq_true xin]; exact iteF hq⟩
  · exact .inl ⟨x, rfl, _, rfl, by rw [decide_eq_false xin]; exact iteT ⟨_, rfl, hf.up EQ⟩⟩
  · exact .inr ⟨hN, _, rfl, iteT ⟨_, rfl, hf.up EQ⟩⟩
theorem ok_ckBX (C : Chk K mg aF aL aO aK aA aB) (EK : ErrF P w K mg base "BadKnown" CK "index") (EQ : ErrF P w K mg base "NoQuestion" CQ "name") (F : Fun K "check_both" "check_both" sCkB f fd) : FnOk P w K mg base (L2.CX P w) 4 f fd ["names", "known", "asked"] (spCkBX K CK CQ) := by
  obtain ⟨fdK, FK⟩ := C.CK
  obtain ⟨fdA, FA⟩ := C.CA
  have GK : FnOk P w K mg base (L2.CX P w) 3 aK fdK ["names", "known"] (spCkKX K CK) := ok_ckKX C EK FK
  have GA : FnOk P w K mg base (L2.CX P w) 3 aA fdA ["names", "asked"] (spCkAX K CQ) := ok_ckAX C EQ FA
  have bK := FK.binds (ps := ["names", "known"]) fun _ _ _ _ _ _ us hl => match us, hl with | [_, _], _ => rfl
  have bA := FA.binds (ps := ["names", "asked"]) fun _ _ _ _ _ _ us hl => match us, hl with | [_, _], _ => rfl
  refine F.okX scCkB (fun vs H Q E h => by obtain ⟨c, ns, v, x, r, e, _⟩ := h; rw [e]; rfl) fun cdv A outer s H vs Q E hr hsp => ?_
  obtain ⟨c, ns, v, x, r, rfl, hc, hB, hq⟩ := hsp
  refine ⟨_, pss_cons (ps_expr (pe_callS GK hr rfl C.gCK FK.kp bK (fun σ => passAt (takes_of rfl rfl rfl rfl) σ) (pa_cons (pv 0) (pa_cons (pv 1) pa_nil))))
    (pss_one (ps_expr (pe_callS GA hr rfl C.gCA FA.kp bA (fun σ => passAt (takes_of rfl rfl rfl rfl) σ) (pa_cons (pv 0) (pa_cons (pv 2) pa_nil))))), ?_⟩
  refine ⟨_, rfl, _, rfl, c, ns, v, r, rfl, hc, hB, fun er H1 k1 => ?_, fun i er => ?_⟩
  · rcases hq with ⟨i, e2, _⟩ | ⟨_, hq⟩
    · rw [er] at e2; cases e2
    · refine ⟨_, rfl, _, rfl, c, ns, x, rfl, SqL.of (k1 _ _ hc), ?_⟩
      rcases hq with ⟨y, rfl, yin, hq⟩ | ⟨hb, hf⟩
      · exact .inl ⟨y, rfl, yin, hq H1 k1⟩
      · exact .inr ⟨hb.same k1, hf.same k1⟩
  · rcases hq with ⟨j, e2, hf⟩ | ⟨e2, _⟩
    · rw [er] at e2; cases e2; exact hf
    · rw [er] at e2; cases e2
end
end L2.TB
/-! a refused call, as _law_tried tells it -/
namespace L2.TB
open PySem PySem.Spec PyProof.Rows LamX MK
theorem tried_by {w : World} {cs : List Clz} {CU : Addr} {c : Clz} {n : Nat} {v : V} {tr : Tr} {H : Hp} {Q : VK} (hc : c ∈ cs) (th : Thg w H n v tr) (h : ∀ H' u, Same H H' → FzAt w H' (.tu [.one (.str c.tag), tr]) u → Q u H') :
    ∀ E : XK, (∀ cls d H', EchT cs CU (spFrozen w (n + 1)) Q cls d H' → E cls d H') → Flies c.C c.fld v H E := by
  intro E hE d H' s nd hd
  refine hE _ _ _ (.inl ⟨c, d, _, v, hc, rfl, rfl, hd, by simp [List.lookup], fun t nt => ?_⟩)
  have st := same_new (o := .tup [.str c.tag, v]) nt
  refine ⟨.ref t, .tu [.one (.str c.tag), tr], rfl, .seq (.inr upd_same) rfl (by show 2 < 1000; omega) (fun i x y e1 e2 => ?_), fun H2 u s2 fu => h H2 u ((s.trans st).trans s2) fu⟩
  match i, e1, e2 with
  | 0, e1, e2 =>
    obtain rfl := Option.some.inj e1
    obtain rfl := Option.some.inj e2
    have z : ∀ m, Thg w (upd H' t (.tup [.str c.tag, v])) m (.str c.tag) (.one (.str c.tag)) := fun m => by
      induction m with
      | zero => exact .one (.str _)
      | succ m ih => exact .up ih
    exact z n
  | 1, e1, e2 =>
    obtain rfl := Option.some.inj e1
    obtain rfl := Option.some.inj e2
    exact th.same (s.trans st)
  | i + 2, e1, e2 => cases e1
/-- what a def with lambdas knows of _law_tried and of its own code -/
structure Trd (P : Program) (w : World) (K : PySem.W.Frag) (mg : Str → Option Value) (A : ErrA) : Prop where
  O : ClzOk K mg (clz6 A) A.CU
  T : ∃ g fd, mg "_law_tried" = some (.ref g) ∧ Fun K "_law_tried" "_law_tried" sTried g fd
  Z : ∃ fz fdz, mg "_law_frozen" = some (.ref fz) ∧ Fun K "_law_frozen" "_law_frozen" sFrozen fz fdz
  M : FzM mg
/-- _law_tried(lambda: body) -/
theorem pe_tried {X : Cx} {EA : ErrA} (R : Trd X.prog X.w X.K X.mg EA) (n : Nat) {T : List (Addr × Str)} {c Pt : Addr} {k : Nat} {params : Arguments} {body : Expr} {scope : Scope} {t : XK → TE} {p lpos pos : Pos} (hg : Gl X "_law_tried")
    (TB : TabB X.base X.mg c Pt) (hcode : X.env.code = .ref c) (hmT : (Pt, X.env.qual ++ "<lambda>") ∈ T) (hu : ∀ p ∈ T, p.1 = Pt → p.2 = X.env.qual ++ "<lambda>") (hr : Room (k + 2) X.A) (hn : n + 1 ≤ k) (L : LamS X.env.scope scope) (hdef : defaultsOf params X.env = ([], []))
    (hbind : ∀ (q : Str) (cl : List (Str × Addr)) (pm cv ctv : Value), bindArgs (PySem.W.kla_fn "<lambda>" q params body scope cl pm cv ctv) ⟨[], []⟩ = pure [])
    (hbody : ∀ (A : Around) (outer : List Env) (s : Shared) (H : Hp) (E : XK) (f c' : Addr), Room k (A.deeper (lamEnv X scope s.heap.objs.size f c')) → PE (lamCx X A outer s H E scope f c') body (t E)) :
    PE X (.Call (.Name "_law_tried" p) [.Lambda params body scope lpos] [] pos) (tLam T (TTr (clz6 EA) EA.CU (spFrozen X.w n)) t) := by
  obtain ⟨g, fd, gT, FT⟩ := R.T
  obtain ⟨fz, fdz, gZ, FZ⟩ := R.Z
  have bT := FT.binds (ps := ["ask"]) fun _ _ _ _ _ _ us hl => match us, hl with | [_], _ => rfl
  have kp := FT.kp
  obtain ⟨oc, od, kV, doc, pm, an, cdv, ct, osl, rfl, lk, hcd⟩ := FT.ex
  have GZ : FnOk X.prog X.w X.K X.mg X.base CX0 (n + 1) fz fdz ["thing"] (spFrozen X.w n) := ok_frozen FZ gZ R.M n
  exact pe_lamcall (Ng := NTd) (a := "ask") hg gT kp lk hcd bT scTd rfl (.inl rfl) (tried_gives (k := n + 1) R.O (hr.mono (by omega)) GZ FZ gZ) TB hcode hmT hu hr L hdef hbind hbody
end L2.TB
/-! refused calls gathered in a list -/
namespace L2.TB
open PySem PySem.Spec PyProof.Rows LamX MK
theorem FzAt.ext {w : World} {H H' : Hp} {t : Tr} {v : V} (h : FzAt w H t v) (s : ExtN H H') : FzAt w H' t v := by
  induction h with
  | one h => exact .one h
  | tu h len sh _ ih => exact .tu (s _ _ h (fun _ z => by cases z)) len sh ih
  | di h at_ => exact .di (s _ _ h (fun _ z => by cases z)) at_
  | dx h m at_ => exact .dx (s _ _ h (fun _ z => by unfold DE DX at z; cases z)) (m.mono fun _ _ e => s _ _ e (fun _ z => by cases z)) at_
/-- all but the list at q and the tables stays -/
def GrowQ (q : Addr) (H H' : Hp) : Prop := ∀ b o, b ≠ q → H b = some o → (∀ ps, o ≠ .tbl ps) → H' b = some o
theorem GrowQ.trans {q : Addr} {H H1 H2 : Hp} (a : GrowQ q H H1) (b : GrowQ q H1 H2) : GrowQ q H H2 := fun c o n e no => b c o n (a c o n e no) no
theorem GrowQ.of {q : Addr} {H H' : Hp} (s : ExtN H H') : GrowQ q H H' := fun b o _ e no => s b o e no
/-- the list at q holds m of what is frozen tr -/
def FoundAt (w : World) (H : Hp) (q : Addr) (tr : Tr) (m : Nat) : Prop := ∃ us : List V, H q = some (.lst us) ∧ us.length = m ∧ ∀ u ∈ us, FzAt w H tr u
theorem Tabs.list {T : List (Addr × Str)} {H : Hp} {q : Addr} {us vs : List V} (t : Tabs T H) (hq : H q = some (.lst us)) : Tabs T (upd H q (.lst vs)) := fun p hp => by
  obtain ⟨ps, h1, h2, h3⟩ := t p hp
  refine ⟨ps, by rw [upd_ne (fun z => by rw [z, hq] at h1; cases h1)]; exact h1, h2, fun pos cv hc => ?_⟩
  obtain ⟨c, e1, e2⟩ := h3 pos cv hc
  refine ⟨c, e1, ?_⟩
  have ne : c ≠ q := fun z => by
    rw [z, hq] at e2
    have e3 := Option.some.inj e2
    unfold CodeO at e3
    cases e3
  rw [upd_ne ne]
  exact e2
section
variable {w : World} {K : PySem.W.Frag} {cs : List Clz} {CU : Addr} {n m j : Nat} {T : List (Addr × Str)} {t : XK → TE} {D : Ends} {σ : L2.St} {H : Hp} {q : Addr} {tr : Tr} {c : Clz} {v : V}
/-- found.append(_law_tried(lambda: ..)) -/
theorem app_read (hσ : σ[j]? = some (some (.ref q))) (FA : FoundAt w H q (.tu [.one (.str c.tag), tr]) m) (hm : m < 100) (TH : Tabs T H) (hc : c ∈ cs) (th : ∀ H1, ExtN H H1 → Thg w H1 n v tr)
    (call : ∀ (H1 : Hp) (E : XK) (R : VK), ExtN H H1 → Tabs T H1 → Flies c.C c.fld v H1 E → t E σ H1 R) (next : ∀ H', GrowQ q H H' → Tabs T H' → FoundAt w H' q (.tu [.one (.str c.tag), tr]) (m + 1) → D.nx σ H') :
    tDrop (tBM K "list" rAppend (tVar j) (tCons (tLam T (TTr cs CU (spFrozen w (n + 1))) t) tNil)) D σ H := by
  obtain ⟨us, hq, lu, fu⟩ := FA
  refine ⟨_, hσ, .inl ⟨rfl, _, SqL.of hq⟩, TH, fun H1 eN T1 E R hE => call H1 E R eN T1 (tried_by hc (th H1 eN) (fun H2 u s2 f2 => ?_) E hE)⟩
  have q1 : H1 q = some (.lst us) := eN _ _ hq (fun _ z => by cases z)
  have q2 : H2 q = some (.lst us) := s2 _ _ q1
  refine ⟨q, us, u, rfl, rfl, q2, by rw [sizeLine_eq]; omega, next _ (fun b o nb e no => by rw [upd_ne nb]; exact s2 _ _ (eN _ _ e no)) (Tabs.list (T1.ext s2) q2) ⟨us ++ [u], upd_same, by simp [lu], fun x hx => ?_⟩⟩
  have keep : ∀ b o, b ≠ q → H2 b = some o → upd H2 q (.lst (us ++ [u])) b = some o := fun b o nb e => by rw [upd_ne nb]; exact e
  rcases List.mem_append.mp hx with hx | hx
  · exact (((fu x hx).ext eN).same s2).but q2 keep
  · obtain rfl : x = u := by simpa using hx
    exact f2.but q2 keep
/-- found = [_law_tried(lambda: ..)] -/
theorem set_read {i : Nat} (TH : Tabs T H) (hc : c ∈ cs) (th : ∀ H1, ExtN H H1 → Thg w H1 n v tr)
    (call : ∀ (H1 : Hp) (E : XK) (R : VK), ExtN H H1 → Tabs T H1 → Flies c.C c.fld v H1 E → t E σ H1 R) (next : ∀ H' q, (∀ o, H q = some o → ∃ ps, o = .tbl ps) → ExtN H H' → Tabs T H' → FoundAt w H' q (.tu [.one (.str c.tag), tr]) 1 → gName i (.ref q) σ H' D.nx) :
    tAsg (tLst (tCons (tLam T (TTr cs CU (spFrozen w (n + 1))) t) tNil)) (gName i) D σ H := by
  refine ⟨TH, fun H1 eN T1 E R hE => call H1 E R eN T1 (tried_by hc (th H1 eN) (fun H2 u s2 f2 => ?_) E hE)⟩
  refine ⟨(by show 1 ≤ sizeLine; decide), fun q nq => ?_⟩
  have st := same_new (o := .lst [u]) nq
  have e2 : ExtN H (upd H2 q (.lst [u])) := eN.trans (ExtN.of (s2.trans st))
  refine next _ q ?_ e2 (T1.ext (s2.trans st)) ⟨[u], upd_same, rfl, fun x hx => ?_⟩
  · intro o e
    by_cases no : ∀ ps, o ≠ .tbl ps
    · rw [s2 _ _ (eN _ _ e no)] at nq; cases nq
    · exact Classical.byContradiction fun z => no fun ps y => z ⟨ps, y⟩
  · obtain rfl : x = u := by simpa using hx
    exact f2.same st
end
end L2.TB
/-! is_name of anything; check_hands, both ways -/
namespace L2.TB
open PySem PySem.Spec PyProof.Rows
/-- what flies out of a locked walk finds the thing unlocked -/
theorem takes_unlock {X : Cx} {W : WX} (tk : Takes X W) {d : Addr} {u : HO} (hn : ∀ o' u', X.H_0 d ≠ some (.frz o' u')) : Takes X (fun cls dd σ H' => ∃ od, H' d = some (.frz od u) ∧ W cls dd σ (upd H' d u)) :=
  fun z s' ⟨a, B, sI, pins, σ, H, cls, dd, e, I, nb, up, sky, na, os, ag, od, hd, w⟩ => tk z s' ⟨a, B, sI, pins, σ, _, cls, dd, e, I.unlock hd hn, nb, up, sky, by rw [upd_ne (fun q => by rw [q, hd] at na; cases na)]; exact na, os, ag, w⟩
theorem Flies.unlock {P : Program} {w : World} {K : PySem.W.Frag} {mg : Str → Option Value} {base : Heap} {x fld : Str} {C d : Addr} {u : HO} {od : Obj} {v : V} {H H3 : Hp} {Q : XK} (E : ErrF P w K mg base x C fld) (h : Flies C fld v H Q) (hd : H d = some u) (s : Same (upd H d (.frz od u)) H3) :
    [v].length ≤ 1000 ∧ ∀ a, H3 a = none → spErr K fld (.ref a :: ([v] ++ [])) (upd H3 a (exo a C none))
      (fun v H2 => v = .non ∧ ∃ (d' : Addr) (fs : List (Str × V)), H2 a = some (exo a C (some d')) ∧ H2 d' = some (exd d' fs) ∧ H3 d' = none ∧ (∃ od, (upd (del H2 a) d' (.xd fs)) d = some (.frz od u) ∧ Q (.ref C) (some d') (upd (upd (del H2 a) d' (.xd fs)) d u))) (fun _ _ _ => False) := by
  obtain ⟨fI, fd, y, EC, _⟩ := E.ex
  refine mk_rs (Q := fun cls dd H' => ∃ od, H' d = some (.frz od u) ∧ Q cls dd (upd H' d u)) EC fun dd nd => ?_
  have b1 := s _ _ (upd_same (H := H) (a := d) (o := .frz od u))
  have ne : d ≠ dd := fun z => by rw [z, nd] at b1; cases b1
  have s2 : Same (upd H d (.frz od u)) (upd H3 dd (.xd [(fld, v)])) := s.trans (same_new nd)
  obtain ⟨b2, s3⟩ := lock_off hd s2
  refine ⟨od, b2, h dd _ s3 ?_ ?_⟩
  · cases q : H dd with
    | none => rfl
    | some o =>
      have z := s _ _ (show upd H d (.frz od u) dd = some o by rw [upd_ne (Ne.symm ne)]; exact q)
      rw [nd] at z; cases z
  · rw [upd_ne (Ne.symm ne), upd_same]
def nmB (x : Str) : Bool := decide (1 ≤ x.cps.toList.length) && (decide (x.cps.toList.length ≤ 40) && x.cps.toList.all fun c => decide (c ∈ signsL))
theorem nmB_ok {x : Str} (h : NmOk x) : nmB x = true := by
  obtain ⟨h1, h2, h3⟩ := h
  unfold nmB
  rw [decide_eq_true h1, decide_eq_true h2, List.all_eq_true.mpr fun c hc => decide_eq_true (h3 c hc)]
  rfl
def spIsNameG (K : PySem.W.Frag) : Sp := fun vs H Q _ => ∃ v : V, vs = [v] ∧ ((∃ x, v = .str x ∧ x.cps.toList.length < 1000 ∧ ∀ H', Same H H' → Q (.bl (nmB x)) H') ∨ (NoStr K H v ∧ Q (.bl false) H))
section
variable {P : Program} {w : World} {K : PySem.W.Frag} {mg : Str → Option Value} {base : Heap} {f : Addr} {fd : FuncData}
theorem ok_isNameG (F : Fun K "is_name" "is_name" sIsName f fd) (gI : mg "isinstance" = none) (gS : mg "str" = none) (gN : mg "len" = none) (gA : mg "all" = none) (gL : ∃ t, mg "LONGEST" = some (.int 40 t)) (gSg : ∃ t, mg "SIGNS" = some (.str (Str.ofString "abcdefghijklmnopqrstuvwxyz0123456789.") t)) :
    FnOk P w K mg base CX0 1 f fd ["thing"] (spIsNameG K) := by
  obtain ⟨tL, gL⟩ := gL
  obtain ⟨tS, gSg⟩ := gSg
  refine F.ok scIsName (fun vs H Q E h => by obtain ⟨x, e, _⟩ := h; rw [e]; rfl) fun cdv A outer s H vs Q E hr hsp => ?_
  obtain ⟨v, rfl, hq⟩ := hsp
  have nd := scIsName.nd
  refine ⟨_, pss_cons (ps_if (PW.pt (pw_or (pt_not (pt_val (pe_callB (r := rIsi K) call_isi rfl gI boot_isi (pa_cons (pv 0) (pa_cons (pe_bltn (v := .ty "str") rfl gS boot_str' rfl) pa_nil)))))
      (pw_or1 (pt_not (pt_chain op_le op_le pe_int (pe_callB call_len_str rfl gN boot_len (pa_cons (pv 0) pa_nil)) (pe_glob (v := .int 40) rfl gL ⟨_, rfl⟩)))))) (pss_one (ps_ret pe_bl)) pss_nil)
    (pss_one (ps_ret (pe_callB (cr_all rfl) rfl gA boot_all' (pa_cons (pe_lc (own := [("sign", 1)]) (tt := tYes) rfl nd (pi_str (pv 0)) (blkOk_by (N := NIn) (sc := defScope sIsName) (by decide +kernel)) (fun _ _ _ _ _ => pg_name (i := 1) nd rfl (Or.inl rfl)) (fun _ _ _ _ _ => pts_nil)
      (fun _ _ _ _ _ => pe_cmpR op_in_sign (pv 1) (pe_glob (v := .str (Str.ofString "abcdefghijklmnopqrstuvwxyz0123456789.")) rfl gSg ⟨_, rfl⟩) rfl)) pa_nil)))), ?_⟩
  rcases hq with ⟨x, rfl, short, hq⟩ | ⟨⟨t, h1, h2⟩, hq⟩
  · have lz : x.length = x.cps.toList.length := (Array.length_toList (xs := x.cps)).symm
    refine ⟨_, rfl, _, _, _, _, true, rfl, .ty _, .base (.str x), kit_ty (by decide +kernel), _, rfl, iteF ?_⟩
    refine ⟨_, rfl, x, rfl, (by rw [sizeLine_eq]; omega), _, _, rfl, rfl, _, rfl, ?_⟩
    by_cases l1 : 1 ≤ x.cps.toList.length
    · rw [decide_eq_true (by omega : (1 : Int) ≤ (x.length : Nat))]
      refine iteT ⟨_, _, rfl, rfl, _, rfl, ?_⟩
      by_cases l2 : x.cps.toList.length ≤ 40
      · rw [decide_eq_true (by omega : ((x.length : Nat) : Int) ≤ 40)]
        refine iteF ?_
        refine ⟨_, rfl, x, rfl, lc_gen ((x.cps.toList.map fun c => decide (c ∈ signsL)).map V.bl) (by rw [List.length_map, List.length_map]; omega) (fun i H' _ lt => ?_) (fun H' _ => ?_) ?_ ?_⟩
        · rw [List.length_map, List.length_map, Array.length_toList] at lt; exact lt
        · rw [List.length_map, List.length_map, Array.length_toList]; exact Nat.le_refl _
        · rintro i v y H2 H3 Cn Nn ey s2 ⟨rfl, c, ec, rfl⟩ yes
          rw [List.getElem?_map, List.getElem?_map, Array.getElem?_toList, ec] at ey
          obtain rfl := (Option.some.inj ey)
          refine ⟨rfl, ?_⟩
          exact ⟨_, rfl, c, _, rfl, rfl, yes H3 (Same.refl _)⟩
        · intro H2 D nD oD s2
          refine ⟨D, _, rfl, SqL.of oD, ?_⟩
          have e : nmB x = (x.cps.toList.map fun c => decide (c ∈ signsL)).all id := by
            unfold nmB
            rw [decide_eq_true l1, decide_eq_true l2, List.all_map]
            rfl
          rw [← e]
          exact hq H2 s2
      · rw [decide_eq_false (by omega : ¬ ((x.length : Nat) : Int) ≤ 40)]
        have z := hq _ (Same.refl _)
        have e : nmB x = false := by unfold nmB; rw [decide_eq_false l2, Bool.false_and, Bool.and_false]
        rw [e] at z
        exact iteT z
    · rw [decide_eq_false (by omega : ¬ (1 : Int) ≤ (x.length : Nat))]
      have z := hq _ (Same.refl _)
      have e : nmB x = false := by unfold nmB; rw [decide_eq_false l1, Bool.false_and]
      rw [e] at z
      exact iteF ⟨_, rfl, iteT z⟩
  · exact ⟨_, rfl, _, _, _, _, false, rfl, .ty _, h1, kit_ty h2, _, rfl, iteT (iteT hq)⟩
end
end L2.TB
/-! rows that may be bad: has_just, _first_bad_row -/
namespace L2.TB
open PySem PySem.Spec PyProof.Rows MK
/-- a thing that may be looked at as a row: no dict, or a plain one -/
inductive RowTh (K : PySem.W.Frag) (H : Hp) : V → Option (List (Key × V)) → Prop
  | no {v : V} {t : String} (ty : TyX K H v (.type t)) (nd : kitB t "dict" = some false) : RowTh K H v none
  | dict {d : Addr} {kvs : List (Key × V)} (o : H d = some (.dK kvs)) (sh : kvs.length < 1000) (nd : (kvs.map (·.1)).Nodup) (at_ : ∀ kv ∈ kvs, Atom kv.2) (ks : ∀ x, Sum.inr x ∈ kvs.map (·.1) → x.cps.toList.length < 1000) : RowTh K H (.ref d) (some kvs)
theorem RowTh.same {K : PySem.W.Frag} {H H' : Hp} {v : V} {o : Option (List (Key × V))} (h : RowTh K H v o) (s : Same H H') : RowTh K H' v o := by
  cases h with
  | no ty nd => exact .no (ty_same ty s) nd
  | dict o sh nd a k => exact .dict (s _ _ o) sh nd a k
def justB (ks : List Key) : Option (List (Key × V)) → Bool
  | none => false
  | some kvs => decide (kvs.length = ks.length) && ks.all fun k => (valV kvs k).isSome
theorem justB_some (ks : List Key) (kvs : List (Key × V)) : justB ks (some kvs) = (decide (kvs.length = ks.length) && ks.all fun k => (valV kvs k).isSome) := rfl
def isIntB : V → Bool
  | .int _ => true
  | _ => false
theorem atom_pn {v : V} (h : Atom v) : Pn v (isIntB v) := by
  cases h with
  | str x => exact .str x
  | int i => exact .int i
  | bl b => exact .bl b
  | non => exact .non
def keyB : Key → Bool
  | .inl _ => false
  | .inr x => nmB x
theorem key_noS (K : PySem.W.Frag) (H : Hp) (i : Int) : NoStr K H (kV (Sum.inl i)) := ⟨_, .base (.int i), by decide +kernel⟩
def valsB (kvs : List (Key × V)) : Bool := kvs.all fun kv => isIntB kv.2
def keysB (kvs : List (Key × V)) : Bool := kvs.all fun kv => keyB kv.1
/-- a row as it should be, first being the first row's -/
def rowB (first : List Key) : Option (List (Key × V)) → Bool
  | none => false
  | some kvs => !decide (kvs.length = 0) && (valsB kvs && (keysB kvs && justB first (some kvs)))
def spHasJustR (K : PySem.W.Frag) : Sp := fun vs H Q _ => ∃ (v : V) (c : Addr) (ks : List Key) (o : Option (List (Key × V))), vs = [v, .ref c] ∧ RowTh K H v o ∧ H c = some (.lst (ks.map kV)) ∧ ks.length < 1000 ∧ ∀ H', Same H H' → Q (.bl (justB ks o)) H'
/-- a thing that Table refuses, and where -/
inductive BadRows (K : PySem.W.Frag) (H : Hp) : V → Nat → Prop
  | no {v : V} (h : NoSeq K H v) : BadRows K H v 0
  | nil {a : Addr} (h : SqA K H a []) : BadRows K H (.ref a) 0
  | at {a : Addr} {xs : List V} {i : Nat} {v : V} {o : Option (List (Key × V))} {first : List (Key × V)} (h : SqA K H a xs) (sh : xs.length < 1000) (ev : xs[i]? = some v) (tv : RowTh K H v o) (bad : rowB (first.map (·.1)) o = false) (sf : first.length < 1000)
      (good : ∀ (j : Nat) (x : V), j < i → xs[j]? = some x → ∃ kvs, RowTh K H x (some kvs) ∧ rowB (first.map (·.1)) (some kvs) = true) (fst : o = none ∨ ∃ d, xs[0]? = some (.ref d) ∧ H d = some (.dK first))
      (fst2 : ∀ (j : Nat), j < i → ∃ d, xs[0]? = some (.ref d) ∧ H d = some (.dK first)) : BadRows K H (.ref a) i
theorem BadRows.same {K : PySem.W.Frag} {H H' : Hp} {v : V} {i : Nat} (h : BadRows K H v i) (s : Same H H') : BadRows K H' v i := by
  cases h with
  | no h => exact .no (h.same s)
  | nil h => exact .nil (h.same s)
  | «at» h sh ev tv bad sf good fst fst2 =>
    exact .at (h.same s) sh ev (tv.same s) bad sf (fun j x l e => let ⟨k, a, b⟩ := good j x l e; ⟨k, a.same s, b⟩) (fst.imp id fun ⟨d, a, b⟩ => ⟨d, a, s _ _ b⟩) (fun j l => let ⟨d, a, b⟩ := fst2 j l; ⟨d, a, s _ _ b⟩)
def spBadRowX (K : PySem.W.Frag) : Sp := fun vs H Q _ => ∃ (v : V) (i : Nat), vs = [v] ∧ BadRows K H v i ∧ ∀ H', Same H H' → Q (.int (i : Nat)) H'
section
variable {P : Program} {w : World} {K : PySem.W.Frag} {mg : Str → Option Value} {base : Heap} {f fL fI fN fH fB C : Addr} {fd fdL fdI fdN fdH fdB : FuncData}
theorem ok_hasJustR (F : Fun K "has_just" "has_just" sHasJust f fd) (gI : mg "isinstance" = none) (gD : mg "dict" = none) (gN : mg "len" = none) (gA : mg "all" = none) : FnOk P w K mg base CX0 1 f fd ["thing", "names"] (spHasJustR K) := by
  refine F.ok scHasJust (fun vs H Q E h => by obtain ⟨d, c, ks, o, e, _⟩ := h; rw [e]; rfl) fun cdv A outer s H vs Q E hr hsp => ?_
  obtain ⟨v, c, ks, o, rfl, R, hc, short, hq⟩ := hsp
  have nd := scHasJust.nd
  have hu := hu_of hr
  refine ⟨_, pss_one (ps_ret (pe_and (pe_callB (r := rIsi K) call_isi rfl gI boot_isi (pa_cons (pv 0) (pa_cons (pe_bltn (v := .ty "dict") rfl gD boot_dict' rfl) pa_nil))) (pe_and (pe_cmpR op_eq (pe_callB call_lenD rfl gN boot_len (pa_cons (pv 0) pa_nil)) (pe_callB call_len_seq rfl gN boot_len (pa_cons (pv 1) pa_nil)) (nomark _))
    (pe_one (pe_callB (cr_all rfl) rfl gA boot_all' (pa_cons (pe_lc (own := [("name", 2)]) (tt := tYes) rfl nd (pi_seq (pv 1)) (blkOk_by (N := NHj) (sc := defScope sHasJust) (by decide +kernel)) (fun _ _ _ _ _ => pg_name (i := 2) nd rfl (Or.inl rfl)) (fun _ _ _ _ _ => pts_nil)
      (fun _ _ _ _ _ => pe_cmp (pc_din hu (pv 2) (pv 0)))) pa_nil)))))), ?_⟩
  cases R with
  | no ty nd => exact ⟨_, rfl, _, _, _, _, false, rfl, .ty _, ty, kit_ty nd, _, rfl, iteF (hq H (Same.refl _))⟩
  | @dict d kvs od sh nk at_ kk =>
    refine ⟨_, rfl, _, _, _, _, true, rfl, .ty _, .base (.dK od), kit_ty (by decide +kernel), _, rfl, iteT ?_⟩
    refine ⟨_, rfl, d, kvs, rfl, od, _, rfl, c, _, rfl, .inl (SqL.of hc), rfl, _, rfl, ?_⟩
    rw [dec_int2, List.length_map]
    by_cases lk : kvs.length = ks.length
    · rw [decide_eq_true (by omega : ((kvs.length : Nat) : Int) = ((ks.length : Nat) : Int))]
      refine iteT ⟨_, rfl, c, _, rfl, .inl ⟨SqL.of hc, lc_gen ((ks.map fun k => (valV kvs k).isSome).map V.bl) (by rw [List.length_map, List.length_map]; omega) (fun i H' k lt => ⟨_, _, SqL.of (k _ _ hc), List.getElem?_eq_getElem (by simpa using lt)⟩) (fun H' k => ⟨_, SqL.of (k _ _ hc), by simp⟩) ?_ ?_⟩⟩
      · rintro i v y H2 H3 Cn Nn ey s2 ⟨rfl, ex⟩ yes
        have ex := ex _ (SqL.of (s2 _ _ hc))
        rw [List.getElem?_map] at ex
        obtain ⟨k, ek, rfl⟩ := Option.map_eq_some_iff.mp ex
        rw [List.getElem?_map, List.getElem?_map, ek] at ey
        obtain rfl := Option.some.inj ey
        refine ⟨rfl, ?_⟩
        exact ⟨_, rfl, _, rfl, d, _, rfl, DGet.k (k := k) (s2 _ _ od), yes H3 (Same.refl _)⟩
      · intro H2 D nD oD s2
        refine ⟨D, _, rfl, SqL.of oD, ?_⟩
        have z := hq H2 s2
        rw [justB_some, decide_eq_true lk, Bool.true_and] at z
        rw [List.all_map]
        exact z
    · rw [decide_eq_false (by omega : ¬ ((kvs.length : Nat) : Int) = ((ks.length : Nat) : Int))]
      have z := hq H (Same.refl _)
      rw [justB_some, decide_eq_false lk, Bool.false_and] at z
      exact iteF z
end
end L2.TB
/-! what stays while more is made; frozen alike is the same -/
namespace L2.TB
open PySem PySem.Spec PyProof.Rows LamX MK
theorem ty_ext {K : PySem.W.Frag} {H H' : Hp} {v : V} {t : String} (h : TyX K H v (.type t)) (s : ExtN H H') : TyX K H' v (.type t) := by
  have k : ∀ {b : Addr} {o : HO}, H b = some o → (∀ ps, o ≠ .tbl ps) → H' b = some o := fun e n => s _ _ e n
  generalize e : Value.type t = u at h
  cases h with
  | base b =>
    refine .base ?_
    cases b with
    | non => exact .non
    | bl x => exact .bl x
    | int i => exact .int i
    | str x => exact .str x
    | flt x => exact .flt x
    | lst q => exact .lst (k q fun _ z => by cases z)
    | frz q => exact .frz (k q fun _ z => by cases z)
    | tup q => exact .tup (k q fun _ z => by cases z)
    | dK q => exact .dK (k q fun _ z => by cases z)
    | dT q => exact .dT (k q fun _ z => by cases z)
    | ins q => cases e
  | byt b => exact .byt b
  | set q => exact .set (k q fun _ z => by cases z)
  | kList q c => exact .kList q c
  | kTuple q c => exact .kTuple q c
  | kDict q c => exact .kDict q c
  | fTuple q => exact .fTuple (k q fun _ z => by cases z)
  | fDict q => exact .fDict (k q fun _ z => by cases z)
theorem Bad.ext {K : PySem.W.Frag} {H H' : Hp} {ns : List Str} {v : V} {r : Option Nat} (h : Bad K H ns v r) (s : ExtN H H') : Bad K H' ns v r := by
  cases h with
  | no h => exact .no (let ⟨t, a, b⟩ := h; ⟨t, ty_ext a s, b⟩)
  | seq h a l => exact .seq (h.imp (fun e => s _ _ e (fun _ z => by cases z)) (fun e => s _ _ e (fun _ z => by cases z))) (fun x hx e => let ⟨t, y, z⟩ := a x hx e; ⟨t, ty_ext y s, z⟩) l
theorem TabAt.ext {H H' : Hp} {C a : Addr} {ns : List Str} {tbl : List (List Int)} (t : TabAt H C a ns tbl) (s : ExtN H H') : TabAt H' C a ns tbl := by
  obtain ⟨dx, qa, ra, h1, h2, ps, o, r⟩ := t.ex
  exact ⟨dx, qa, ra, s _ _ h1 (fun _ z => by cases z), s _ _ h2 (fun _ z => by cases z), ps, s _ _ o (fun _ z => by cases z), Paired.mapP r fun p vs h => ⟨s _ _ h.1 (fun _ z => by cases z), h.2⟩⟩
/-- nothing stands at q but a table -/
def Fresh (H : Hp) (q : Addr) : Prop := ∀ o, H q = some o → ∃ ps, o = .tbl ps
theorem grow_on {H0 H1 H2 : Hp} {q : Addr} (f : Fresh H0 q) (e : ExtN H0 H1) (g : GrowQ q H1 H2) : ExtN H0 H2 := fun b o h no => g b o (fun z => by
  rw [z] at h
  obtain ⟨ps, y⟩ := f o h
  exact no ps y) (e b o h no) no
theorem fz_dp {w : World} {K : PySem.W.Frag} {H : Hp} {s : Str} {i : Int} {u : V} (h : FzAt w H (.tu [.one (.str s), .one (.int i)]) u) : Dp K H u (.tuple [.str s, .int i]) := by
  generalize e : Tr.tu [.one (.str s), .one (.int i)] = t at h
  cases h with
  | one h => cases e
  | di h a => cases e
  | dx h m a => cases e
  | @tu a us ts h len sh al =>
    cases e
    match us, len with
    | [x, y], _ =>
      have h0 := al 0 x _ rfl rfl
      have h1 := al 1 y _ rfl rfl
      cases h0
      cases h1
      exact .tup (SqT.of h) (.cons (.str s) (.cons (.int i) .nil))
theorem found_dp {w : World} {K : PySem.W.Frag} {H : Hp} {s : Str} {i : Int} : ∀ us : List V, (∀ u ∈ us, FzAt w H (.tu [.one (.str s), .one (.int i)]) u) → DpAll K H us (List.replicate us.length (.tuple [.str s, .int i]))
  | [], _ => .nil
  | u :: us, h => .cons (fz_dp (h u (by simp))) (found_dp us fun x hx => h x (by simp [hx]))
theorem pair_shape {s : Str} {i : Int} (hs : PyData.strOk s = true) : ∀ n : Nat, PyData.canLayAll0 (List.replicate n (PyData.tuple [.str s, .int i])) = true ∧ PyData.depthAll (List.replicate n (PyData.tuple [.str s, .int i])) ≤ 2
  | 0 => ⟨by simp [PyData.canLayAll0], by simp [PyData.depthAll]⟩
  | n + 1 => by
    obtain ⟨h1, h2⟩ := pair_shape hs (i := i) n
    rw [List.replicate_succ]
    exact ⟨by simp [PyData.canLayAll0, PyData.canLay0, hs, h1], by simp [PyData.depthAll, PyData.depth]; omega⟩
theorem pairs_shaped {s : Str} {i : Int} (hs : PyData.strOk s = true) (n : Nat) : SeqAt.shaped (.list (List.replicate n (PyData.tuple [.str s, .int i]))) = true := by
  obtain ⟨h1, h2⟩ := pair_shape hs (i := i) n
  unfold SeqAt.shaped
  rw [Bool.and_eq_true]
  refine ⟨by simp [PyData.canLay0, h1], decide_eq_true ?_⟩
  simp only [PyData.depth]
  omega
/-- how deep a frozen thing is -/
inductive TrD : Nat → Tr → Prop
  | one (v : V) : TrD 0 (.one v)
  | di {kvs : List (Key × V)} (nd : (kvs.map (·.1)).Nodup) : TrD 0 (.di kvs)
  | dx (es : List En) : TrD 0 (.dx es)
  | tu {n : Nat} {ts : List Tr} (h : ∀ (i : Nat) (t : Tr), ts[i]? = some t → TrD n t) : TrD (n + 1) (.tu ts)
  | up {n : Nat} {t : Tr} (h : TrD n t) : TrD (n + 1) t
theorem fz_alk {w : World} {H : Hp} {n : Nat} {t : Tr} (d : TrD n t) : ∀ {u v : V}, FzAt w H t u → FzAt w H t v → AlkF w H n u v := by
  induction d with
  | one v0 =>
    intro u v hu hv
    cases hu with
    | one h => cases hv with
      | one h' => exact .one h
  | di nd =>
    intro u v hu hv
    cases hu with
    | di h a => cases hv with
      | di h' a' => exact .dic h h' nd a
  | dx es =>
    intro u v hu hv
    cases hu with
    | dx h m a => cases hv with
      | dx h' m' a' => exact .dx h h' m a
  | @tu n ts _ ih =>
    intro u v hu hv
    cases hu with
    | @tu a us _ h len sh al => cases hv with
      | @tu b us' _ h' len' sh' al' =>
        refine .tup h h' (by rw [len, len']) sh fun i x y ex ey => ?_
        have lt : i < ts.length := by rw [← len]; exact (List.getElem?_eq_some_iff.mp ex).1
        have et : ts[i]? = some ts[i] := List.getElem?_eq_getElem lt
        exact ih i _ et (al i x _ ex et) (al' i y _ ey et)
  | up _ ih => exact fun hu hv => .up (ih hu hv)
theorem badAt_all (full : List Str) : ∀ (xs us : List Str) (n : Nat), (∀ x ∈ xs, x ∈ full) → (us ++ xs).Nodup → badAt full (xs.map V.str) us n = none
  | [], us, n, _, _ => rfl
  | x :: xs, us, n, h, nd => by
    have nx : x ∉ us := fun m => by
      rw [List.nodup_append] at nd
      exact nd.2.2 x m x (by simp) rfl
    have e : us ++ x :: xs = (us ++ [x]) ++ xs := by simp
    rw [e] at nd
    show (if x ∈ full ∧ x ∉ us then badAt full (xs.map V.str) (us ++ [x]) (n + 1) else some n) = _
    rw [if_pos ⟨h x (by simp), nx⟩]
    exact badAt_all full xs (us ++ [x]) (n + 1) (fun z hz => h z (by simp [hz])) nd
theorem BadAsk.ext {K : PySem.W.Frag} {H H' : Hp} {ns : List Str} {v : V} (h : BadAsk K H ns v) (s : ExtN H H') : BadAsk K H' ns v := h.imp id fun ⟨t, a, b⟩ => ⟨t, ty_ext a s, b⟩
theorem no_one : ¬ NmOk "no one" := fun h => by
  have z := h.2.2 32 (by decide +kernel)
  revert z
  decide +kernel
theorem Thg.ext {w : World} {H H' : Hp} {n : Nat} {t : Tr} {v : V} (h : Thg w H n v t) (s : ExtN H H') : Thg w H' n v t := by
  induction h with
  | one h => exact .one h
  | seq h len sh _ ih => exact .seq (h.imp (fun e => s _ _ e (fun _ z => by cases z)) (fun e => s _ _ e (fun _ z => by cases z))) len sh ih
  | dic h sh nd at_ => exact .dic (s _ _ h (fun _ z => by cases z)) sh nd at_
  | dix h sh m at_ => exact .dix (s _ _ h (fun _ z => by unfold DE DX at z; cases z)) sh (m.mono fun _ _ e => s _ _ e (fun _ z => by cases z)) at_
  | up _ ih => exact .up ih
/-- what a table's refusals begin with -/
structure TbNm (H : Hp) (C a nm : Addr) (ns : List Str) (tbl : List (List Int)) : Prop where
  t : TabAt H C a ns tbl
  o : H nm = some (.lst (ns.map V.str))
  ne : ns ≠ []
  nd : ns.Nodup
  sh : ns.length < 900
  ok : ∀ x ∈ ns, NmOk x
theorem TbNm.ext {H H' : Hp} {C a nm : Addr} {ns : List Str} {tbl : List (List Int)} (h : TbNm H C a nm ns tbl) (s : ExtN H H') : TbNm H' C a nm ns tbl := ⟨h.t.ext s, s _ _ h.o (fun _ z => by cases z), h.ne, h.nd, h.sh, h.ok⟩
theorem RowTh.ext {K : PySem.W.Frag} {H H' : Hp} {v : V} {o : Option (List (Key × V))} (h : RowTh K H v o) (s : ExtN H H') : RowTh K H' v o := by
  cases h with
  | no ty nd => exact .no (ty_ext ty s) nd
  | dict o sh nd a k => exact .dict (s _ _ o (fun _ z => by cases z)) sh nd a k
end L2.TB
/-! _law_tried(..) != (word, number) -/
namespace L2.TB
open PySem PySem.Spec PyProof.Rows LamX MK
theorem pair1_shaped {s : Str} {i : Int} (hs : PyData.strOk s = true) : SeqAt.shaped (.tuple [.str s, .int i]) = true := by
  have h : PyData.canLay0 (.tuple [.str s, .int i]) = true := by simp [PyData.canLay0, PyData.canLayAll0, hs]
  show (PyData.canLay0 _ && decide _) = true
  rw [Bool.and_eq_true]
  refine ⟨h, decide_eq_true ?_⟩
  simp [PyData.depth, PyData.depthAll]
section
variable {w : World} {K : PySem.W.Frag} {cs : List Clz} {CU : Addr} {T : List (Addr × Str)} {t : XK → TE} {te : TE} {σ : L2.St} {H : Hp} {c : Clz} {i : Int} {B : Bool → Hp → Prop}
/-- _law_tried(lambda: ..) != (word, i) -/
theorem ne_read (hs : PyData.strOk c.tag = true) (TH : Tabs T H) (hc : c ∈ cs) (hte : ∀ H2 (Q : VK), Q (.int i) H2 → te σ H2 Q)
    (call : ∀ (H1 : Hp) (E : XK) (R : VK), ExtN H H1 → Tabs T H1 → Flies c.C c.fld (.int i) H1 E → t E σ H1 R) (next : ∀ H', ExtN H H' → Tabs T H' → B false H') :
    tTest (tOp (rNeD K) (tLam T (TTr cs CU (spFrozen w 1)) t) (tTup (tCons (tC (.str c.tag)) (tCons te tNil)))) σ H B := by
  refine ⟨TH, fun H1 eN T1 E R hE => call H1 E R eN T1 (tried_by hc (n := 0) (tr := .one (.int i)) (.one (.int i)) (fun H2 u s2 f2 => ?_) E hE)⟩
  refine hte _ _ ⟨(by show 2 ≤ sizeLine; decide), fun p np => ?_⟩
  have sp := same_new (o := .tup [.str c.tag, .int i]) np
  have d1 := fz_dp (K := K) (f2.same sp)
  have d2 : Dp K (upd H2 p (.tup [.str c.tag, .int i])) (.ref p) (.tuple [.str c.tag, .int i]) := .tup (SqT.of upd_same) (.cons (.str _) (.cons (.int _) .nil))
  refine ⟨_, _, d1, d2, pair1_shaped hs, pair1_shaped hs, ?_⟩
  have e : PyData.eqv (.tuple [.str c.tag, .int i]) (.tuple [.str c.tag, .int i]) = true := SeqAt.eqv_refl _ (Bool.and_eq_true_iff.mp (pair1_shaped hs)).1
  refine ⟨_, rfl, ?_⟩
  show B (!PyData.eqv (.tuple [.str c.tag, .int i]) (.tuple [.str c.tag, .int i])) _
  rw [e]
  exact next _ (eN.trans (ExtN.of (s2.trans sp))) (T1.ext (s2.trans sp))
end
end L2.TB
/-! _law_rows_refused: a row that is bad among the others -/
namespace L2.TB
open PySem PySem.Spec PyProof.Rows LamX MK
/-- all but the spring and the tables stays -/
def ButN (l ls : Addr) (H H' : Hp) : Prop := ∀ b o, b ≠ l → b ≠ ls → H b = some o → (∀ ps, o ≠ .tbl ps) → H' b = some o
theorem ButN.refl (l ls : Addr) (H : Hp) : ButN l ls H H := fun _ _ _ _ e _ => e
theorem ButN.trans {l ls : Addr} {H H1 H2 : Hp} (a : ButN l ls H H1) (b : ButN l ls H1 H2) : ButN l ls H H2 := fun c o h1 h2 e n => b c o h1 h2 (a c o h1 h2 e n) n
theorem ButN.of {l ls : Addr} {H H1 : Hp} (a : ExtN H H1) : ButN l ls H H1 := fun c o _ _ e n => a c o e n
theorem ButN.but {l ls : Addr} {H H1 : Hp} (a : But l ls H H1) : ButN l ls H H1 := fun c o h1 h2 e _ => a c o h1 h2 e
theorem tabs_but {T : List (Addr × Str)} {H H' : Hp} {l ls : Addr} {N : Int} (h : Tabs T H) (S : Strm H l ls N) (B : But l ls H H') : Tabs T H' := fun p hp => by
  obtain ⟨cs, g, k, m, S⟩ := S
  obtain ⟨pa, h1, h2, h3⟩ := h p hp
  refine ⟨pa, B _ _ (fun z => by rw [z, S.o] at h1; cases h1) (fun z => by rw [z, S.c] at h1; cases h1) h1, h2, fun pos cv hc => ?_⟩
  obtain ⟨c, e1, e2⟩ := h3 pos cv hc
  exact ⟨c, e1, B _ _ (fun z => by rw [z, S.o] at e2; unfold CodeO at e2; cases e2) (fun z => by rw [z, S.c] at e2; unfold CodeO at e2; cases e2) e2⟩
theorem Strm.ext {H H' : Hp} {l ls : Addr} {N : Int} (s : Strm H l ls N) (e : ExtN H H') : Strm H' l ls N := by
  obtain ⟨cs, g, k, m, S⟩ := s
  exact ⟨cs, g, k, m, e _ _ S.o (fun _ z => by cases z), e _ _ S.c (fun _ z => by cases z), S.ne, S.g0, S.k0, S.k1, S.m0, S.m1, S.sz⟩
structure RowsR (H : Hp) (l ls r : Addr) (as : List Addr) (ns : List Str) (tbl : List (List Int)) : Prop where
  o : H r = some (.lst (as.map V.ref))
  n1 : r ≠ l
  n2 : r ≠ ls
  d : RowsAt H l ls ns as tbl
  ne : ns ≠ []
  nd : ns.Nodup
  ok : ∀ x ∈ ns, NmS x
  sh : ns.length ≤ 10
  tn : tbl ≠ []
  ts : tbl.length ≤ 20
theorem RowsR.butN {H H' : Hp} {l ls r : Addr} {as : List Addr} {ns : List Str} {tbl : List (List Int)} (h : RowsR H l ls r as ns tbl) (s : ButN l ls H H') : RowsR H' l ls r as ns tbl :=
  ⟨s _ _ h.n1 h.n2 h.o (fun _ z => by cases z), h.n1, h.n2, Paired.mapP h.d fun a vs x => ⟨s _ _ x.2.2.1 x.2.2.2 x.1 (fun _ z => by cases z), x.2⟩, h.ne, h.nd, h.ok, h.sh, h.tn, h.ts⟩
end L2.TB
/-! lists of odd things: what is displayed, each with what is known of it -/
namespace L2.TB
open PySem PySem.Spec PyProof.Rows LamX
/-- e gives a thing of which R holds, wherever I holds; what stood stays -/
def Gives (te : TE) (σ : L2.St) (I : Hp → Prop) (R : V → Hp → Prop) : Prop := ∀ (H : Hp) (Q : VK), I H → (∀ v H', Same H H' → R v H' → Q v H') → te σ H Q
def GivesA (ta : TA) (σ : L2.St) (I : Hp → Prop) (R : V → Hp → Prop) (n : Nat) : Prop := ∀ (H : Hp) (Q : List V → Hp → Prop), I H → (∀ vs H', Same H H' → vs.length = n → (∀ v ∈ vs, R v H') → Q vs H') → ta σ H Q
section
variable {σ : L2.St} {I : Hp → Prop} {R R' : V → Hp → Prop} {te : TE} {ta : TA} {n : Nat}
theorem gvA_nil : GivesA tNil σ I R 0 := fun H Q _ h => h [] H (Same.refl _) rfl (fun _ z => by cases z)
theorem gvA_cons (sI : ∀ H H', Same H H' → I H → I H') (sR : ∀ v H H', Same H H' → R v H → R v H') (h : Gives te σ I R) (r : GivesA ta σ I R n) : GivesA (tCons te ta) σ I R (n + 1) := fun H Q i k =>
  h H _ i fun v H1 s1 q1 => r H1 _ (sI _ _ s1 i) fun vs H2 s2 l q2 => k (v :: vs) H2 (s1.trans s2) (by rw [List.length_cons, l]) (fun x hx => by
    rcases List.mem_cons.mp hx with rfl | hx
    · exact sR _ _ _ s2 q1
    · exact q2 x hx)
theorem gv_lst {H : Hp} {Q : VK} (sR : ∀ v H H', Same H H' → R v H → R v H') (hn : n ≤ 1000) (h : GivesA ta σ I R n) (i : I H) (k : ∀ L xs H', Same H H' → H' L = some (.lst xs) → xs.length = n → (∀ x ∈ xs, R x H') → Q (.ref L) H') : tLst ta σ H Q :=
  h H _ i fun vs H1 s1 l q1 => ⟨by rw [sizeLine_eq]; omega, fun p np => k p vs _ (s1.trans (same_new np)) upd_same l (fun x hx => sR _ _ _ (same_new np) (q1 x hx))⟩
/-- a thing that is no object -/
theorem gv_c {v : V} (h : ∀ H, I H → R v H) : Gives (tC v) σ I R := fun H Q i k => k _ _ (Same.refl _) (h H i)
/-- one new object -/
theorem gv_new (sI : ∀ H H', Same H H' → I H → I H') (o : HO) (h : ∀ (H : Hp) (Q : VK), I H → (∀ p, H p = none → Q (.ref p) (upd H p o)) → te σ H Q) (r : ∀ H p, I H → H p = some o → R (.ref p) H) : Gives te σ I R := fun H Q i k =>
  h H Q i fun p np => k _ _ (same_new np) (r _ _ (sI _ _ (same_new np) i) upd_same)
/-- (e, i) -/
theorem gv_pair {i : Int} (sI : ∀ H H', Same H H' → I H → I H') (sR : ∀ v H H', Same H H' → R' v H → R' v H') (h : Gives te σ I R') (r : ∀ H t v, I H → R' v H → H t = some (.tup [v, .int i]) → R (.ref t) H) : Gives (tTup (tCons te (tCons (tC (.int i)) tNil))) σ I R := fun H Q j k =>
  h H _ j fun v H1 s1 q1 => ⟨(by show 2 ≤ sizeLine; decide), fun p np => k _ _ (s1.trans (same_new np)) (r _ _ _ (sI _ _ (s1.trans (same_new np)) j) (sR _ _ _ (same_new np) q1) upd_same)⟩
/-- a walk over a list that is displayed -/
theorem odd_for {K : PySem.W.Frag} {T : List (Addr × Str)} {Sh : L2.St → Prop} {g : TG} {tb : TS} {D : Ends} {H : Hp} (hn : n ≤ 1000) (sR : ∀ v H H', Same H H' → R v H → R v H') (h : GivesA ta σ I R n) (i : I H) (TH : Tabs T H) (sh : Sh σ)
    (turn : ∀ (C : L2.St → Hp → Prop) (HL : Hp) (x : V) (σ' : L2.St) (H' : Hp), Same H HL → R x HL → ExtN HL H' → Tabs T H' → Sh σ' → (∀ σ2 H2, ExtN H' H2 → Tabs T H2 → Sh σ2 → C σ2 H2) → g x σ' H' fun σ2 H2 => tb { D with nx := C, ct := C, bk := D.nx } σ2 H2)
    (fin : ∀ σ' H', ExtN H H' → Tabs T H' → Sh σ' → D.nx σ' H') : tFor (iList K (tLst ta)) g tb D σ H := by
  unfold tFor iList
  refine gv_lst (R := R) sR hn h i fun L xs HL k oL lx all => ?_
  refine ⟨L, rfl, ⟨_, SqL.of oL⟩, for_list (xs := xs) (fun i σ H' => ExtN HL H' ∧ Tabs T H' ∧ Sh σ) ⟨ExtN.refl _, TH.ext k, sh⟩ (fun i σ H' _ h => SqL.of (h.1 _ _ oL (fun _ z => by cases z))) ?_ ?_⟩
  · rintro i x σ H' ex ⟨e, TH, hs⟩
    exact turn _ HL x σ H' k (all x (List.mem_of_getElem? ex)) e TH hs fun σ2 H2 e2 T2 s2 => ⟨e.trans e2, T2, s2⟩
  · rintro σ H' ⟨e, TH, hs⟩
    exact fin σ H' ((ExtN.of k).trans e) TH hs
theorem gv_mono (h : Gives te σ I R') (r : ∀ v H, R' v H → R v H) : Gives te σ I R := fun H Q i k => h H Q i fun v H' s q => k v H' s (r v H' q)
end
end L2.TB
/-! dict([(name, ..) for name in names]) -/
namespace L2.TB
open PySem PySem.Spec PyProof.Rows LamX MK
def rDk (K : PySem.W.Frag) : List V → Hp → VK → Prop := fun vs H Q => ∃ (l : Addr) (ts : List Addr) (es : List (Key × V)), vs = [.ref l] ∧ SqL K H l (ts.map V.ref) ∧ Paired (fun t e => SqT K H t [kV e.1, e.2]) ts es ∧ ∀ d, H d = none → Q (.ref d) (upd H d (.dK (mergeK [] es)))
theorem call_dk {X : Cx} (hc : X.calm = true) : CallR X (.type "dict") (rDk X.K) := call_dictP hc
/-- names and what stands beside each -/
def dkv (ns : List Str) (g : Str → V) : List (Key × V) := ns.map fun x => (Sum.inr x, g x)
theorem dkv_keys (ns : List Str) (g : Str → V) : (dkv ns g).map (·.1) = ns.map Sum.inr := by unfold dkv; rw [List.map_map]; rfl
theorem dkv_nd {ns : List Str} {g : Str → V} (nd : ns.Nodup) : ((dkv ns g).map (·.1)).Nodup := by
  rw [dkv_keys]
  exact List.Pairwise.map Sum.inr (fun a b h e => h (Sum.inr.inj e)) nd
theorem dkv_val {ns : List Str} {g : Str → V} (nd : ns.Nodup) {x : Str} (hx : x ∈ ns) : valV (dkv ns g) (Sum.inr x) = some (g x) := val_at _ _ _ (dkv_nd nd) (List.mem_map.mpr ⟨x, hx, rfl⟩)
theorem dict_names {K : PySem.W.Frag} {i : Nat} {te : TE} {σ : L2.St} {H : Hp} {Q : VK} {ns : List Str} {g : Str → V} {wi : TI} (hw : ∀ R : It → Hp → Prop, (∀ b H1, Same H H1 → H1 b = some (.lst (ns.map V.str)) → R (Itl K b) H1) → wi σ H R) (sh : ns.length < 1000) (nd : ns.Nodup)
    (hv : ∀ x : V, ((wipe σ [i]).set i (some x))[i]? = some (some x)) (hp : ∀ x : V, wipe ((wipe σ [i]).set i (some x)) [i] = wipe σ [i])
    (hte : ∀ x ∈ ns, ∀ (H2 : Hp) (Q2 : VK), Same H H2 → (∀ H3, Same H2 H3 → Q2 (g x) H3) → te ((wipe σ [i]).set i (some (.str x))) H2 Q2) (fin : ∀ H2 p, Same H H2 → H2 p = none → Q (.ref p) (upd H2 p (.dK (dkv ns g)))) :
    tCB (rDk K) (tCons (tLc wi (gName i) tYes (tTup (tCons (tVar i) (tCons te tNil))) [i]) tNil) σ H Q := by
  have ld : (dkv ns g).length = ns.length := by unfold dkv; rw [List.length_map]
  refine hw _ fun b H1 k1 ob => (pairs_lc (dkv ns g) (by omega) (fun j H' s lt => ⟨_, _, SqL.of (s _ _ ob), List.getElem?_eq_getElem (by rw [List.length_map]; omega)⟩) (fun H' s => ⟨_, SqL.of (s _ _ ob), by rw [List.length_map]; omega⟩) ?_ ?_)
  · rintro j v k x H2 H3 Cn Nn ek s2 ⟨rfl, ex⟩ yes
    have ex := ex _ (SqL.of (s2 _ _ ob))
    unfold dkv at ek
    rw [List.getElem?_map] at ex ek
    obtain ⟨y, ey, rfl⟩ := Option.map_eq_some_iff.mp ex
    rw [ey] at ek
    obtain ⟨rfl, rfl⟩ : Sum.inr y = k ∧ g y = x := by have z := Option.some.inj ek; exact ⟨congrArg Prod.fst z, congrArg Prod.snd z⟩
    refine ⟨hp _, ?_⟩
    exact ⟨_, hv _, hte y (List.mem_of_getElem? ey) _ _ (k1.trans s2) fun H4 s4 => ⟨(by show 2 ≤ sizeLine; decide), fun t nt => yes t _ upd_same (s4.trans (same_new nt))⟩⟩
  · intro H2 D ps nD oD pr s2
    refine ⟨D, ps, dkv ns g, rfl, SqL.of oD, Paired.mapP pr fun p kv e => SqT.of e, fun p np => ?_⟩
    rw [merge_nd (dkv_nd nd)]
    exact fin _ _ (k1.trans s2) np
end L2.TB
/-! are_apart -/
namespace L2.TB
open PySem PySem.Spec PyProof.Rows MK
theorem kit_none2 {K : PySem.W.Frag} {t : String} (h1 : kitB t "list" = some false) (h2 : kitB t "tuple" = some false) : PySem.W.kitAny K (.type t) [.type "list", .type "tuple"] = some false := by
  unfold PySem.W.kitAny
  rw [kit_ty (K := K) h1]
  dsimp only
  unfold PySem.W.kitAny
  rw [kit_ty (K := K) h2]
  rfl
/-- None, a number, a text -/
inductive Atm : V → Prop
  | non : Atm .non
  | int (k : Int) : Atm (.int k)
  | str (x : Str) : Atm (.str x)
theorem Atm.ty {v : V} (h : Atm v) : ∃ t, (∀ (K : PySem.W.Frag) (H : Hp), TyX K H v (.type t)) ∧ kitB t "list" = some false ∧ kitB t "tuple" = some false ∧ kitB t "dict" = some false := by
  cases h with
  | non => exact ⟨_, fun _ _ => .base .non, by decide +kernel, by decide +kernel, by decide +kernel⟩
  | int k => exact ⟨_, fun _ _ => .base (.int k), by decide +kernel, by decide +kernel, by decide +kernel⟩
  | str x => exact ⟨_, fun _ _ => .base (.str x), by decide +kernel, by decide +kernel, by decide +kernel⟩
/-- what may be looked at as two worlds -/
inductive ApTh (w : World) (K : PySem.W.Frag) (H : Hp) (ns : List Str) : V → Option (Option (List Int) × Option (List Int)) → Prop
  | odd {v : V} (a : Atm v) : ApTh w K H ns v none
  | seq {a : Addr} {xs : List V} (s : SqA K H a xs) (ne : xs.length ≠ 2) : ApTh w K H ns (.ref a) none
  | pair {a : Addr} {y z : V} {o1 o2 : Option (List Int)} (s : SqA K H a [y, z]) (w1 : WTh w H ns y o1) (w2 : WTh w H ns z o2) : ApTh w K H ns (.ref a) (some (o1, o2))
theorem ApTh.same {w : World} {K : PySem.W.Frag} {H H' : Hp} {ns : List Str} {v : V} {o : Option (Option (List Int) × Option (List Int))} (h : ApTh w K H ns v o) (s : Same H H') : ApTh w K H' ns v o := by
  cases h with
  | odd a => exact .odd a
  | seq q ne => exact .seq (q.same s) ne
  | pair q w1 w2 => exact .pair (q.same s) (w1.same s) (w2.same s)
def apartB (ns known : List Str) (x : Str) (tbl : List (List Int)) (o : Option (Option (List Int) × Option (List Int))) : Bool := match o with
  | some (some u, some v) => decide (u ∈ tbl) && (decide (v ∈ tbl) && (decide (keyR ns known u = keyR ns known v) && !decide (av ns u x = av ns v x)))
  | _ => false
def spIsListA (K : PySem.W.Frag) : Sp := fun vs H Q _ => ∃ v : V, vs = [v] ∧ Atm v ∧ ∀ H', Same H H' → Q (.bl false) H'
def spIsListO (K : PySem.W.Frag) : Sp := fun vs H Q _ => ∃ (v : V) (b : Bool), vs = [v] ∧ ((Atm v ∧ b = false) ∨ ∃ a xs, v = .ref a ∧ SqA K H a xs ∧ b = true) ∧ ∀ H', Same H H' → Q (.bl b) H'
def spIsPair (w : World) (K : PySem.W.Frag) : Sp := fun vs H Q _ => ∃ (v : V) (ns : List Str) (o : Option (Option (List Int) × Option (List Int))), vs = [v] ∧ ApTh w K H ns v o ∧ ∀ H', Same H H' → Q (.bl o.isSome) H'
def spParted (K : PySem.W.Frag) : Sp := fun vs H Q _ => ∃ (p q b : Addr) (ns known : List Str) (x : Str) (k1 k2 : List (Key × V)) (u v : List Int), vs = [.ref p, .ref q, .ref b, .str x] ∧ H p = some (.dK k1) ∧ RowD ns k1 u ∧ H q = some (.dK k2) ∧ RowD ns k2 v ∧ SqA K H b (known.map V.str) ∧ (∀ y ∈ known, y ∈ ns) ∧ known.length < 1000 ∧ x ∈ ns ∧
  ∀ H', Same H H' → Q (.bl (decide (keyR ns known u = keyR ns known v) && !decide (av ns u x = av ns v x))) H'
def spAreAp (w : World) (K : PySem.W.Frag) (C : Addr) : Sp := fun vs H Q _ => ∃ (a b : Addr) (ns known : List Str) (x : Str) (tbl : List (List Int)) (v : V) (o : Option (Option (List Int) × Option (List Int))), vs = [.ref a, .ref b, .str x, v] ∧ Asked K H C a b ns known tbl ∧ x ∈ ns ∧ ApTh w K H ns v o ∧
  ∀ H', Same H H' → Q (.bl (apartB ns known x tbl o)) H'
theorem scIsPair : FnScope ["thing"] ["thing"] (defScope sIsPair) := ⟨rfl, rfl, rfl, by decide +kernel, rfl, by decide +kernel, by decide +kernel⟩
abbrev NIpd : List Str := ["one", "other", "known", "asked", "name"]
theorem scParted : FnScope NIpd ["one", "other", "known", "asked"] (defScope sIsParted) := ⟨rfl, rfl, rfl, by decide +kernel, rfl, by decide +kernel, by decide +kernel⟩
theorem scAreAp : FnScope ["self", "known", "asked", "thing"] ["self", "known", "asked", "thing"] (defScope sAreAp) := ⟨rfl, rfl, rfl, by decide +kernel, rfl, by decide +kernel, by decide +kernel⟩
theorem keys_all (ns known : List Str) (u v : List Int) : (known.map fun y => decide (av ns u y = av ns v y)).all id = decide (keyR ns known u = keyR ns known v) := by
  rw [Bool.eq_iff_iff, List.all_eq_true, decide_eq_true_eq]
  constructor
  · intro h
    exact key_of fun y hy => of_decide_eq_true (h _ (List.mem_map_of_mem hy))
  · intro h b hb
    obtain ⟨y, hy, rfl⟩ := List.mem_map.mp hb
    exact decide_eq_true (key_mem h y hy)
section
variable {P : Program} {w : World} {K : PySem.W.Frag} {mg : Str → Option Value} {base : Heap} {f C fL fW fP fR aF aL aO aK aA aB : Addr} {fd fdL fdW fdP fdR : FuncData}
theorem ok_isListA (F : Fun K "is_list" "is_list" sIsList f fd) (gI : mg "isinstance" = none) (gL : mg "list" = none) (gT : mg "tuple" = none) : FnOk P w K mg base CX0 1 f fd ["thing"] (spIsListA K) := by
  refine F.ok scIsList (fun vs H Q E h => by obtain ⟨v, e, _⟩ := h; rw [e]; rfl) fun cdv A outer s H vs Q E hr hsp => ?_
  obtain ⟨v, rfl, av, hq⟩ := hsp
  refine ⟨_, pss_one (ps_ret (pe_callB (r := rIsiT K) call_isiT rfl gI boot_isi (pa_cons (pv 0) (pa_cons (pe_tup (pa_cons (pe_bltn (v := .ty "list") rfl gL boot_list' rfl) (pa_cons (pe_bltn (v := .ty "tuple") rfl gT boot_tuple' rfl) pa_nil))) pa_nil)))), ?_⟩
  refine ⟨_, rfl, (by show 2 ≤ sizeLine; decide), fun t nt => ?_⟩
  have kt := same_new (o := .tup [.ty "list", .ty "tuple"]) nt
  obtain ⟨ty, h1, h2, h3, _⟩ := av.ty
  exact ⟨_, _, _, _, _, false, rfl, upd_same, .cons (.ty _) (.cons (.ty _) .nil), h1 _ _, kit_none2 h2 h3, hq _ kt⟩
theorem ok_isListO (F : Fun K "is_list" "is_list" sIsList f fd) (gI : mg "isinstance" = none) (gL : mg "list" = none) (gT : mg "tuple" = none) : FnOk P w K mg base CX0 1 f fd ["thing"] (spIsListO K) := by
  refine fnOr (ok_isListA F gI gL gT) (ok_isList F gI gL gT) ?_
  rintro vs H Q E ⟨v, b, rfl, h | ⟨a, xs, rfl, hs, rfl⟩, hq⟩
  · obtain ⟨h1, rfl⟩ := h
    exact .inl ⟨v, rfl, h1, hq⟩
  · exact .inr ⟨a, xs, rfl, hs, hq⟩
theorem ok_isPair (F : Fun K "is_pair" "is_pair" sIsPair f fd) (FL : Fun K "is_list" "is_list" sIsList fL fdL) (gLi : mg "is_list" = some (.ref fL)) (gI : mg "isinstance" = none) (gL : mg "list" = none) (gT : mg "tuple" = none) (gN : mg "len" = none) : FnOk P w K mg base CX0 2 f fd ["thing"] (spIsPair w K) := by
  have GL : FnOk P w K mg base CX0 1 fL fdL ["thing"] (spIsListO K) := ok_isListO FL gI gL gT
  have bL := FL.binds (ps := ["thing"]) fun _ _ _ _ _ _ us hl => match us, hl with | [_], _ => rfl
  refine F.ok scIsPair (fun vs H Q E h => by obtain ⟨v, ns, o, e, _⟩ := h; rw [e]; rfl) fun cdv A outer s H vs Q E hr hsp => ?_
  obtain ⟨v, ns, o, rfl, th, hq⟩ := hsp
  refine ⟨_, pss_one (ps_ret (pe_and (pe_call GL hr rfl gLi FL.kp bL .nil pass0 (pa_cons (pv 0) pa_nil)) (pe_one (pe_cmpR op_eq (pe_callB call_len_seq rfl gN boot_len (pa_cons (pv 0) pa_nil)) pe_int (nomark _))))), ?_⟩
  cases th with
  | odd a => exact ⟨_, rfl, _, false, rfl, .inl ⟨a, rfl⟩, fun H1 s1 => ⟨_, rfl, iteF (hq H1 s1)⟩⟩
  | @seq a xs hs ne =>
    refine ⟨_, rfl, _, true, rfl, .inr ⟨a, xs, rfl, hs, rfl⟩, fun H1 s1 => ⟨_, rfl, iteT ⟨_, rfl, a, xs, rfl, (hs.same s1).seq, rfl, ?_⟩⟩⟩
    have z := hq H1 s1
    rw [dec_int2, decide_eq_false (by omega : ¬ ((xs.length : Nat) : Int) = 2)]
    exact z
  | @pair a y z o1 o2 hs w1 w2 =>
    refine ⟨_, rfl, _, true, rfl, .inr ⟨a, [y, z], rfl, hs, rfl⟩, fun H1 s1 => ⟨_, rfl, iteT ⟨_, rfl, a, [y, z], rfl, (hs.same s1).seq, rfl, ?_⟩⟩⟩
    exact hq H1 s1
theorem ok_parted (F : Fun K "is_parted" "is_parted" sIsParted f fd) (gA : mg "all" = none) : FnOk P w K mg base CX0 1 f fd ["one", "other", "known", "asked"] (spParted K) := by
  refine F.ok scParted (fun vs H Q E h => by obtain ⟨p, q, b, ns, known, x, k1, k2, u, v, e, _⟩ := h; rw [e]; rfl) fun cdv A outer s H vs Q E hr hsp => ?_
  obtain ⟨p, q, b, ns, known, x, k1, k2, u, v, rfl, op, r1, oq, r2, hb, sub, sh, xin, hq⟩ := hsp
  have nd := scParted.nd
  have hu := hu_of hr
  refine ⟨_, pss_one (ps_ret (pe_and (pe_callB (cr_all rfl) rfl gA boot_all' (pa_cons (pe_lc (own := [("name", 4)]) (tt := tYes) rfl nd (pi_seq (pv 2)) (blkOk_by (N := NIpd) (sc := defScope sIsParted) (by decide +kernel)) (fun _ _ _ _ _ => pg_name (i := 4) nd rfl (Or.inl rfl)) (fun _ _ _ _ _ => pts_nil)
      (fun _ _ _ _ _ => pe_cmpR op_eq (pe_dget hu (pv 0) (pv 4) (fun _ _ => rfl)) (pe_dget hu (pv 1) (pv 4) (fun _ _ => rfl)) (nomark _))) pa_nil))
    (pe_one (pe_cmpR op_ne (pe_dget hu (pv 0) (pv 3) (fun _ _ => rfl)) (pe_dget hu (pv 1) (pv 3) (fun _ _ => rfl)) (nomark _))))), ?_⟩
  obtain ⟨o, ho, ko⟩ := hb.ho
  refine ⟨_, rfl, lc_seq ko ho (by rw [List.length_map]; omega) (fun _ => true) (fun y => match y with | .str y => .bl (decide (av ns u y = av ns v y)) | _ => .non) ?_ ?_⟩
  · rintro i y H2 Cn Nn ey s2 yes no
    rw [List.getElem?_map] at ey
    obtain ⟨z, ez, rfl⟩ := Option.map_eq_some_iff.mp ey
    have zin : z ∈ ns := sub z (List.mem_of_getElem? ez)
    refine ⟨rfl, ?_⟩
    refine ⟨_, rfl, _, rfl, p, _, rfl, r1.val z zin ▸ DGet.k (k := Sum.inr z) (s2 _ _ op), _, rfl, _, rfl, q, _, rfl, r2.val z zin ▸ DGet.k (k := Sum.inr z) (s2 _ _ oq), rfl, ?_⟩
    rw [dec_int2]
    exact yes rfl H2 (Same.refl _)
  · intro H2 D nD oD s2
    have e : ((known.map V.str).filter fun _ => true).map (fun y => match y with | V.str y => V.bl (decide (av ns u y = av ns v y)) | _ => .non) = (known.map fun y => decide (av ns u y = av ns v y)).map V.bl := by
      rw [List.filter_eq_self.mpr (fun _ _ => rfl), List.map_map, List.map_map]
      rfl
    rw [e] at oD
    refine ⟨D, _, rfl, SqL.of oD, _, rfl, ?_⟩
    rw [keys_all]
    have z := hq H2 s2
    cases ek : decide (keyR ns known u = keyR ns known v) with
    | false =>
      rw [ek, Bool.false_and] at z
      exact iteF z
    | true =>
      rw [ek, Bool.true_and] at z
      refine iteT ⟨_, rfl, _, rfl, p, _, rfl, r1.val x xin ▸ DGet.k (k := Sum.inr x) (s2 _ _ op), _, rfl, _, rfl, q, _, rfl, r2.val x xin ▸ DGet.k (k := Sum.inr x) (s2 _ _ oq), rfl, ?_⟩
      rw [dec_int2]
      exact z
theorem ok_areAp (F : Fun K "are_apart" "Table.are_apart" sAreAp f fd) (T : TabC K C) (Ck : Chk K mg aF aL aO aK aA aB) (FP : Fun K "is_pair" "is_pair" sIsPair fP fdP) (gP : mg "is_pair" = some (.ref fP)) (GP : FnOk P w K mg base CX0 2 fP fdP ["thing"] (spIsPair w K))
    (FW : Fun K "_is_world" "Table._is_world" sIsWorld fW fdW) (mW : Meth K C "_is_world" fW) (GW : FnOk P w K mg base CX0 3 fW fdW ["self", "thing"] (spIsWorldX w C))
    (FR : Fun K "is_parted" "is_parted" sIsParted fR fdR) (gR : mg "is_parted" = some (.ref fR)) (gA : mg "all" = none) : FnOk P w K mg base CX0 5 f fd ["self", "known", "asked", "thing"] (spAreAp w K C) := by
  obtain ⟨fdB, FB⟩ := Ck.CB
  have GB := ok_ckB (P := P) (w := w) (base := base) Ck FB
  have bB := FB.binds (ps := ["names", "known", "asked"]) fun _ _ _ _ _ _ us hl => match us, hl with | [_, _, _], _ => rfl
  have GR : FnOk P w K mg base CX0 1 fR fdR ["one", "other", "known", "asked"] (spParted K) := ok_parted FR gA
  have bR := FR.binds (ps := ["one", "other", "known", "asked"]) fun _ _ _ _ _ _ us hl => match us, hl with | [_, _, _, _], _ => rfl
  have bP := FP.binds (ps := ["thing"]) fun _ _ _ _ _ _ us hl => match us, hl with | [_], _ => rfl
  have bW := FW.binds (ps := ["self", "thing"]) fun _ _ _ _ _ _ us hl => match us, hl with | [_, _], _ => rfl
  refine F.ok scAreAp (fun vs H Q E h => by obtain ⟨a, b, ns, known, x, tbl, v, o, e, _⟩ := h; rw [e]; rfl) fun cdv A outer s H vs Q E hr hsp => ?_
  obtain ⟨a, b, ns, known, x, tbl, v, o, rfl, ask, xin, th, hq⟩ := hsp
  refine ⟨_, pss_cons (ps_expr (pe_call GB hr rfl Ck.gCB FB.kp bB .nil pass0 (pa_cons (pe_fld (pv 0) rfl) (pa_cons (pv 1) (pa_cons (pv 2) pa_nil)))))
    (pss_cons (ps_if (PW.pt (pw_or (pt_not (pt_val (pe_call GP (hr.mono (by decide)) rfl gP FP.kp bP .nil pass0 (pa_cons (pv 3) pa_nil))))
        (pw_or (pt_not (pt_val (pe_meth (pv 0) T.cl mW GW (hr.mono (by decide)) bW .nil pass0 (pa_cons (pe_ix ix_any (pv 3) pe_int (fun _ _ => rfl)) pa_nil))))
        (pw_or1 (pt_not (pt_val (pe_meth (pv 0) T.cl mW GW (hr.mono (by decide)) bW .nil pass0 (pa_cons (pe_ix ix_any (pv 3) pe_int (fun _ _ => rfl)) pa_nil)))))))) (pss_one (ps_ret pe_bl)) pss_nil)
    (pss_one (ps_ret (pe_call GR (hr.mono (by decide)) rfl gR FR.kp bR .nil pass0 (pa_cons (pe_ix ix_any (pv 3) pe_int (fun _ _ => rfl)) (pa_cons (pe_ix ix_any (pv 3) pe_int (fun _ _ => rfl)) (pa_cons (pv 1) (pa_cons (pv 2) pa_nil)))))))), ?_⟩
  obtain ⟨dx, qa, ra, ha, hqa, hra⟩ := ask.t.ex
  refine ⟨_, rfl, _, _, _, _, _, rfl, ha, T.cl, T.nQ, tabF_q _ _, _, rfl, _, rfl, qa, b, ns, known, x, rfl, hqa, ask.k, ask.nd, ask.sub, ask.short, xin, fun H1 s1 => ?_⟩
  refine ⟨_, rfl, v, ns, o, rfl, th.same s1, fun H2 s2 => ⟨_, rfl, ?_⟩⟩
  have s02 := s1.trans s2
  cases th with
  | odd a => exact iteT (hq H2 s02)
  | seq q ne => exact iteT (hq H2 s02)
  | @pair p y z o1 o2 q w1 w2 =>
    have at_0 : atI [y, z] (0 : Int) = some y := rfl
    have at_1 : atI [y, z] (1 : Int) = some z := rfl
    refine iteF ⟨_, rfl, a, dx, _, rfl, s02 _ _ ha, rfl, _, rfl, at_any (q.same s02) at_0 ⟨a, y, ns, tbl, o1, rfl, ask.t.same s02, ask.ndn, ask.s1, w1.same s02, fun H3 s3 => ⟨_, rfl, ?_⟩⟩⟩
    have s03 := s02.trans s3
    cases o1 with
    | none => exact iteT (hq H3 s03)
    | some u =>
      have e1 : worldB tbl (some u) = decide (u ∈ tbl) := rfl
      rw [e1]
      by_cases mu : u ∈ tbl
      · rw [decide_eq_true mu]
        refine iteF ⟨_, rfl, a, dx, _, rfl, s03 _ _ ha, rfl, _, rfl, at_any (q.same s03) at_1 ⟨a, z, ns, tbl, o2, rfl, ask.t.same s03, ask.ndn, ask.s1, w2.same s03, fun H4 s4 => ⟨_, rfl, ?_⟩⟩⟩
        have s04 := s03.trans s4
        cases o2 with
        | none => exact iteT (hq H4 s04)
        | some v =>
          have e2 : worldB tbl (some v) = decide (v ∈ tbl) := rfl
          rw [e2]
          by_cases mv : v ∈ tbl
          · rw [decide_eq_true mv]
            cases w1 with
            | @row d1 k1 _ od1 rd1 =>
              cases w2 with
              | @row d2 k2 _ od2 rd2 =>
                refine iteF ⟨_, rfl, at_any (q.same s04) at_0 ⟨_, rfl, at_any (q.same s04) at_1 ⟨_, rfl, _, rfl, d1, d2, b, ns, known, x, k1, k2, u, v, rfl, s04 _ _ od1, rd1, s04 _ _ od2, rd2, ask.k.same s04, ask.sub, ask.short, xin, fun H5 s5 => ?_⟩⟩⟩
                have z := hq H5 (s04.trans s5)
                unfold apartB at z
                dsimp only at z
                rw [decide_eq_true mu, decide_eq_true mv, Bool.true_and, Bool.true_and] at z
                exact z
          · rw [decide_eq_false mv]
            have z := hq H4 s04
            unfold apartB at z
            dsimp only at z
            rw [decide_eq_true mu, decide_eq_false mv, Bool.true_and, Bool.false_and] at z
            exact iteT z
      · rw [decide_eq_false mu]
        have z : Q (.bl false) H3 := by
          have z := hq H3 s03
          cases o2 with
          | none => exact z
          | some v =>
            unfold apartB at z
            dsimp only at z
            rw [decide_eq_false mu, Bool.false_and] at z
            exact z
        exact iteT z
end
end L2.TB
/-! fields: a table, or a view of a field -/
namespace L2.TB
open PySem PySem.Spec PyProof.Rows LamX MK
/-- a field: its questions, those of the table beneath, its rows; what a question stands for, what known ones stand for -/
structure Fd where
  ns : List Str
  nb : List Str
  tbl : List (List Int)
  φ : Str → Str
  κ : List Str → List Str
structure FdOk (D : Fd) : Prop where
  nd : D.ns.Nodup
  ne : D.ns ≠ []
  ndb : D.nb.Nodup
  sh : D.ns.length < 100
  shb : D.nb.length < 100
  ts : D.tbl.length < 100
  tn : D.tbl ≠ []
  ok : ∀ x ∈ D.ns, NmOk x
  fi : ∀ x ∈ D.ns, D.φ x ∈ D.nb
  ki : ∀ known, (∀ x ∈ known, x ∈ D.ns) → ∀ y, y ∈ D.κ known ↔ ∃ x ∈ known, D.φ x = y
  kn : ∀ known, (∀ x ∈ known, x ∈ D.ns) → known.Nodup → (D.κ known).Nodup
  ls : ∀ u ∈ D.tbl, u.length = D.nb.length
def tabD (ns : List Str) (tbl : List (List Int)) : Fd := ⟨ns, ns, tbl, id, id⟩
/-- each once, in the order of the first ones -/
def addD (acc : List Str) (x : Str) : List Str := if x ∈ acc then acc else acc ++ [x]
def dd (xs : List Str) : List Str := xs.foldl addD []
theorem add_mem {acc : List Str} {x y : Str} : y ∈ addD acc x ↔ y ∈ acc ∨ y = x := by
  unfold addD
  by_cases m : x ∈ acc
  · rw [if_pos m]
    exact ⟨.inl, fun h => h.elim id fun e => e ▸ m⟩
  · rw [if_neg m, List.mem_append, List.mem_singleton]
theorem add_nd {acc : List Str} {x : Str} (h : acc.Nodup) : (addD acc x).Nodup := by
  unfold addD
  by_cases m : x ∈ acc
  · rw [if_pos m]; exact h
  · rw [if_neg m, List.nodup_append]
    exact ⟨h, by simp, fun a ha b hb e => by rw [List.mem_singleton.mp hb] at e; exact m (e ▸ ha)⟩
theorem fold_mem : ∀ {xs acc : List Str} {y : Str}, y ∈ xs.foldl addD acc ↔ y ∈ acc ∨ y ∈ xs
  | [], acc, y => by simp
  | x :: xs, acc, y => by
    show y ∈ xs.foldl addD (addD acc x) ↔ _
    rw [fold_mem, add_mem, List.mem_cons, or_assoc]
theorem fold_nd : ∀ {xs acc : List Str}, acc.Nodup → (xs.foldl addD acc).Nodup
  | [], _, h => h
  | x :: xs, _, h => fold_nd (xs := xs) (add_nd h)
theorem dd_mem {xs : List Str} {y : Str} : y ∈ dd xs ↔ y ∈ xs := by unfold dd; rw [fold_mem]; simp
theorem dd_nd (xs : List Str) : (dd xs).Nodup := fold_nd .nil
def viewD (D : Fd) (ks : List Str) (led : Str → Str) : Fd := ⟨ks, D.nb, D.tbl, fun x => D.φ (led x), fun known => D.κ (dd (known.map led))⟩
theorem tab_ok {ns : List Str} {tbl : List (List Int)} (nd : ns.Nodup) (ne : ns ≠ []) (sh : ns.length < 100) (ts : tbl.length < 100) (tn : tbl ≠ []) (ok : ∀ x ∈ ns, NmOk x) (ls : ∀ u ∈ tbl, u.length = ns.length) : FdOk (tabD ns tbl) :=
  ⟨nd, ne, nd, sh, sh, ts, tn, ok, fun x h => h, fun known _ y => ⟨fun h => ⟨y, h, rfl⟩, fun ⟨x, h, e⟩ => e ▸ h⟩, fun _ _ h => h, ls⟩
theorem view_ok {D : Fd} (O : FdOk D) {ks : List Str} {led : Str → Str} (nd : ks.Nodup) (ne : ks ≠ []) (sh : ks.length < 100) (ok : ∀ x ∈ ks, NmOk x) (li : ∀ x ∈ ks, led x ∈ D.ns) : FdOk (viewD D ks led) := by
  have sub : ∀ {known : List Str}, (∀ x ∈ known, x ∈ ks) → ∀ y ∈ dd (known.map led), y ∈ D.ns := fun h y hy => by
    obtain ⟨x, hx, rfl⟩ := List.mem_map.mp (dd_mem.mp hy)
    exact li x (h x hx)
  refine ⟨nd, ne, O.ndb, sh, O.shb, O.ts, O.tn, ok, fun x h => O.fi _ (li x h), fun known h y => ?_, fun known h _ => O.kn _ (sub h) (dd_nd _), O.ls⟩
  show y ∈ D.κ (dd (known.map led)) ↔ _
  rw [O.ki _ (sub h)]
  constructor
  · rintro ⟨z, hz, rfl⟩
    obtain ⟨x, hx, rfl⟩ := List.mem_map.mp (dd_mem.mp hz)
    exact ⟨x, hx, rfl⟩
  · rintro ⟨x, hx, rfl⟩
    exact ⟨led x, dd_mem.mpr (List.mem_map_of_mem hx), rfl⟩
def TellsD (D : Fd) (known : List Str) (x : Str) : Prop := Tells D.nb D.tbl (known.map D.φ) (D.φ x)
instance (D : Fd) (known : List Str) (x : Str) : Decidable (TellsD D known x) := by unfold TellsD; exact inferInstance
theorem key_eq {nb known : List Str} {u v : List Int} : keyR nb known u = keyR nb known v ↔ ∀ y ∈ known, av nb u y = av nb v y := List.map_inj_left
theorem tells_set {nb k1 k2 : List Str} {tbl : List (List Int)} {x : Str} (h : ∀ y, y ∈ k1 ↔ y ∈ k2) : Tells nb tbl k1 x ↔ Tells nb tbl k2 x := by
  unfold Tells
  refine ⟨fun t u hu v hv e => t u hu v hv (key_eq.mpr fun y hy => key_eq.mp e y ((h y).mp hy)), fun t u hu v hv e => t u hu v hv (key_eq.mpr fun y hy => key_eq.mp e y ((h y).mpr hy))⟩
theorem tells_view {D : Fd} (O : FdOk D) {ks known : List Str} {led : Str → Str} {x : Str} : TellsD D (dd (known.map led)) (led x) ↔ TellsD (viewD D ks led) known x := by
  unfold TellsD
  refine tells_set fun y => ?_
  rw [List.mem_map, List.mem_map]
  constructor
  · rintro ⟨z, hz, rfl⟩
    obtain ⟨w, hw, rfl⟩ := List.mem_map.mp (dd_mem.mp hz)
    exact ⟨w, hw, rfl⟩
  · rintro ⟨w, hw, rfl⟩
    exact ⟨led w, dd_mem.mpr (List.mem_map_of_mem hw), rfl⟩
theorem tells_kappa {D : Fd} (O : FdOk D) {known : List Str} {x : Str} (sub : ∀ y ∈ known, y ∈ D.ns) : TellsD D known x ↔ Tells D.nb D.tbl (D.κ known) (D.φ x) := by
  refine tells_set fun y => ?_
  rw [O.ki _ sub, List.mem_map]
/-- the table at a, as a field -/
def RT (C : Addr) (H : Hp) (a : Addr) (D : Fd) : Prop := ∃ (ns : List Str) (tbl : List (List Int)), D = tabD ns tbl ∧ TabAt H C a ns tbl ∧ ns.Nodup ∧ ns ≠ [] ∧ (∀ x ∈ ns, NmOk x) ∧ ns.length < 100 ∧ tbl ≠ [] ∧ tbl.length < 100
def vF (fa da : Addr) : List (Str × V) := [("_field", .ref fa), ("_names", .ref da)]
def vN (ks : List Str) (led : Str → Str) : List (Key × V) := dkv ks fun x => .str (led x)
/-- a view at a, of a field of RF -/
def RV (C : Addr) (RF : Hp → Addr → Fd → Prop) (H : Hp) (a : Addr) (D : Fd) : Prop := ∃ (dx fa da : Addr) (D0 : Fd) (ks : List Str) (led : Str → Str), D = viewD D0 ks led ∧ H a = some (.ins C dx (vF fa da)) ∧ H da = some (.dK (vN ks led)) ∧ RF H fa D0 ∧
  ks.Nodup ∧ ks ≠ [] ∧ (∀ x ∈ ks, NmOk x) ∧ (∀ x ∈ ks, led x ∈ D0.ns) ∧ ks.length < 100
abbrev mths : List Str := ["questions", "home", "answers", "is_told", "plan", "is_plan", "found", "apart", "are_apart", "_meant", "names"]
/-- what is asked of a kind of fields -/
structure FRel (CF : Addr) (RF : Hp → Addr → Fd → Prop) : Prop where
  same : ∀ {H H' : Hp} {a : Addr} {D : Fd}, RF H a D → Same H H' → RF H' a D
  ext : ∀ {H H' : Hp} {a : Addr} {D : Fd}, RF H a D → ExtN H H' → RF H' a D
  but : ∀ {H H' : Hp} {a l ls : Addr} {D : Fd} {N : Int}, RF H a D → Strm H l ls N → But l ls H H' → RF H' a D
  ok : ∀ {H : Hp} {a : Addr} {D : Fd}, RF H a D → FdOk D
  ins : ∀ {H : Hp} {a : Addr} {D : Fd}, RF H a D → ∃ dx fs, H a = some (.ins CF dx fs) ∧ ∀ m ∈ mths, fs.lookup m = none
theorem TabAt.but {H H' : Hp} {C a l ls : Addr} {N : Int} {ns : List Str} {tbl : List (List Int)} (t : TabAt H C a ns tbl) (S : Strm H l ls N) (b : But l ls H H') (ne : ns ≠ []) (tn : tbl ≠ []) : TabAt H' C a ns tbl := by
  obtain ⟨cs, g, k, m, S⟩ := S
  obtain ⟨dx, qa, ra, ha, hq, ps, hr, pr⟩ := t.ex
  obtain ⟨y, ns', rfl⟩ : ∃ y ns', ns = y :: ns' := by
    cases ns with
    | nil => exact absurd rfl ne
    | cons y r => exact ⟨y, r, rfl⟩
  have l1 := Paired.length pr
  have pos := List.length_pos_iff.mpr tn
  have k1 : ∀ {p : Addr} {o : HO}, H p = some o → (∀ xs, o ≠ .lst xs) → H' p = some o := fun {p o} e n => b _ _ (fun z => by rw [z, S.o] at e; exact n _ (Option.some.inj e).symm) (fun z => by rw [z, S.c] at e; exact n _ (Option.some.inj e).symm) e
  refine ⟨dx, qa, ra, k1 ha (fun _ z => by cases z), b _ _ (fun z => ?_) (fun z => ?_) hq, ps, b _ _ (fun z => ?_) (fun z => ?_) hr, Paired.mapP pr fun p us h => ⟨k1 h.1 (fun _ z => by cases z), h.2⟩⟩
  · rw [z, S.o] at hq
    cases hq
  · rw [z, S.c] at hq
    have e := HO.lst.inj (Option.some.inj hq)
    cases cs with
    | nil => cases e
    | cons c r => cases e
  · rw [z, S.o] at hr
    have e := HO.lst.inj (Option.some.inj hr)
    match ps, e with
    | [_, _, _, _], e => simp at e
  · rw [z, S.c] at hr
    have e := HO.lst.inj (Option.some.inj hr)
    match ps, cs, e with
    | [], _, _ => simp at l1; omega
    | p :: r, [], e => cases e
    | p :: r, c :: r2, e => simp at e
theorem rt_rel (C : Addr) : FRel C (RT C) where
  same := fun ⟨ns, tbl, e, t, r⟩ s => ⟨ns, tbl, e, t.same s, r⟩
  ext := fun ⟨ns, tbl, e, t, r⟩ s => ⟨ns, tbl, e, t.ext s, r⟩
  but := fun ⟨ns, tbl, e, t, nd, ne, ok, sh, tn, ts⟩ S b => ⟨ns, tbl, e, t.but S b ne tn, nd, ne, ok, sh, tn, ts⟩
  ok := fun ⟨ns, tbl, e, t, nd, ne, ok, sh, tn, ts⟩ => e ▸ tab_ok nd ne sh ts tn ok (let ⟨_, _, _, _, _, hra⟩ := t.ex; hra.row_len)
  ins := fun ⟨ns, tbl, e, t, r⟩ => by
    obtain ⟨dx, qa, ra, ha, _, _⟩ := t.ex
    refine ⟨dx, _, ha, fun m hm => ?_⟩
    simp only [mths, List.mem_cons, List.not_mem_nil, or_false] at hm
    rcases hm with rfl | rfl | rfl | rfl | rfl | rfl | rfl | rfl | rfl | rfl | rfl <;> rfl
theorem rv_rel {C CF : Addr} {RF : Hp → Addr → Fd → Prop} (F : FRel CF RF) : FRel C (RV C RF) where
  same := fun ⟨dx, fa, da, D0, ks, led, e, ha, hd, r, m⟩ s => ⟨dx, fa, da, D0, ks, led, e, s _ _ ha, s _ _ hd, F.same r s, m⟩
  ext := fun ⟨dx, fa, da, D0, ks, led, e, ha, hd, r, m⟩ s => ⟨dx, fa, da, D0, ks, led, e, s _ _ ha (fun _ z => by cases z), s _ _ hd (fun _ z => by cases z), F.ext r s, m⟩
  but := fun ⟨dx, fa, da, D0, ks, led, e, ha, hd, r, m⟩ S b => by
    have r' := F.but r S b
    obtain ⟨cs, g, k, mm, S⟩ := S
    exact ⟨dx, fa, da, D0, ks, led, e, b _ _ (fun z => by rw [z, S.o] at ha; cases ha) (fun z => by rw [z, S.c] at ha; cases ha) ha, b _ _ (fun z => by rw [z, S.o] at hd; cases hd) (fun z => by rw [z, S.c] at hd; cases hd) hd, r', m⟩
  ok := fun ⟨dx, fa, da, D0, ks, led, e, ha, hd, r, nd, ne, ok, li, sh⟩ => e ▸ view_ok (F.ok r) nd ne sh ok li
  ins := fun ⟨dx, fa, da, D0, ks, led, e, ha, r⟩ => by
    refine ⟨dx, _, ha, fun m hm => ?_⟩
    simp only [mths, List.mem_cons, List.not_mem_nil, or_false] at hm
    rcases hm with rfl | rfl | rfl | rfl | rfl | rfl | rfl | rfl | rfl | rfl | rfl <;> rfl
end L2.TB
/-! the checks, where the names are a dict's keys -/
namespace L2.TB
open PySem PySem.Spec PyProof.Rows LamX MK
def NmD (H : Hp) (c : Addr) (ns : List Str) : Prop := ∃ led : Str → Str, H c = some (.dK (vN ns led)) ∧ ns.Nodup
theorem NmD.same {H H' : Hp} {c : Addr} {ns : List Str} (h : NmD H c ns) (s : Same H H') : NmD H' c ns := let ⟨l, o, n⟩ := h; ⟨l, s _ _ o, n⟩
theorem dkv_none {ns : List Str} {g : Str → V} {x : Str} (h : x ∉ ns) : valV (dkv ns g) (Sum.inr x) = none := by
  cases e : valV (dkv ns g) (Sum.inr x) with
  | none => rfl
  | some v =>
    exfalso
    have z : (valV (dkv ns g) (Sum.inr x)).isSome = true := by rw [e]; rfl
    rw [← valV_any, List.any_eq_true] at z
    obtain ⟨q, hq, hq2⟩ := z
    have hq3 : q.1 = Sum.inr x := of_decide_eq_true hq2
    have m : q.1 ∈ (dkv ns g).map (·.1) := List.mem_map_of_mem hq
    rw [dkv_keys, hq3] at m
    obtain ⟨y, hy, e⟩ := List.mem_map.mp m
    cases e
    exact h hy
def nmV (ns : List Str) (x : Str) : Option V := if x ∈ ns then some .non else none
theorem NmD.get {H : Hp} {c : Addr} {ns : List Str} (h : NmD H c ns) (x : Str) : ∃ o, DGet H c (.str x) o ∧ o.isSome = decide (x ∈ ns) := by
  obtain ⟨led, o, nd⟩ := h
  refine ⟨_, DGet.k (k := Sum.inr x) o, ?_⟩
  by_cases m : x ∈ ns
  · show (valV (dkv ns _) (Sum.inr x)).isSome = _
    rw [dkv_val nd m, decide_eq_true m]; rfl
  · show (valV (dkv ns _) (Sum.inr x)).isSome = _
    rw [dkv_none m, decide_eq_false m]; rfl
def spIsOneD (K : PySem.W.Frag) : Sp := fun vs H Q _ => ∃ (c : Addr) (ns : List Str) (v : V), vs = [.ref c, v] ∧ NmD H c ns ∧ ((∃ x, v = .str x ∧ Q (.bl (decide (x ∈ ns))) H) ∨ (NoStr K H v ∧ Q (.bl false) H))
def spFirstD (K : PySem.W.Frag) : Sp := fun vs H Q _ => ∃ (c : Addr) (ns : List Str) (v : V) (r : Option Nat), vs = [.ref c, v] ∧ NmD H c ns ∧ Bad K H ns v r ∧ ∀ H', Same H H' → Q (optV r) H'
def spCkKD (K : PySem.W.Frag) (CK : Addr) : Sp := fun vs H Q E => ∃ (c : Addr) (ns : List Str) (v : V) (r : Option Nat), vs = [.ref c, v] ∧ NmD H c ns ∧ Bad K H ns v r ∧ (r = none → ∀ H', Same H H' → Q .non H') ∧ ∀ i : Nat, r = some i → Flies CK "index" (.int i) H E
def spCkAD (K : PySem.W.Frag) (CQ : Addr) : Sp := fun vs H Q E => ∃ (c : Addr) (ns : List Str) (v : V), vs = [.ref c, v] ∧ NmD H c ns ∧ ((∃ x, v = .str x ∧ x ∈ ns ∧ Q .non H) ∨ (BadAsk K H ns v ∧ Flies CQ "name" v H E))
def spCkBD (K : PySem.W.Frag) (CK CQ : Addr) : Sp := fun vs H Q E => ∃ (c : Addr) (ns : List Str) (v x : V) (r : Option Nat), vs = [.ref c, v, x] ∧ NmD H c ns ∧ Bad K H ns v r ∧
  ((∃ i : Nat, r = some i ∧ Flies CK "index" (.int i) H E) ∨ (r = none ∧ ((∃ y, x = .str y ∧ y ∈ ns ∧ ∀ H', Same H H' → Q .non H') ∨ (BadAsk K H ns x ∧ Flies CQ "name" x H E))))
section
variable {P : Program} {w : World} {K : PySem.W.Frag} {mg : Str → Option Value} {base : Heap} {f fL fO CK CQ aF aL aO aK aA aB : Addr} {fd fdL fdO fdK fdA : FuncData}
theorem ok_isOneD (F : Fun K "is_one_of" "is_one_of" sIsOne f fd) (gI : mg "isinstance" = none) (gS : mg "str" = none) : FnOk P w K mg base CX0 1 f fd ["names", "thing"] (spIsOneD K) := by
  refine F.ok scIsOne (fun vs H Q E h => by obtain ⟨c, ns, x, e, _⟩ := h; rw [e]; rfl) fun cdv A outer s H vs Q E hr hsp => ?_
  obtain ⟨c, ns, v, rfl, hS, hq⟩ := hsp
  have hu := hu_of hr
  refine ⟨_, pss_one (ps_ret (pe_and (pe_callB (r := rIsi K) call_isi rfl gI boot_isi (pa_cons (pv 1) (pa_cons (pe_bltn (v := .ty "str") rfl gS boot_str' rfl) pa_nil)))
    (pe_one (pe_cmp (pc_din hu (pv 1) (pv 0)))))), ?_⟩
  rcases hq with ⟨x, rfl, hq⟩ | ⟨⟨t, h1, h2⟩, hq⟩
  · refine ⟨_, rfl, _, _, _, _, true, rfl, .ty _, .base (.str x), kit_ty (by decide +kernel), true, rfl, _, rfl, _, rfl, c, _, rfl, (hS.get x).choose_spec.1, ?_⟩
    rw [(hS.get x).choose_spec.2]
    exact hq
  · exact ⟨_, rfl, _, _, _, _, false, rfl, .ty _, h1, kit_ty h2, false, rfl, hq⟩
theorem ok_firstD (F : Fun K "first_bad" "first_bad" sFirst f fd) (FL : Fun K "is_list" "is_list" sIsList fL fdL) (gIL : mg "is_list" = some (.ref fL)) (FO : Fun K "is_one_of" "is_one_of" sIsOne fO fdO) (gIO : mg "is_one_of" = some (.ref fO))
    (gI : mg "isinstance" = none) (gL : mg "list" = none) (gT : mg "tuple" = none) (gS : mg "str" = none) (gE : mg "enumerate" = none) : FnOk P w K mg base CX0 2 f fd ["names", "things"] (spFirstD K) := by
  have GL : FnOk P w K mg base CX0 1 fL fdL ["thing"] (spIsListG K) := ok_isListG FL gI gL gT
  have bL := FL.binds (ps := ["thing"]) fun _ _ _ _ _ _ us hl => match us, hl with | [_], _ => rfl
  have GO : FnOk P w K mg base CX0 1 fO fdO ["names", "thing"] (spIsOneD K) := ok_isOneD FO gI gS
  have bO := FO.binds (ps := ["names", "thing"]) fun _ _ _ _ _ _ us hl => match us, hl with | [_, _], _ => rfl
  refine F.ok scFirst (fun vs H Q E h => by obtain ⟨c, ns, v, r, e, _⟩ := h; rw [e]; rfl) fun cdv A outer s H vs Q E hr hsp => ?_
  obtain ⟨c, ns, v, r, rfl, hc, hB, hq⟩ := hsp
  have nd := scFirst.nd
  have hu := hu_of hr
  refine ⟨_, pss_cons (ps_if (pt_not (pt_val (pe_call GL hr rfl gIL FL.kp bL .nil pass0 (pa_cons (pv 1) pa_nil)))) (pss_one (ps_ret pe_int)) pss_nil)
    (pss_cons (ps_set (i := 2) nd rfl (Or.inl rfl) pe_dnewK)
    (pss_cons (ps_for PassesOwn.never rfl (pi_enumS rfl gE (pa_cons (pv 1) pa_nil)) (pg_tup rfl (pgs_cons (pg_name (i := 3) nd rfl (Or.inl rfl)) (pgs_cons (pg_name (i := 4) nd rfl (Or.inl rfl)) pgs_nil)))
      (pss_cons (ps_if (PW.pt (pw_or (pt_not (pt_val (pe_call GO hr rfl gIO FO.kp bO .nil pass0 (pa_cons (pv 0) (pa_cons (pv 4) pa_nil))))) (pw_or1 (pt_cmp (pc_din hu (pv 4) (pv 2)))))) (pss_one (ps_ret (pv 3))) pss_nil)
      (pss_one (ps_dput hu (pv 2) (pv 4) pe_bl rfl))))
    (pss_one (ps_ret pe_non)))), ?_⟩
  cases hB with
  | no hN => exact ⟨_, rfl, _, rfl, .inr ⟨hN, fun H1 k1 => ⟨_, rfl, iteT (hq H1 k1)⟩⟩⟩
  | @seq a xs hS hA short =>
  refine ⟨_, rfl, _, rfl, .inl ⟨⟨a, xs, rfl, hS⟩, fun H1 k1 => ⟨_, rfl, iteF fun d nd2 => ?_⟩⟩⟩
  have kd := same_new (o := .dK []) nd2
  obtain ⟨o, ho, ko⟩ : ∃ o, H1 a = some o ∧ (o = .lst xs ∨ o = .tup xs) := by
    rcases hS.same k1 with e | e
    · exact ⟨_, e, .inl rfl⟩
    · exact ⟨_, e, .inr rfl⟩
  refine ⟨_, rfl, enum_seq ko (fun i σ H' => ∃ us : List Str, us.length = i ∧ badAt ns xs [] 0 = badAt ns (xs.drop i) us i ∧ H' d = some (.dK (seenD us)) ∧ Same H1 H' ∧ ∃ s3 s4, σ = [some (.ref c), some (.ref a), some (.ref d), s3, s4])
    ⟨[], rfl, by rw [List.drop_zero], upd_same, kd, _, _, rfl⟩ (fun i σ H' _ ⟨us, h⟩ => h.2.2.2.1 _ _ ho) ?_ ?_⟩
  · rintro i v σ H2 T ev ⟨us, lu, eb, od, s2, s3, s4, rfl⟩ nT
    have hi : i < xs.length := (List.getElem?_eq_some_iff.mp ev).1
    have kT := same_new (o := .tup [.int (i : Nat), v]) nT
    refine ⟨T, _, rfl, SqT.of upd_same, rfl, ?_⟩
    refine ⟨_, _, rfl, _, _, rfl, rfl, ?_⟩
    rw [badAt_step ev] at eb
    refine ⟨_, rfl, _, rfl, c, ns, v, rfl, ((hc.same k1).same s2).same kT, ?_⟩
    cases hs : strOf v with
    | none =>
      rw [hs] at eb
      refine .inr ⟨((hA v (List.mem_of_getElem? ev)) hs).same ((k1.trans s2).trans kT), _, rfl, iteT ?_⟩
      have z := hq _ (k1.trans (s2.trans kT))
      rw [eb] at z
      exact iteT ⟨_, rfl, z⟩
    | some x =>
      obtain rfl := strOf_some hs
      rw [hs] at eb
      refine .inl ⟨x, rfl, _, rfl, ?_⟩
      by_cases xin : x ∈ ns
      · rw [decide_eq_true xin]
        refine iteF ⟨_, rfl, _, rfl, d, _, rfl, DGet.k (k := Sum.inr x) (kT _ _ od), ?_⟩
        by_cases xs' : x ∈ us
        · obtain ⟨v2, e2⟩ := has_key (kvs := seenD us) (ns := us) (by unfold seenD; rw [List.map_map]; rfl) xs'
          rw [e2]
          dsimp only at eb
          rw [if_neg (fun z => z.2 xs')] at eb
          have z := hq _ (k1.trans (s2.trans kT))
          rw [eb] at z
          exact ⟨_, rfl, iteT ⟨_, rfl, z⟩⟩
        · rw [seen_none xs']
          refine ⟨_, rfl, iteF ?_⟩
          dsimp only at eb
          rw [if_pos ⟨xin, xs'⟩] at eb
          have small : (seenD us).length < sizeLine := by
            rw [sizeLine_eq]
            unfold seenD
            rw [List.length_map]; omega
          refine ⟨_, rfl, _, rfl, d, _, rfl, DPut.k (k := Sum.inr x) (kT _ _ od) small, us ++ [x], by rw [List.length_append, lu]; rfl, eb, ?_, ?_, _, _, rfl⟩
          · rw [upd_same, seen_put xs']
          · intro b u e
            have nb : b ≠ d := ne_of_none e nd2
            rw [upd_ne nb]
            exact kT _ _ (s2 _ _ e)
      · rw [decide_eq_false xin]
        dsimp only at eb
        rw [if_neg (fun z => xin z.1)] at eb
        have z := hq _ (k1.trans (s2.trans kT))
        rw [eb] at z
        exact iteT ⟨_, rfl, z⟩
  · rintro σ H2 ⟨us, lu, eb, od, s2, s3, s4, rfl⟩
    rw [List.drop_length] at eb
    have z := hq _ (k1.trans s2)
    rw [eb] at z
    exact z
theorem ok_ckKD (C : Chk K mg aF aL aO aK aA aB) (EK : ErrF P w K mg base "BadKnown" CK "index") (F : Fun K "check_known" "check_known" sCkK f fd) : FnOk P w K mg base (L2.CX P w) 3 f fd ["names", "known"] (spCkKD K CK) := by
  obtain ⟨fdF, FF⟩ := C.F
  obtain ⟨fdL, FL⟩ := C.L
  obtain ⟨fdO, FO⟩ := C.O
  have G : FnOk P w K mg base CX0 2 aF fdF ["names", "things"] (spFirstD K) := ok_firstD FF FL C.gL FO C.gO C.nI C.nL C.nT C.nS C.nE
  have b := FF.binds (ps := ["names", "things"]) fun _ _ _ _ _ _ us hl => match us, hl with | [_, _], _ => rfl
  refine F.okX scCkK (fun vs H Q E h => by obtain ⟨c, ns, v, r, e, _⟩ := h; rw [e]; rfl) fun cdv A outer s H vs Q E hr hsp => ?_
  obtain ⟨c, ns, v, r, rfl, hc, hB, hq, hf⟩ := hsp
  have nd := scCkK.nd
  refine ⟨_, pss_cons (ps_set (i := 2) nd rfl (Or.inl rfl) (pe_call G hr rfl C.gF FF.kp b .nil pass0 (pa_cons (pv 0) (pa_cons (pv 1) pa_nil))))
    (pss_one (ps_if (pt_cmp (pc_notN (pv 2))) (pss_one (ps_raiseE rfl (takes_of rfl rfl rfl rfl) EK hr rfl (pv 2))) pss_nil)), ?_⟩
  refine ⟨_, rfl, _, rfl, c, ns, v, r, rfl, hc, hB, fun H1 k1 => ?_⟩
  cases r with
  | none => exact ⟨_, rfl, _, rfl, iteF (hq rfl H1 k1)⟩
  | some i => exact ⟨_, rfl, _, rfl, iteT ⟨_, rfl, ((hf i rfl).same k1).up EK⟩⟩
theorem ok_ckAD (C : Chk K mg aF aL aO aK aA aB) (EQ : ErrF P w K mg base "NoQuestion" CQ "name") (F : Fun K "check_asked" "check_asked" sCkA f fd) : FnOk P w K mg base (L2.CX P w) 3 f fd ["names", "asked"] (spCkAD K CQ) := by
  obtain ⟨fdO, FO⟩ := C.O
  have G : FnOk P w K mg base CX0 1 aO fdO ["names", "thing"] (spIsOneD K) := ok_isOneD FO C.nI C.nS
  have b := FO.binds (ps := ["names", "thing"]) fun _ _ _ _ _ _ us hl => match us, hl with | [_, _], _ => rfl
  refine F.okX scCkA (fun vs H Q E h => by obtain ⟨c, ns, x, e, _⟩ := h; rw [e]; rfl) fun cdv A outer s H vs Q E hr hsp => ?_
  obtain ⟨c, ns, v, rfl, hc, hq⟩ := hsp
  refine ⟨_, pss_one (ps_if (pt_not (pt_val (pe_call G (hr.mono (by decide)) rfl C.gO FO.kp b .nil pass0 (pa_cons (pv 0) (pa_cons (pv 1) pa_nil))))) (pss_one (ps_raiseE rfl (takes_of rfl rfl rfl rfl) EQ hr rfl (pv 1))) pss_nil), ?_⟩
  refine ⟨_, rfl, _, rfl, c, ns, v, rfl, hc, ?_⟩
  rcases hq with ⟨x, rfl, xin, hq⟩ | ⟨⟨x, rfl, xin⟩ | hN, hf⟩
  · exact .inl ⟨x, rfl, _, rfl, by rw [decide_eq_true xin]; exact iteF hq⟩
  · exact .inl ⟨x, rfl, _, rfl, by rw [decide_eq_false xin]; exact iteT ⟨_, rfl, hf.up EQ⟩⟩
  · exact .inr ⟨hN, _, rfl, iteT ⟨_, rfl, hf.up EQ⟩⟩
theorem ok_ckBD (C : Chk K mg aF aL aO aK aA aB) (EK : ErrF P w K mg base "BadKnown" CK "index") (EQ : ErrF P w K mg base "NoQuestion" CQ "name") (F : Fun K "check_both" "check_both" sCkB f fd) : FnOk P w K mg base (L2.CX P w) 4 f fd ["names", "known", "asked"] (spCkBD K CK CQ) := by
  obtain ⟨fdK, FK⟩ := C.CK
  obtain ⟨fdA, FA⟩ := C.CA
  have GK : FnOk P w K mg base (L2.CX P w) 3 aK fdK ["names", "known"] (spCkKD K CK) := ok_ckKD C EK FK
  have GA : FnOk P w K mg base (L2.CX P w) 3 aA fdA ["names", "asked"] (spCkAD K CQ) := ok_ckAD C EQ FA
  have bK := FK.binds (ps := ["names", "known"]) fun _ _ _ _ _ _ us hl => match us, hl with | [_, _], _ => rfl
  have bA := FA.binds (ps := ["names", "asked"]) fun _ _ _ _ _ _ us hl => match us, hl with | [_, _], _ => rfl
  refine F.okX scCkB (fun vs H Q E h => by obtain ⟨c, ns, v, x, r, e, _⟩ := h; rw [e]; rfl) fun cdv A outer s H vs Q E hr hsp => ?_
  obtain ⟨c, ns, v, x, r, rfl, hc, hB, hq⟩ := hsp
  refine ⟨_, pss_cons (ps_expr (pe_callS GK hr rfl C.gCK FK.kp bK (fun σ => passAt (takes_of rfl rfl rfl rfl) σ) (pa_cons (pv 0) (pa_cons (pv 1) pa_nil))))
    (pss_one (ps_expr (pe_callS GA hr rfl C.gCA FA.kp bA (fun σ => passAt (takes_of rfl rfl rfl rfl) σ) (pa_cons (pv 0) (pa_cons (pv 2) pa_nil))))), ?_⟩
  refine ⟨_, rfl, _, rfl, c, ns, v, r, rfl, hc, hB, fun er H1 k1 => ?_, fun i er => ?_⟩
  · rcases hq with ⟨i, e2, _⟩ | ⟨_, hq⟩
    · rw [er] at e2; cases e2
    · refine ⟨_, rfl, _, rfl, c, ns, x, rfl, hc.same k1, ?_⟩
      rcases hq with ⟨y, rfl, yin, hq⟩ | ⟨hb, hf⟩
      · exact .inl ⟨y, rfl, yin, hq H1 k1⟩
      · exact .inr ⟨hb.same k1, hf.same k1⟩
  · rcases hq with ⟨j, e2, hf⟩ | ⟨e2, _⟩
    · rw [er] at e2; cases e2; exact hf
    · rw [er] at e2; cases e2
end
end L2.TB
/-! a view's _meant, is_told, plan, apart -/
namespace L2.TB
open PySem PySem.Spec PyProof.Rows LamX MK
theorem dkv_put {us : List Str} {g : Str → V} {x : Str} : putK (dkv us g) (Sum.inr x) (g x) = dkv (addD us x) g := by
  unfold addD
  by_cases m : x ∈ us
  · rw [if_pos m]
    have any : ((dkv us g).any fun kv => decide (kv.1 = Sum.inr x)) = true := by
      rw [List.any_eq_true]
      exact ⟨(Sum.inr x, g x), List.mem_map.mpr ⟨x, m, rfl⟩, by simp⟩
    unfold putK
    rw [if_pos any]
    unfold dkv
    rw [List.map_map]
    refine List.map_congr_left fun y _ => ?_
    show (if (Sum.inr y : Key) = Sum.inr x then ((Sum.inr y : Key), g x) else (Sum.inr y, g y)) = (Sum.inr y, g y)
    by_cases e : y = x
    · rw [e, if_pos rfl]
    · rw [if_neg (fun z => e (Sum.inr.inj z))]
  · rw [if_neg m, putK_new _ (dkv_none m)]
    unfold dkv
    rw [List.map_append]; rfl
theorem dd_take {xs : List Str} {i : Nat} {x : Str} (e : xs[i]? = some x) : (xs.take (i + 1)).foldl addD [] = addD ((xs.take i).foldl addD []) x := by
  rw [List.take_succ, e]
  show ((xs.take i) ++ [x]).foldl addD [] = _
  rw [List.foldl_append]; rfl
theorem fold_len : ∀ (xs acc : List Str), (xs.foldl addD acc).length ≤ acc.length + xs.length
  | [], acc => Nat.le_refl _
  | x :: xs, acc => by
    have h := fold_len xs (addD acc x)
    have h2 : (addD acc x).length ≤ acc.length + 1 := by
      unfold addD
      by_cases m : x ∈ acc
      · rw [if_pos m]; omega
      · rw [if_neg m, List.length_append]; exact Nat.le_refl _
    show (xs.foldl addD (addD acc x)).length ≤ _
    rw [List.length_cons]; omega
def rLd : List V → Hp → VK → Prop := fun xs H Q => ∃ (a : Addr) (kvs : List (Key × V)), xs = [.ref a] ∧ Rd H a (.dK kvs) ∧ ∀ p, H p = none → Q (.ref p) (upd H p (.lst (kvs.map fun kv => kV kv.1)))
theorem call_ld {X : Cx} (hc : X.calm = true) : CallR X (.type "list") rLd := call_listD hc
/-- the class of views -/
structure VwC (K : PySem.W.Frag) (C : Addr) : Prop where
  cl : Cls K C
  nF : NoAttr K C "_field"
  nN : NoAttr K C "_names"
abbrev NMe : List Str := ["self", "known", "meant", "name"]
theorem scVMeant : FnScope NMe ["self", "known"] (defScope sVMeant) := ⟨rfl, rfl, rfl, by decide +kernel, rfl, by decide +kernel, by decide +kernel⟩
abbrev NVt : List Str := ["self", "known", "asked"]
theorem scVTold : FnScope NVt NVt (defScope sVIsTold) := ⟨rfl, rfl, rfl, by decide +kernel, rfl, by decide +kernel, by decide +kernel⟩
theorem scVPlan : FnScope NVt NVt (defScope sVPlan) := ⟨rfl, rfl, rfl, by decide +kernel, rfl, by decide +kernel, by decide +kernel⟩
theorem scVApart : FnScope NVt NVt (defScope sVApart) := ⟨rfl, rfl, rfl, by decide +kernel, rfl, by decide +kernel, by decide +kernel⟩
def spMeant (C : Addr) : Sp := fun vs H Q _ => ∃ (a b dx fa da : Addr) (ks known : List Str) (led : Str → Str), vs = [.ref a, .ref b] ∧ H a = some (.ins C dx (vF fa da)) ∧ H da = some (.dK (vN ks led)) ∧ ks.Nodup ∧ H b = some (.lst (known.map V.str)) ∧ (∀ x ∈ known, x ∈ ks) ∧ known.length < 1000 ∧
  ∀ H' q, H q = none → H' q = some (.lst ((dd (known.map led)).map V.str)) → Same H H' → Q (.ref q) H'
/-! what fields do: RF, known ones as a list, what is asked -/
structure AskF (RF : Hp → Addr → Fd → Prop) (H : Hp) (a b : Addr) (D : Fd) (known : List Str) (x : Str) : Prop where
  r : RF H a D
  k : H b = some (.lst (known.map V.str))
  nd : known.Nodup
  sub : ∀ y ∈ known, y ∈ D.ns
  xin : x ∈ D.ns
def spTo (RF : Hp → Addr → Fd → Prop) : Sp := fun vs H Q _ => ∃ (a b : Addr) (D : Fd) (known : List Str) (x : Str), vs = [.ref a, .ref b, .str x] ∧ AskF RF H a b D known x ∧ ∀ H', Same H H' → Q (.bl (decide (TellsD D known x))) H'
abbrev lotD (D : Fd) (known : List Str) (x : Str) : Lot := lotOf D.nb (D.κ known) (D.φ x) D.tbl
def spPl (w : World) (RF : Hp → Addr → Fd → Prop) : Sp := fun vs H Q _ => ∃ (a b : Addr) (D : Fd) (known : List Str) (x : Str), vs = [.ref a, .ref b, .str x] ∧ AskF RF H a b D known x ∧
  (TellsD D known x → ∀ H' d es, H d = none → LotAt w H' d es (lotD D known x) → Same H H' → Q (.ref d) H') ∧ (¬ TellsD D known x → ∀ H', Same H H' → Q .non H')
def spAp (RF : Hp → Addr → Fd → Prop) : Sp := fun vs H Q _ => ∃ (a b : Addr) (D : Fd) (known : List Str) (x : Str), vs = [.ref a, .ref b, .str x] ∧ AskF RF H a b D known x ∧
  (TellsD D known x → ∀ H', Same H H' → Q .non H') ∧ (¬ TellsD D known x → ∀ H' t p q u v, H t = none → PairAt H' t D.nb (D.κ known) D.tbl (D.φ x) p q u v → Same H H' → Q (.ref t) H')
/-- a view's known ones, one bad, or what is asked -/
def spRefV (n : Nat) (K : PySem.W.Frag) (C CK CQ : Addr) : Sp := fun vs H Q E => ∃ (a dx fa da : Addr) (ns : List Str) (v x : V) (r : Option Nat) (more : List V), vs = .ref a :: v :: x :: more ∧ more.length = n ∧ H a = some (.ins C dx (vF fa da)) ∧ NmD H da ns ∧ Bad K H ns v r ∧
  ((∃ i : Nat, r = some i ∧ Flies CK "index" (.int i) H E) ∨ (r = none ∧ BadAsk K H ns x ∧ Flies CQ "name" x H E))
section
variable {P : Program} {w : World} {K : PySem.W.Frag} {mg : Str → Option Value} {base : Heap} {f C CF CK CQ fM fF aF aL aO aK aA aB : Addr} {fd fdM fdF : FuncData} {RF : Hp → Addr → Fd → Prop}
theorem ok_meant (F : Fun K "_meant" "View._meant" sVMeant f fd) (T : VwC K C) (nL : mg "list" = none) : FnOk P w K mg base CX0 1 f fd ["self", "known"] (spMeant C) := by
  refine F.ok scVMeant (fun vs H Q E h => by obtain ⟨a, b, dx, fa, da, ks, known, led, e, _⟩ := h; rw [e]; rfl) fun cdv A outer s H vs Q E hr hsp => ?_
  obtain ⟨a, b, dx, fa, da, ks, known, led, rfl, ha, hd, knd, hb, sub, sh, hq⟩ := hsp
  have nd := scVMeant.nd
  have hu := hu_of hr
  refine ⟨_, pss_cons (ps_set (i := 2) nd rfl (Or.inl rfl) pe_dnewK)
    (pss_cons (ps_for PassesOwn.never rfl (pi_list (pv 1)) (pg_name (i := 3) nd rfl (Or.inl rfl)) (pss_one (ps_dput hu (pv 2) (pe_dget hu (pe_fld (pv 0) rfl) (pv 3) (fun _ _ => rfl)) pe_bl rfl)))
    (pss_one (ps_ret (pe_callTy (r := rLd) (call_ld rfl) rfl nL boot_list' (pa_cons (pv 2) pa_nil))))), ?_⟩
  refine fun d nd2 => ?_
  have kd := same_new (o := .dK []) nd2
  have od : upd H d (.dK []) d = some (.dK []) := upd_same
  generalize upd H d (.dK []) = H1 at kd od
  refine ⟨_, rfl, b, rfl, ⟨_, SqL.of (kd _ _ hb)⟩, for_list (xs := known.map V.str) (fun i σ H' => H' d = some (.dK (dkv (((known.map led).take i).foldl addD []) fun _ => .bl true)) ∧ Same H H' ∧ ∃ s3, σ = [some (.ref a), some (.ref b), some (.ref d), s3])
    ⟨od, kd, _, rfl⟩ (fun i σ H' _ h => SqL.of (h.2.1 _ _ hb)) ?_ ?_⟩
  · rintro i v σ H2 ev ⟨o2, s2, s3, rfl⟩
    rw [List.getElem?_map] at ev
    obtain ⟨y, ey, rfl⟩ := Option.map_eq_some_iff.mp ev
    have yin := sub y (List.mem_of_getElem? ey)
    have dg : DGet H2 da (kV (Sum.inr y)) (valV (vN ks led) (Sum.inr y)) := DGet.k (k := Sum.inr y) (s2 _ _ hd)
    unfold vN at dg
    rw [dkv_val knd yin] at dg
    have el : (known.map led)[i]? = some (led y) := by rw [List.getElem?_map, ey]; rfl
    have hi : i < known.length := (List.getElem?_eq_some_iff.mp ey).1
    have small : (dkv (((known.map led).take i).foldl addD []) fun _ => V.bl true).length < sizeLine := by
      have := fold_len ((known.map led).take i) []
      rw [List.length_take, List.length_map] at this
      unfold dkv
      rw [sizeLine_eq, List.length_map]
      simp only [List.length_nil] at this
      omega
    refine ⟨_, rfl, _, rfl, a, C, dx, _, _, rfl, s2 _ _ ha, T.cl, T.nN, rfl, _, rfl, da, _, rfl, dg, d, _, rfl, DPut.k (k := Sum.inr (led y)) o2 small, ?_, ?_, _, rfl⟩
    · rw [upd_same, dkv_put (g := fun _ => .bl true), dd_take el]
    · intro b' o e
      rw [upd_ne (ne_of_none e nd2)]
      exact s2 _ _ e
  · rintro σ H2 ⟨o2, s2, s3, rfl⟩
    rw [List.take_of_length_le (by rw [List.length_map, List.length_map]; exact Nat.le_refl _)] at o2
    refine ⟨_, rfl, d, _, rfl, .inl o2, fun q nq => ?_⟩
    have kq := same_new (o := .lst ((dkv (dd (known.map led)) fun _ => V.bl true).map fun kv => kV kv.1)) nq
    refine hq _ q (s2.free nq) ?_ (s2.trans kq)
    rw [upd_same]
    have e := congrArg (List.map kV) (dkv_keys (dd (known.map led)) fun _ => V.bl true)
    rw [List.map_map, List.map_map] at e
    exact congrArg (fun l => some (HO.lst l)) e
end
end L2.TB
/-! a view's is_told, plan, apart -/
namespace L2.TB
open PySem PySem.Spec PyProof.Rows LamX MK
theorem pe_never {X : Cx} {e : Expr} : PE X e (fun _ _ _ => False) := ⟨fun _ _ _ _ _ _ h => h.elim⟩
/-- what a call lets out, whatever the slots -/
theorem passes {X : Cx} {E : XK} (tk : Takes X fun cls d _ H => E cls d H) : Passes (L2.CX X.prog X.w) X E := fun pins σ H s e s' I c => passAt tk σ pins H s e s' I c
theorem fn_toX {P : Program} {w : World} {K : PySem.W.Frag} {mg : Str → Option Value} {base : Heap} {k : Nat} {f : Addr} {fd : FuncData} {ps : List Str} {sp : Sp} (G : FnOk P w K mg base CX0 k f fd ps sp) : FnOk P w K mg base (L2.CX P w) k f fd ps sp :=
  ⟨G.len, fun A outer s H args us vs Q E hr he hb hv hs => codeAny_mono (G.run A outer s H args us vs Q E hr he hb hv hs) fun q s' h => by
    cases q with
    | error e => exact h.elim
    | ok fl => cases fl <;> exact h⟩
section
variable {P : Program} {w : World} {K : PySem.W.Frag} {mg : Str → Option Value} {base : Heap} {f C CF CK CQ fM fF aF aL aO aK aA aB : Addr} {fd fdM fdF : FuncData} {RF : Hp → Addr → Fd → Prop} {kF : Nat}
/-- what a view's methods rest upon -/
structure VwM (P : Program) (w : World) (K : PySem.W.Frag) (mg : Str → Option Value) (base : Heap) (C CK CQ fM aF aL aO aK aA aB : Addr) : Prop where
  T : VwC K C
  Ck : Chk K mg aF aL aO aK aA aB
  EK : ErrF P w K mg base "BadKnown" CK "index"
  EQ : ErrF P w K mg base "NoQuestion" CQ "name"
  FM : ∃ fd, Fun K "_meant" "View._meant" sVMeant fM fd
  mM : Meth K C "_meant" fM
  nL : mg "list" = none
/-- known ones that are as they should be -/
theorem bad_none {H : Hp} {b : Addr} {ns known : List Str} (hb : H b = some (.lst (known.map V.str))) (sub : ∀ x ∈ known, x ∈ ns) (nd : known.Nodup) (sh : known.length < 1000) : Bad K H ns (.ref b) none := by
  have z : badAt ns (known.map V.str) [] 0 = none := badAt_all ns known [] 0 sub (by simpa using nd)
  rw [← z]
  exact .seq (.inl hb) (fun x hx e => by obtain ⟨y, _, rfl⟩ := List.mem_map.mp hx; cases e) (by rw [List.length_map]; exact sh)
theorem nodup_sub {known ns : List Str} (nd : known.Nodup) (sub : ∀ x ∈ known, x ∈ ns) : known.length ≤ ns.length := List.Nodup.length_le_of_subset nd fun x hx => sub x hx
/-- what a view asks of its field -/
theorem ask_in {RF : Hp → Addr → Fd → Prop} (RL : FRel CF RF) {H H' : Hp} {fa q : Addr} {D0 : Fd} {ks known : List Str} {led : Str → Str} {x : Str} (r : RF H' fa D0) (hq : H' q = some (.lst ((dd (known.map led)).map V.str))) (sub : ∀ y ∈ known, y ∈ ks) (li : ∀ y ∈ ks, led y ∈ D0.ns) (xin : x ∈ ks) : AskF RF H' fa q D0 (dd (known.map led)) (led x) :=
  ⟨r, hq, dd_nd _, fun y hy => by
    obtain ⟨z, hz, rfl⟩ := List.mem_map.mp (dd_mem.mp hy)
    exact li z (sub z hz), li x xin⟩
theorem ok_vTold (V : VwM P w K mg base C CK CQ fM aF aL aO aK aA aB) (F : Fun K "is_told" "View.is_told" sVIsTold f fd) (RL : FRel CF RF) (cF : Cls K CF) (mF : Meth K CF "is_told" fF) (bF : Binds K fdF ["self", "known", "asked"] []) (GF : FnOk P w K mg base (L2.CX P w) kF fF fdF ["self", "known", "asked"] (spTo RF)) (h5 : 5 ≤ kF) :
    FnOk P w K mg base (L2.CX P w) (kF + 1) f fd ["self", "known", "asked"] (spTo (RV C RF)) := by
  obtain ⟨fdB, FB⟩ := V.Ck.CB
  have GB := ok_ckBD V.Ck V.EK V.EQ FB
  have bB := FB.binds (ps := ["names", "known", "asked"]) fun _ _ _ _ _ _ us hl => match us, hl with | [_, _, _], _ => rfl
  obtain ⟨fdM, FM⟩ := V.FM
  have GM := ok_meant (P := P) (w := w) (mg := mg) (base := base) FM V.T V.nL
  have bM := FM.binds (ps := ["self", "known"]) fun _ _ _ _ _ _ us hl => match us, hl with | [_, _], _ => rfl
  refine F.okX scVTold (fun vs H Q E h => by obtain ⟨a, b, D, known, x, e, _⟩ := h; rw [e]; rfl) fun cdv A outer s H vs Q E hr hsp => ?_
  obtain ⟨a, b, D, known, x, rfl, ask, hq⟩ := hsp
  have hu := hu_of hr
  refine ⟨_, pss_cons (ps_expr (pe_callS GB (hr.mono (by omega)) rfl V.Ck.gCB FB.kp bB (fun σ => passAt (takes_of rfl rfl rfl rfl) σ) (pa_cons (pe_fld (pv 0) rfl) (pa_cons (pv 1) (pa_cons (pv 2) pa_nil)))))
    (pss_one (ps_ret (pe_meth (pe_fld (pv 0) rfl) cF mF GF hr bF .nil (passes (takes_of rfl rfl rfl rfl)) (pa_cons (pe_meth (pv 0) V.T.cl V.mM GM (hr.mono (by omega)) bM .nil pass0 (pa_cons (pv 1) pa_nil)) (pa_cons (pe_dget hu (pe_fld (pv 0) rfl) (pv 2) (fun _ _ => rfl)) pa_nil))))), ?_⟩
  obtain ⟨dx, fa, da, D0, ks, led, rfl, ha, hd, r0, knd, kne, kok, li, ksh⟩ := id ask.r
  have ksub : ∀ y ∈ known, y ∈ ks := ask.sub
  have klen := nodup_sub ask.nd ksub
  refine ⟨_, rfl, _, _, _, _, _, rfl, ha, V.T.cl, V.T.nN, rfl, _, rfl, _, rfl, da, ks, .ref b, .str x, none, rfl, ⟨led, hd, knd⟩, bad_none ask.k ksub ask.nd (by omega), .inr ⟨rfl, .inl ⟨x, rfl, ask.xin, fun H1 k1 => ?_⟩⟩⟩
  have r1 := RL.same r0 k1
  obtain ⟨dx0, fs0, hf0, no0⟩ := RL.ins r1
  refine ⟨_, rfl, _, _, _, _, _, rfl, k1 _ _ ha, V.T.cl, V.T.nF, rfl, fa, dx0, fs0, rfl, hf0, no0 _ (by simp [mths]), ?_⟩
  refine ⟨_, rfl, a, dx, _, rfl, k1 _ _ ha, rfl, _, rfl, a, b, dx, fa, da, ks, known, led, rfl, k1 _ _ ha, k1 _ _ hd, knd, k1 _ _ ask.k, ksub, by omega, fun H2 q nq oq k2 => ?_⟩
  have k02 := k1.trans k2
  have dg : DGet H2 da (kV (Sum.inr x)) (valV (vN ks led) (Sum.inr x)) := DGet.k (k := Sum.inr x) (k02 _ _ hd)
  unfold vN at dg
  rw [dkv_val knd ask.xin] at dg
  refine ⟨_, rfl, _, _, _, _, _, rfl, k02 _ _ ha, V.T.cl, V.T.nN, rfl, _, rfl, da, _, rfl, dg, ?_⟩
  refine ⟨fa, q, D0, dd (known.map led), led x, rfl, ask_in RL (H := H) (RL.same r0 k02) oq ksub li ask.xin, fun H3 k3 => ?_⟩
  have e : decide (TellsD D0 (dd (known.map led)) (led x)) = decide (TellsD (viewD D0 ks led) known x) := by
    have z := tells_view (RL.ok r0) (ks := ks) (known := known) (led := led) (x := x)
    by_cases h : TellsD (viewD D0 ks led) known x
    · rw [decide_eq_true h, decide_eq_true (z.mpr h)]
    · rw [decide_eq_false h, decide_eq_false (fun y => h (z.mp y))]
  rw [e]
  exact hq H3 (k02.trans k3)
end
end L2.TB
/-! a view's plan, apart, is_plan, are_apart -/
namespace L2.TB
open PySem PySem.Spec PyProof.Rows LamX MK
abbrev NV4 : List Str := ["self", "known", "asked", "thing"]
theorem scVIsPlan : FnScope NV4 NV4 (defScope sVIsPlan) := ⟨rfl, rfl, rfl, by decide +kernel, rfl, by decide +kernel, by decide +kernel⟩
theorem scVAreAp : FnScope NV4 NV4 (defScope sVAreAp) := ⟨rfl, rfl, rfl, by decide +kernel, rfl, by decide +kernel, by decide +kernel⟩
def spIp (w : World) (K : PySem.W.Frag) (RF : Hp → Addr → Fd → Prop) : Sp := fun vs H Q _ => ∃ (a b : Addr) (D : Fd) (known : List Str) (x : Str) (v : V) (o : Option (List En × List (Bool × Bool))), vs = [.ref a, .ref b, .str x, v] ∧ AskF RF H a b D known x ∧ PlTh w K H v o ∧
  ∀ H', Same H H' → Q (.bl (decide (TellsD D known x) && planB (lotD D known x) o)) H'
def spAa (w : World) (K : PySem.W.Frag) (RF : Hp → Addr → Fd → Prop) : Sp := fun vs H Q _ => ∃ (a b : Addr) (D : Fd) (known : List Str) (x : Str) (v : V) (o : Option (Option (List Int) × Option (List Int))), vs = [.ref a, .ref b, .str x, v] ∧ AskF RF H a b D known x ∧ ApTh w K H D.nb v o ∧
  ∀ H', Same H H' → Q (.bl (apartB D.nb (D.κ known) (D.φ x) D.tbl o)) H'
theorem dec_view {D : Fd} (O : FdOk D) {ks known : List Str} {led : Str → Str} {x : Str} : decide (TellsD D (dd (known.map led)) (led x)) = decide (TellsD (viewD D ks led) known x) := by
  have z := tells_view O (ks := ks) (known := known) (led := led) (x := x)
  by_cases h : TellsD (viewD D ks led) known x
  · rw [decide_eq_true h, decide_eq_true (z.mpr h)]
  · rw [decide_eq_false h, decide_eq_false (fun y => h (z.mp y))]
theorem PlTh.ext {w : World} {K : PySem.W.Frag} {H H' : Hp} {v : V} {o : Option (List En × List (Bool × Bool))} (h : PlTh w K H v o) (s : ExtN H H') : PlTh w K H' v o := by
  have tk : ∀ a vs, H a = some (.tup vs) → H' a = some (.tup vs) := fun _ _ e => s _ _ e (fun _ z => by cases z)
  cases h with
  | odd ty k => exact .odd (ty_ext ty s) k
  | dict o m p sh => exact .dict (s _ _ o (fun _ z => by unfold DE DX at z; cases z)) (m.mono tk) (Paired.mapP p fun _ _ h => ⟨h.1.mono tk, h.2⟩) sh
section
variable {P : Program} {w : World} {K : PySem.W.Frag} {mg : Str → Option Value} {base : Heap} {f C CF CK CQ fM fF aF aL aO aK aA aB : Addr} {fd fdM fdF : FuncData} {RF : Hp → Addr → Fd → Prop} {kF : Nat}
theorem ok_vPlan (V : VwM P w K mg base C CK CQ fM aF aL aO aK aA aB) (F : Fun K "plan" "View.plan" sVPlan f fd) (RL : FRel CF RF) (cF : Cls K CF) (mF : Meth K CF "plan" fF) (bF : Binds K fdF ["self", "known", "asked"] []) (GF : FnOk P w K mg base (L2.CX P w) kF fF fdF ["self", "known", "asked"] (spPl w RF)) (h5 : 5 ≤ kF) :
    FnOk P w K mg base (L2.CX P w) (kF + 1) f fd ["self", "known", "asked"] (spPl w (RV C RF)) := by
  obtain ⟨fdB, FB⟩ := V.Ck.CB
  have GB := ok_ckBD V.Ck V.EK V.EQ FB
  have bB := FB.binds (ps := ["names", "known", "asked"]) fun _ _ _ _ _ _ us hl => match us, hl with | [_, _, _], _ => rfl
  obtain ⟨fdM, FM⟩ := V.FM
  have GM := ok_meant (P := P) (w := w) (mg := mg) (base := base) FM V.T V.nL
  have bM := FM.binds (ps := ["self", "known"]) fun _ _ _ _ _ _ us hl => match us, hl with | [_, _], _ => rfl
  refine F.okX scVPlan (fun vs H Q E h => by obtain ⟨a, b, D, known, x, e, _⟩ := h; rw [e]; rfl) fun cdv A outer s H vs Q E hr hsp => ?_
  obtain ⟨a, b, D, known, x, rfl, ask, hq1, hq2⟩ := hsp
  have hu := hu_of hr
  refine ⟨_, pss_cons (ps_expr (pe_callS GB (hr.mono (by omega)) rfl V.Ck.gCB FB.kp bB (fun σ => passAt (takes_of rfl rfl rfl rfl) σ) (pa_cons (pe_fld (pv 0) rfl) (pa_cons (pv 1) (pa_cons (pv 2) pa_nil)))))
    (pss_one (ps_ret (pe_meth (pe_fld (pv 0) rfl) cF mF GF hr bF .nil (passes (takes_of rfl rfl rfl rfl)) (pa_cons (pe_meth (pv 0) V.T.cl V.mM GM (hr.mono (by omega)) bM .nil pass0 (pa_cons (pv 1) pa_nil)) (pa_cons (pe_dget hu (pe_fld (pv 0) rfl) (pv 2) (fun _ _ => rfl)) pa_nil))))), ?_⟩
  obtain ⟨dx, fa, da, D0, ks, led, rfl, ha, hd, r0, knd, kne, kok, li, ksh⟩ := id ask.r
  have ksub : ∀ y ∈ known, y ∈ ks := ask.sub
  have klen := nodup_sub ask.nd ksub
  refine ⟨_, rfl, _, _, _, _, _, rfl, ha, V.T.cl, V.T.nN, rfl, _, rfl, _, rfl, da, ks, .ref b, .str x, none, rfl, ⟨led, hd, knd⟩, bad_none ask.k ksub ask.nd (by omega), .inr ⟨rfl, .inl ⟨x, rfl, ask.xin, fun H1 k1 => ?_⟩⟩⟩
  have r1 := RL.same r0 k1
  obtain ⟨dx0, fs0, hf0, no0⟩ := RL.ins r1
  refine ⟨_, rfl, _, _, _, _, _, rfl, k1 _ _ ha, V.T.cl, V.T.nF, rfl, fa, dx0, fs0, rfl, hf0, no0 _ (by simp [mths]), ?_⟩
  refine ⟨_, rfl, a, dx, _, rfl, k1 _ _ ha, rfl, _, rfl, a, b, dx, fa, da, ks, known, led, rfl, k1 _ _ ha, k1 _ _ hd, knd, k1 _ _ ask.k, ksub, by omega, fun H2 q nq oq k2 => ?_⟩
  have k02 := k1.trans k2
  have dg : DGet H2 da (kV (Sum.inr x)) (valV (vN ks led) (Sum.inr x)) := DGet.k (k := Sum.inr x) (k02 _ _ hd)
  unfold vN at dg
  rw [dkv_val knd ask.xin] at dg
  refine ⟨_, rfl, _, _, _, _, _, rfl, k02 _ _ ha, V.T.cl, V.T.nN, rfl, _, rfl, da, _, rfl, dg, ?_⟩
  refine ⟨fa, q, D0, dd (known.map led), led x, rfl, ask_in RL (H := H) (RL.same r0 k02) oq ksub li ask.xin, fun tl H3 d es nd3 LA k3 => ?_, fun nt H3 k3 => ?_⟩
  · exact hq1 ((tells_view (RL.ok r0)).mp tl) H3 d es (k02.free nd3) LA (k02.trans k3)
  · exact hq2 (fun z => nt ((tells_view (RL.ok r0)).mpr z)) H3 (k02.trans k3)
theorem ok_vApart (V : VwM P w K mg base C CK CQ fM aF aL aO aK aA aB) (F : Fun K "apart" "View.apart" sVApart f fd) (RL : FRel CF RF) (cF : Cls K CF) (mF : Meth K CF "apart" fF) (bF : Binds K fdF ["self", "known", "asked"] []) (GF : FnOk P w K mg base (L2.CX P w) kF fF fdF ["self", "known", "asked"] (spAp RF)) (h5 : 5 ≤ kF) :
    FnOk P w K mg base (L2.CX P w) (kF + 1) f fd ["self", "known", "asked"] (spAp (RV C RF)) := by
  obtain ⟨fdB, FB⟩ := V.Ck.CB
  have GB := ok_ckBD V.Ck V.EK V.EQ FB
  have bB := FB.binds (ps := ["names", "known", "asked"]) fun _ _ _ _ _ _ us hl => match us, hl with | [_, _, _], _ => rfl
  obtain ⟨fdM, FM⟩ := V.FM
  have GM := ok_meant (P := P) (w := w) (mg := mg) (base := base) FM V.T V.nL
  have bM := FM.binds (ps := ["self", "known"]) fun _ _ _ _ _ _ us hl => match us, hl with | [_, _], _ => rfl
  refine F.okX scVApart (fun vs H Q E h => by obtain ⟨a, b, D, known, x, e, _⟩ := h; rw [e]; rfl) fun cdv A outer s H vs Q E hr hsp => ?_
  obtain ⟨a, b, D, known, x, rfl, ask, hq1, hq2⟩ := hsp
  have hu := hu_of hr
  refine ⟨_, pss_cons (ps_expr (pe_callS GB (hr.mono (by omega)) rfl V.Ck.gCB FB.kp bB (fun σ => passAt (takes_of rfl rfl rfl rfl) σ) (pa_cons (pe_fld (pv 0) rfl) (pa_cons (pv 1) (pa_cons (pv 2) pa_nil)))))
    (pss_one (ps_ret (pe_meth (pe_fld (pv 0) rfl) cF mF GF hr bF .nil (passes (takes_of rfl rfl rfl rfl)) (pa_cons (pe_meth (pv 0) V.T.cl V.mM GM (hr.mono (by omega)) bM .nil pass0 (pa_cons (pv 1) pa_nil)) (pa_cons (pe_dget hu (pe_fld (pv 0) rfl) (pv 2) (fun _ _ => rfl)) pa_nil))))), ?_⟩
  obtain ⟨dx, fa, da, D0, ks, led, rfl, ha, hd, r0, knd, kne, kok, li, ksh⟩ := id ask.r
  have ksub : ∀ y ∈ known, y ∈ ks := ask.sub
  have klen := nodup_sub ask.nd ksub
  refine ⟨_, rfl, _, _, _, _, _, rfl, ha, V.T.cl, V.T.nN, rfl, _, rfl, _, rfl, da, ks, .ref b, .str x, none, rfl, ⟨led, hd, knd⟩, bad_none ask.k ksub ask.nd (by omega), .inr ⟨rfl, .inl ⟨x, rfl, ask.xin, fun H1 k1 => ?_⟩⟩⟩
  have r1 := RL.same r0 k1
  obtain ⟨dx0, fs0, hf0, no0⟩ := RL.ins r1
  refine ⟨_, rfl, _, _, _, _, _, rfl, k1 _ _ ha, V.T.cl, V.T.nF, rfl, fa, dx0, fs0, rfl, hf0, no0 _ (by simp [mths]), ?_⟩
  refine ⟨_, rfl, a, dx, _, rfl, k1 _ _ ha, rfl, _, rfl, a, b, dx, fa, da, ks, known, led, rfl, k1 _ _ ha, k1 _ _ hd, knd, k1 _ _ ask.k, ksub, by omega, fun H2 q nq oq k2 => ?_⟩
  have k02 := k1.trans k2
  have dg : DGet H2 da (kV (Sum.inr x)) (valV (vN ks led) (Sum.inr x)) := DGet.k (k := Sum.inr x) (k02 _ _ hd)
  unfold vN at dg
  rw [dkv_val knd ask.xin] at dg
  refine ⟨_, rfl, _, _, _, _, _, rfl, k02 _ _ ha, V.T.cl, V.T.nN, rfl, _, rfl, da, _, rfl, dg, ?_⟩
  refine ⟨fa, q, D0, dd (known.map led), led x, rfl, ask_in RL (H := H) (RL.same r0 k02) oq ksub li ask.xin, fun tl H3 k3 => ?_, fun nt H3 t p' q' u v nt3 PA k3 => ?_⟩
  · exact hq1 ((tells_view (RL.ok r0)).mp tl) H3 (k02.trans k3)
  · exact hq2 (fun z => nt ((tells_view (RL.ok r0)).mpr z)) H3 t p' q' u v (k02.free nt3) PA (k02.trans k3)
theorem ok_vIsPlan (V : VwM P w K mg base C CK CQ fM aF aL aO aK aA aB) (F : Fun K "is_plan" "View.is_plan" sVIsPlan f fd) (RL : FRel CF RF) (cF : Cls K CF) (mF : Meth K CF "is_plan" fF) (bF : Binds K fdF ["self", "known", "asked", "thing"] []) (GF : FnOk P w K mg base (L2.CX P w) kF fF fdF ["self", "known", "asked", "thing"] (spIp w K RF)) (h5 : 5 ≤ kF) :
    FnOk P w K mg base (L2.CX P w) (kF + 1) f fd ["self", "known", "asked", "thing"] (spIp w K (RV C RF)) := by
  obtain ⟨fdB, FB⟩ := V.Ck.CB
  have GB := ok_ckBD V.Ck V.EK V.EQ FB
  have bB := FB.binds (ps := ["names", "known", "asked"]) fun _ _ _ _ _ _ us hl => match us, hl with | [_, _, _], _ => rfl
  obtain ⟨fdM, FM⟩ := V.FM
  have GM := ok_meant (P := P) (w := w) (mg := mg) (base := base) FM V.T V.nL
  have bM := FM.binds (ps := ["self", "known"]) fun _ _ _ _ _ _ us hl => match us, hl with | [_, _], _ => rfl
  refine F.okX scVIsPlan (fun vs H Q E h => by obtain ⟨a, b, D, known, x, v, o, e, _⟩ := h; rw [e]; rfl) fun cdv A outer s H vs Q E hr hsp => ?_
  obtain ⟨a, b, D, known, x, v, o, rfl, ask, th, hq⟩ := hsp
  have hu := hu_of hr
  refine ⟨_, pss_cons (ps_expr (pe_callS GB (hr.mono (by omega)) rfl V.Ck.gCB FB.kp bB (fun σ => passAt (takes_of rfl rfl rfl rfl) σ) (pa_cons (pe_fld (pv 0) rfl) (pa_cons (pv 1) (pa_cons (pv 2) pa_nil)))))
    (pss_one (ps_ret (pe_meth (pe_fld (pv 0) rfl) cF mF GF hr bF .nil (passes (takes_of rfl rfl rfl rfl)) (pa_cons (pe_meth (pv 0) V.T.cl V.mM GM (hr.mono (by omega)) bM .nil pass0 (pa_cons (pv 1) pa_nil)) (pa_cons (pe_dget hu (pe_fld (pv 0) rfl) (pv 2) (fun _ _ => rfl)) (pa_cons (pv 3) pa_nil)))))), ?_⟩
  obtain ⟨dx, fa, da, D0, ks, led, rfl, ha, hd, r0, knd, kne, kok, li, ksh⟩ := id ask.r
  have ksub : ∀ y ∈ known, y ∈ ks := ask.sub
  have klen := nodup_sub ask.nd ksub
  refine ⟨_, rfl, _, _, _, _, _, rfl, ha, V.T.cl, V.T.nN, rfl, _, rfl, _, rfl, da, ks, .ref b, .str x, none, rfl, ⟨led, hd, knd⟩, bad_none ask.k ksub ask.nd (by omega), .inr ⟨rfl, .inl ⟨x, rfl, ask.xin, fun H1 k1 => ?_⟩⟩⟩
  have r1 := RL.same r0 k1
  obtain ⟨dx0, fs0, hf0, no0⟩ := RL.ins r1
  refine ⟨_, rfl, _, _, _, _, _, rfl, k1 _ _ ha, V.T.cl, V.T.nF, rfl, fa, dx0, fs0, rfl, hf0, no0 _ (by simp [mths]), ?_⟩
  refine ⟨_, rfl, a, dx, _, rfl, k1 _ _ ha, rfl, _, rfl, a, b, dx, fa, da, ks, known, led, rfl, k1 _ _ ha, k1 _ _ hd, knd, k1 _ _ ask.k, ksub, by omega, fun H2 q nq oq k2 => ?_⟩
  have k02 := k1.trans k2
  have dg : DGet H2 da (kV (Sum.inr x)) (valV (vN ks led) (Sum.inr x)) := DGet.k (k := Sum.inr x) (k02 _ _ hd)
  unfold vN at dg
  rw [dkv_val knd ask.xin] at dg
  refine ⟨_, rfl, _, _, _, _, _, rfl, k02 _ _ ha, V.T.cl, V.T.nN, rfl, _, rfl, da, _, rfl, dg, _, rfl, ?_⟩
  refine ⟨fa, q, D0, dd (known.map led), led x, v, o, rfl, ask_in RL (H := H) (RL.same r0 k02) oq ksub li ask.xin, th.ext (ExtN.of k02), fun H3 k3 => ?_⟩
  rw [dec_view (RL.ok r0) (ks := ks)]
  exact hq H3 (k02.trans k3)
theorem ok_vAreAp (V : VwM P w K mg base C CK CQ fM aF aL aO aK aA aB) (F : Fun K "are_apart" "View.are_apart" sVAreAp f fd) (RL : FRel CF RF) (cF : Cls K CF) (mF : Meth K CF "are_apart" fF) (bF : Binds K fdF ["self", "known", "asked", "thing"] []) (GF : FnOk P w K mg base (L2.CX P w) kF fF fdF ["self", "known", "asked", "thing"] (spAa w K RF)) (h5 : 5 ≤ kF) :
    FnOk P w K mg base (L2.CX P w) (kF + 1) f fd ["self", "known", "asked", "thing"] (spAa w K (RV C RF)) := by
  obtain ⟨fdB, FB⟩ := V.Ck.CB
  have GB := ok_ckBD V.Ck V.EK V.EQ FB
  have bB := FB.binds (ps := ["names", "known", "asked"]) fun _ _ _ _ _ _ us hl => match us, hl with | [_, _, _], _ => rfl
  obtain ⟨fdM, FM⟩ := V.FM
  have GM := ok_meant (P := P) (w := w) (mg := mg) (base := base) FM V.T V.nL
  have bM := FM.binds (ps := ["self", "known"]) fun _ _ _ _ _ _ us hl => match us, hl with | [_, _], _ => rfl
  refine F.okX scVAreAp (fun vs H Q E h => by obtain ⟨a, b, D, known, x, v, o, e, _⟩ := h; rw [e]; rfl) fun cdv A outer s H vs Q E hr hsp => ?_
  obtain ⟨a, b, D, known, x, v, o, rfl, ask, th, hq⟩ := hsp
  have hu := hu_of hr
  refine ⟨_, pss_cons (ps_expr (pe_callS GB (hr.mono (by omega)) rfl V.Ck.gCB FB.kp bB (fun σ => passAt (takes_of rfl rfl rfl rfl) σ) (pa_cons (pe_fld (pv 0) rfl) (pa_cons (pv 1) (pa_cons (pv 2) pa_nil)))))
    (pss_one (ps_ret (pe_meth (pe_fld (pv 0) rfl) cF mF GF hr bF .nil (passes (takes_of rfl rfl rfl rfl)) (pa_cons (pe_meth (pv 0) V.T.cl V.mM GM (hr.mono (by omega)) bM .nil pass0 (pa_cons (pv 1) pa_nil)) (pa_cons (pe_dget hu (pe_fld (pv 0) rfl) (pv 2) (fun _ _ => rfl)) (pa_cons (pv 3) pa_nil)))))), ?_⟩
  obtain ⟨dx, fa, da, D0, ks, led, rfl, ha, hd, r0, knd, kne, kok, li, ksh⟩ := id ask.r
  have ksub : ∀ y ∈ known, y ∈ ks := ask.sub
  have klen := nodup_sub ask.nd ksub
  refine ⟨_, rfl, _, _, _, _, _, rfl, ha, V.T.cl, V.T.nN, rfl, _, rfl, _, rfl, da, ks, .ref b, .str x, none, rfl, ⟨led, hd, knd⟩, bad_none ask.k ksub ask.nd (by omega), .inr ⟨rfl, .inl ⟨x, rfl, ask.xin, fun H1 k1 => ?_⟩⟩⟩
  have r1 := RL.same r0 k1
  obtain ⟨dx0, fs0, hf0, no0⟩ := RL.ins r1
  refine ⟨_, rfl, _, _, _, _, _, rfl, k1 _ _ ha, V.T.cl, V.T.nF, rfl, fa, dx0, fs0, rfl, hf0, no0 _ (by simp [mths]), ?_⟩
  refine ⟨_, rfl, a, dx, _, rfl, k1 _ _ ha, rfl, _, rfl, a, b, dx, fa, da, ks, known, led, rfl, k1 _ _ ha, k1 _ _ hd, knd, k1 _ _ ask.k, ksub, by omega, fun H2 q nq oq k2 => ?_⟩
  have k02 := k1.trans k2
  have dg : DGet H2 da (kV (Sum.inr x)) (valV (vN ks led) (Sum.inr x)) := DGet.k (k := Sum.inr x) (k02 _ _ hd)
  unfold vN at dg
  rw [dkv_val knd ask.xin] at dg
  refine ⟨_, rfl, _, _, _, _, _, rfl, k02 _ _ ha, V.T.cl, V.T.nN, rfl, _, rfl, da, _, rfl, dg, _, rfl, ?_⟩
  refine ⟨fa, q, D0, dd (known.map led), led x, v, o, rfl, ask_in RL (H := H) (RL.same r0 k02) oq ksub li ask.xin, th.same k02, fun H3 k3 => ?_⟩
  exact hq H3 (k02.trans k3)
end
end L2.TB
/-! errors that fly into a try whose suite raises another -/
namespace L2.TB
open PySem PySem.Spec PyProof.Rows LamX MK
/-- what flies has no context: so it flies -/
theorem cxN {P : Program} {w : World} {outer : List Env} {H : Hp} {s s' : Shared} {E : XK} {u : Value} (h : L2N.CX P w outer H s E u s') : L2.CX P w outer H s E u s' := by
  obtain ⟨a, B, H', cls, d, e, fl, r⟩ := h
  exact ⟨a, B, H', cls, d, e, L2H.flyingZ_imp (fun o z => z.zc) fl, r⟩
theorem fn_N2X {P : Program} {w : World} {K : PySem.W.Frag} {mg : Str → Option Value} {base : Heap} {k : Nat} {f : Addr} {fd : FuncData} {ps : List Str} {sp : Sp} (G : FnOk P w K mg base (L2N.CX P w) k f fd ps sp) : FnOk P w K mg base (L2.CX P w) k f fd ps sp :=
  ⟨G.len, fun A outer s H args us vs Q E hr he hb hv hs => codeAny_mono (G.run A outer s H args us vs Q E hr he hb hv hs) fun q s' h => by
    cases q with
    | error e => exact cxN h
    | ok fl => cases fl <;> exact h⟩
theorem passN {X : Cx} {E : XK} (tk : L2N.Takes X fun cls d _ H => E cls d H) : Passes (L2N.CX X.prog X.w) X E := fun pins σ H s e s' I c => L2N.passAt tk σ pins H s e s' I c
section
variable {P : Program} {w : World} {K : PySem.W.Frag} {mg : Str → Option Value} {base : Heap}
theorem okN {x qual : Str} {st : Stmt} {f : Addr} {fd : FuncData} {N ps : List Str} {k : Nat} {sp : Sp} (F : Fun K x qual st f fd) (S : FnScope N ps (defScope st)) (len : ∀ vs H Q E, sp vs H Q E → vs.length = ps.length)
    (hbody : ∀ (cdv : Value) (A : Around) (outer : List Env) (s : Shared) (H : Hp) (vs : List V) (Q : VK) (E : XK), Room k (A.deeper (envOfC qual (defScope st) s.heap.objs.size f cdv)) → sp vs H Q E →
      ∃ t, PSs (cxOf (L2N.CX P w) P w K mg base N qual (defScope st) f cdv A outer s H E) (defBody st) t ∧ t { nx := fun _ H' => Q .non H', rt := Q } (L2.start N vs) H) : FnOk P w K mg base (L2N.CX P w) (k + 1) f fd ps sp := by
  obtain ⟨oc, od, kV, doc, pm, an, cdv, ct, osl, rfl, lk, hcd⟩ := F.ex
  exact fn_of lk hcd S len fun A outer s H vs Q E hr hsp => hbody cdv A outer s H vs Q E hr hsp
end
section
variable {X : Cx}
/-- x(e), to be raised where nothing is handled: its context is None -/
theorem pmkN {CX : CXT} {x : Str} {C fI : Addr} {k : Nat} {fd : FuncData} {ps : List Str} {sp : Sp} {e : Expr} {es : List Expr} {ta : TA} {p pos : Pos} (T : OexC X.K C) (iC : PySem.W.findIn X.K (.ref C) "__init__" = some (some (.ref fI))) (tI : PySem.W.typeIn X.K (.ref fI) = some (.type "function"))
    (G : FnOk X.prog X.w X.K X.mg X.base CX k fI fd ps sp) (room : Room (k + 1) X.A) (bI : Binds X.K fd ps []) (px : Passes CX X (fun _ _ _ => False)) (gl : Gl X x) (gm : X.mg x = some (.ref C)) (pa : PA X (e :: es) ta)
    (dbg : (x == ("__debug__" : Str)) = false := by decide) (st : starEach (e :: es) X.env = (false, eval e X.env) :: starEach es X.env := by rfl) (pl : (backTo pos (starEach es X.env)).any (·.1) = false := by rfl) :
    L2N.PMk X (.Call (.Name x p) (e :: es) [] pos) (tMkO C sp [] ta) := by
  intro pins s σ H Q I asked
  obtain ⟨z0, z1, z2, z3, bm, z4, z5, z6, z7, z8, z9, y0, y1, y2, y3, hC, hbm⟩ := T.cls
  refine wpAny_Call_Name_kw (ld_glob I gl gm ?_ dbg)
  refine PySem.W.callWith_K (h₀ := X.base) I.ok.mod.kin T.kC (thn (pa.run pos pins s σ H _ I asked) fun us s1 ⟨vs, H1, I1, r1, few, q1⟩ => ⟨I1.kIn, ?_⟩) st pl
  change wpAny _ _ (call (Value.ref C) us) _ _ _
  obtain ⟨hp, gs, dr, tk, os⟩ := s1
  have grow : hp.objs.size ≤ hp.objs.size + 1 := Nat.le_succ _
  have free : H1 (hp.objs.size + 1) = none := I1.hok.fresh grow
  have told := q1 (hp.objs.size + 1) free
  rw [List.append_nil] at told
  have olds : ∀ b o, hp.get? b = some o → ((hp.push (PySem.W.kdv_tup us)).push (PySem.HandSPX.excO C hp.objs.size)).get? b = some o := fun b o z => Heap.get?_push_of_some _ (Heap.get?_push_of_some _ z)
  have new : ((hp.push (PySem.W.kdv_tup us)).push (PySem.HandSPX.excO C hp.objs.size)).get? (hp.objs.size + 1) = some (PySem.HandSPX.excO C hp.objs.size) := by heap_get
  have I2 : Inv X pins σ (upd H1 (hp.objs.size + 1) (exo (hp.objs.size + 1) C none)) ⟨(hp.push (PySem.W.kdv_tup us)).push (PySem.HandSPX.excO C hp.objs.size), gs, dr, tk, os⟩ :=
    I1.laid (t' := tk) (a := hp.objs.size + 1) (o := exo (hp.objs.size + 1) C none) (h' := (hp.push (PySem.W.kdv_tup us)).push (PySem.HandSPX.excO C hp.objs.size)) olds grow (exo_ok new)
  have both : Vals (V.ref (hp.objs.size + 1) :: vs) (Value.ref (hp.objs.size + 1) :: us) := .cons rfl r1
  have many : (Value.ref (hp.objs.size + 1) :: us ++ []).length = ps.length := by
    have z := both.length
    rw [G.len _ _ _ _ told] at z
    rw [List.append_nil]
    exact z.symm
  have line : us.length ≤ sizeLine := by
    rw [sizeLine_eq, ← Paired.length r1]
    omega
  have bound := bI _ (Value.ref (hp.objs.size + 1) :: us) I2.kIn many
  rw [List.append_nil] at bound
  refine wpAny_call (PySem.HandSPX.call_own F.excBase_ValueError (fun Y => PySem.HandSPX.refsVE_contains Y bm hbm) (I1.kIn _ _ hC) (PySem.W.looks_findIn I1.kIn iC) (fun self => PySem.W.bind_fn I1.kIn self tI) line
    (codeAny_mono (G.run _ X.stack _ _ ⟨Value.ref (hp.objs.size + 1) :: us, []⟩ (Value.ref (hp.objs.size + 1) :: us) _ _ (fun _ _ _ => False) (room.make C us []) (I2.env0.make C us []) bound both told) fun r s' out => ?_))
  cases r with
  | error er => exact px pins σ _ _ er s' I2 out
  | ok fl =>
    cases fl with
    | ret u =>
      obtain ⟨v, H2, os2, bare2, un2, hok2, rv, ev, d, fs, ea, ed, hd1, q2⟩ := out
      subst ev
      obtain ⟨hh, gg, ds, ts, ob⟩ := s'
      obtain ⟨t0, G0, J, kG, ge, hoe, na⟩ := mk_end0 (d2 := ds) (t2 := ts) I1 grow olds un2 hok2 os2 bare2 ea ed hd1
      exact ⟨rv, hp.objs.size + 1, _, _, ⟨G0, gg, ds, ts, ob⟩, _, .ref C, some d, rfl, J, kG, ge, hoe, ⟨rfl, rfl, fun vs hv => by cases hv; rfl⟩, rfl, rfl, na, rfl, bare2, raises_own T.exC T.tyC, q2⟩
    | next => exact out.elim
    | brk => exact out.elim
    | cont => exact out.elim
end
section
variable {P : Program} {w : World} {K : PySem.W.Frag} {mg : Str → Option Value} {base : Heap} {f : Addr} {fd : FuncData}
/-- its __init__, while an error is handled -/
theorem ok_errInitH {q y fld : Str} {st : Stmt} {p0 p1 p2 p3 : Pos} (F : Fun K "__init__" q st f fd) (S : FnScope ["self", y] ["self", y] (defScope st)) (hb : defBody st = [.Assign [.Attribute (.Name "self" p0) fld p1] (.Name y p2) p3])
    (hv0 : Vis (defScope st) "self") (hv1 : Vis (defScope st) y) (hdy : (y == ("__debug__" : Str)) = false) (hcy : (y == ("__classdict__" : Str)) = false) : L2H.FnH P w K mg base CX0 1 f fd ["self", y] (spErr K fld) := by
  obtain ⟨oc, od, kV, doc, pm, an, cdv, ct, osl, rfl, lk, hcd⟩ := F.ex
  refine L2H.fn_ofH lk hcd S (fun vs H Q E h => by obtain ⟨a, C, v, e, _⟩ := h; rw [e]; rfl) fun A outer s H vs Q E p hot hr hsp => ?_
  obtain ⟨a, C, v, rfl, T, no, ha, hq⟩ := hsp
  rw [hb]
  refine ⟨_, pss_one (ps_ost (pe_var (i := 0) rfl hv0 (by decide) (by decide)) (pe_var (i := 1) rfl hv1 hdy hcy) rfl), ?_⟩
  exact ⟨_, rfl, _, rfl, a, C, rfl, T, no, .inl ⟨ha, hq⟩⟩
end
structure ErrH (P : Program) (w : World) (K : PySem.W.Frag) (mg : Str → Option Value) (base : Heap) (x : Str) (C : Addr) (fld : Str) : Prop where
  g : mg x = some (.ref C)
  ex : ∃ (fI : Addr) (fd : FuncData) (y : Str), ErrC K C fI fld ∧ L2H.FnH P w K mg base CX0 1 fI fd ["self", y] (spErr K fld) ∧ Binds K fd ["self", y] []
/-- raise x(e) from None, in a suite -/
theorem ps_raiseF {X : Cx} {W : WX} {x fld : Str} {C : Addr} {e : Expr} {te : TE} {j : Nat} {p pos cpos pos2 : Pos} (hot : L2H.HotC X) (tk : L2.Takes X W) (E : ErrH X.prog X.w X.K X.mg X.base x C fld) (hr : L2H.RoomH 2 X.A) (hg : Gl X x) (he : PE X e te)
    (hdb : (x == ("__debug__" : Str)) = false := by decide) (hs : starEach [e] X.env = (false, eval e X.env) :: starEach [] X.env := by rfl) : PS X (.Raise (some (.Call (.Name x p) [e] [] pos)) (some (.Constant .none j cpos)) pos2) (tRaise X.K C fld te W) := by
  obtain ⟨fI, fd, y, EC, G, b⟩ := E.ex
  exact L2H.ps_raiseHN hot tk (L2H.pmk5_oexH EC.o EC.ini EC.fn G hr hot b pass0 hg E.g (pa_cons he pa_nil (hs := hs)) hdb hs rfl)
theorem ps_raiseN {X : Cx} {W : WX} {x fld : Str} {C : Addr} {e : Expr} {te : TE} {p pos pos2 : Pos} (hc : X.calm = true) (tk : L2N.Takes X W) (E : ErrF X.prog X.w X.K X.mg X.base x C fld) (hr : Room 2 X.A) (hg : Gl X x) (he : PE X e te)
    (hdb : (x == ("__debug__" : Str)) = false := by decide) (hs : starEach [e] X.env = (false, eval e X.env) :: starEach [] X.env := by rfl) : PS X (.Raise (some (.Call (.Name x p) [e] [] pos)) none pos2) (tRaise X.K C fld te W) := by
  obtain ⟨fI, fd, y, EC, G, b⟩ := E.ex
  exact L2N.ps_raise hc tk (pmkN EC.o EC.ini EC.fn G hr b pass0 hg E.g (pa_cons he pa_nil (hs := hs)) hdb hs rfl)
end L2.TB
/-! check_lacking, alike, the table's found with a plain dict of answers -/
namespace L2.TB
open PySem PySem.Spec PyProof.Rows LamX MK
def lackB (known : List Str) : Option (List (Key × V)) → Bool
  | none => true
  | some kvs => !known.all fun x => (valV kvs (Sum.inr x)).isSome
theorem lackB_some (known : List Str) (kvs : List (Key × V)) : lackB known (some kvs) = !known.all fun x => (valV kvs (Sum.inr x)).isSome := rfl
def spLackR (K : PySem.W.Frag) (CA : Addr) : Sp := fun vs H Q E => ∃ (b : Addr) (known : List Str) (v : V) (o : Option (List (Key × V))), vs = [.ref b, v] ∧ SqA K H b (known.map V.str) ∧ known.length < 1000 ∧ RowTh K H v o ∧ (lackB known o = true → Flies CA "thing" v H E) ∧ (lackB known o = false → ∀ H', Same H H' → Q .non H')
def spFoundK (w : World) (K : PySem.W.Frag) (C CA : Addr) : Sp := fun vs H Q E => ∃ (a b d g : Addr) (ns known : List Str) (x : Str) (tbl : List (List Int)) (es : List En) (kvs : List (Key × V)) (h : Str → Int), vs = [.ref a, .ref b, .str x, .ref d, .ref g] ∧ Asked K H C a b ns known tbl ∧ x ∈ ns ∧ Tells ns tbl known x ∧
  LotAt w H d es (lotOf ns known x tbl) ∧ H g = some (.dK kvs) ∧ kvs.length < 1000 ∧ (kvs.map (·.1)).Nodup ∧ (∀ kv ∈ kvs, Atom kv.2) ∧ (∀ z, Sum.inr z ∈ kvs.map (·.1) → z.cps.toList.length < 1000) ∧ (∀ y ∈ known, valV kvs (Sum.inr y) = some (.int (h y))) ∧
  ((∃ v, valN (lotOf ns known x tbl) (keyN (known.map h)) = some v ∧ ∀ H', Same H H' → Q v H') ∨ (valN (lotOf ns known x tbl) (keyN (known.map h)) = none ∧ Flies CA "thing" (.ref g) H E))
def spAlikeI : Sp := fun vs H Q _ => ∃ i j : Int, vs = [.int i, .int j] ∧ ∀ H', Same H H' → Q (.bl (decide (i = j))) H'
abbrev NAl : List Str := ["one", "other", "a", "b"]
theorem scAlike : FnScope NAl ["one", "other"] (defScope sAlike) := ⟨rfl, rfl, rfl, by decide +kernel, rfl, by decide +kernel, by decide +kernel⟩
section
variable {P : Program} {w : World} {K : PySem.W.Frag} {mg : Str → Option Value} {base : Heap} {f C CP CA fP fA fL : Addr} {fd fdP fdA fdL : FuncData}
theorem ok_lackR (F : Fun K "check_lacking" "check_lacking" sCkLack f fd) (EA : ErrF P w K mg base "BadAnswers" CA "thing") (nI : mg "isinstance" = none) (nD : mg "dict" = none) (nA : mg "all" = none) : FnOk P w K mg base (L2.CX P w) 3 f fd ["known", "answers"] (spLackR K CA) := by
  refine F.okX scLack (fun vs H Q E h => by obtain ⟨b, known, v, o, e, _⟩ := h; rw [e]; rfl) fun cdv A outer s H vs Q E hr hsp => ?_
  obtain ⟨b, known, v, o, rfl, hb, sh, R, no, yes⟩ := hsp
  have nd := scLack.nd
  have hu : (A.deeper (envOfC "check_lacking" (defScope sCkLack) s.heap.objs.size f cdv)).units + 1 < cLine := by have := hr.un; omega
  refine ⟨_, pss_one (ps_if (PW.pt (pw_or (pt_not (pt_val (pe_callB (r := rIsi K) call_isi rfl nI boot_isi (pa_cons (pv 1) (pa_cons (pe_bltn (v := .ty "dict") rfl nD boot_dict' rfl) pa_nil)))))
      (pw_or1 (pt_not (pt_val (pe_callB (cr_all rfl) rfl nA boot_all' (pa_cons (pe_lc (own := [("name", 2)]) (tt := tYes) rfl nd (pi_seq (pv 0)) (blkOk_by (N := NLk) (sc := defScope sCkLack) (by decide +kernel)) (fun _ _ _ _ _ => pg_name (i := 2) nd rfl (Or.inl rfl)) (fun _ _ _ _ _ => pts_nil)
        (fun _ _ _ _ _ => pe_cmp (pc_din hu (pv 2) (pv 1)))) pa_nil))))))) (pss_one (ps_raiseE rfl (takes_of rfl rfl rfl rfl) EA hr rfl (pv 1))) pss_nil), ?_⟩
  cases R with
  | no ty nk => exact ⟨_, rfl, _, _, _, _, false, rfl, .ty _, ty, kit_ty nk, _, rfl, iteT (iteT ⟨_, rfl, (no rfl).up EA⟩)⟩
  | @dict d kvs od sk nk at_ kk =>
    refine ⟨_, rfl, _, _, _, _, true, rfl, .ty _, .base (.dK od), kit_ty (by decide +kernel), _, rfl, iteF ?_⟩
    obtain ⟨oo, ho, ko⟩ := hb.ho
    refine ⟨_, rfl, lc_seq ko ho (by rw [List.length_map]; omega) (fun _ => true) (fun v => match v with | .str x => .bl (valV kvs (Sum.inr x)).isSome | _ => .non) ?_ ?_⟩
    · rintro i v H2 Cn Nn ev s2 yes no
      rw [List.getElem?_map] at ev
      obtain ⟨x, ex, rfl⟩ := Option.map_eq_some_iff.mp ev
      refine ⟨rfl, ?_⟩
      exact ⟨_, rfl, _, rfl, d, _, rfl, DGet.k (k := Sum.inr x) (s2 _ _ od), yes rfl H2 (Same.refl _)⟩
    · intro H2 D nD oD s2
      have e : ((known.map V.str).filter fun _ => true).map (fun v => match v with | .str x => V.bl (valV kvs (Sum.inr x)).isSome | _ => V.non) = (known.map fun x => (valV kvs (Sum.inr x)).isSome).map V.bl := by
        rw [List.filter_eq_self.mpr (fun _ _ => rfl), List.map_map, List.map_map]
        rfl
      rw [e] at oD
      refine ⟨D, _, rfl, SqL.of oD, _, rfl, ?_⟩
      have e2 : ((known.map fun x => (valV kvs (Sum.inr x)).isSome).all id) = !lackB known (some kvs) := by rw [lackB_some, List.all_map, Bool.not_not]; rfl
      rw [e2]
      cases bl : lackB known (some kvs) with
      | true => exact iteT ⟨_, rfl, ((no bl).same s2).up EA⟩
      | false => exact iteF (yes bl H2 s2)
theorem ok_alikeI (F : Fun K "alike" "alike" sAlike f fd) (FL : Fun K "is_list" "is_list" sIsList fL fdL) (gL : mg "is_list" = some (.ref fL)) (nI : mg "isinstance" = none) (nB : mg "bool" = none) (nL : mg "list" = none) (nT : mg "tuple" = none) : FnOk P w K mg base CX0 2 f fd ["one", "other"] spAlikeI := by
  have GL : FnOk P w K mg base CX0 1 fL fdL ["thing"] (spIsListG K) := ok_isListG FL nI nL nT
  have bL := FL.binds (ps := ["thing"]) fun _ _ _ _ _ _ us hl => match us, hl with | [_], _ => rfl
  refine F.ok scAlike (fun vs H Q E h => by obtain ⟨i, j, e, _⟩ := h; rw [e]; rfl) fun cdv A outer s H vs Q E hr hsp => ?_
  obtain ⟨i, j, rfl, hq⟩ := hsp
  refine ⟨_, pss_cons (ps_if (pt_cmpR op_ne (pe_callB (r := rIsi K) call_isi rfl nI boot_isi (pa_cons (pv 0) (pa_cons (pe_bltn (v := .ty "bool") rfl nB boot_bool' rfl) pa_nil))) (pe_callB (r := rIsi K) call_isi rfl nI boot_isi (pa_cons (pv 1) (pa_cons (pe_bltn (v := .ty "bool") rfl nB boot_bool' rfl) pa_nil))) (nomark _)) (pss_one ps_never) pss_nil)
    (pss_cons (ps_if (PW.pt (pw_and (pt_val (pe_call GL hr rfl gL FL.kp bL .nil pass0 (pa_cons (pv 0) pa_nil))) (pw_and1 (pt_val pe_never)))) (pss_one ps_never) pss_nil)
    (pss_one (ps_ret (pe_cmpR op_eq (pv 0) (pv 1) (nomark _))))), ?_⟩
  have ns : ∀ (H : Hp) (n : Int), NoSeq K H (.int n) := fun H n => ⟨_, .base (.int n), by decide +kernel, by decide +kernel⟩
  refine ⟨_, rfl, _, _, _, _, false, rfl, .ty _, .base (.int i), kit_ty (by decide +kernel), _, rfl, _, _, _, _, false, rfl, .ty _, .base (.int j), kit_ty (by decide +kernel), ?_⟩
  refine ⟨rfl, _, rfl, ?_⟩
  have e0 : (!decide (V.bl false = V.bl false)) = false := by simp
  rw [e0]
  refine iteF ⟨_, rfl, .int i, rfl, .inr ⟨ns H i, fun H1 k1 => ⟨_, rfl, iteF (iteF ?_)⟩⟩⟩
  refine ⟨_, rfl, _, rfl, rfl, ?_⟩
  rw [dec_int2]
  exact hq H1 k1
theorem ok_foundK (F : Fun K "found" "Table.found" sFound f fd) (T : TabC K C) (FP : Fun K "is_plan" "Table.is_plan" sIsPlan fP fdP) (mP : Meth K C "is_plan" fP) (GP : FnOk P w K mg base CX0 5 fP fdP ["self", "known", "asked", "thing"] (spIsPlan w K C))
    (FL : Fun K "check_lacking" "check_lacking" sCkLack fL fdL) (gL : mg "check_lacking" = some (.ref fL)) (GL : FnOk P w K mg base (L2.CX P w) 3 fL fdL ["known", "answers"] (spLackR K CA))
    (FA : Fun K "_are_integers" "_are_integers" sAreInts fA fdA) (gA : mg "_are_integers" = some (.ref fA)) (GA : FnOk P w K mg base CX0 2 fA fdA ["thing"] spAreIntsX) (EA : ErrF P w K mg base "BadAnswers" CA "thing") (nT : mg "tuple" = none) : FnOk P w K mg base (L2N.CX P w) 6 f fd ["self", "known", "asked", "plan", "answers"] (spFoundK w K C CA) := by
  have bP := FP.binds (ps := ["self", "known", "asked", "thing"]) fun _ _ _ _ _ _ us hl => match us, hl with | [_, _, _, _], _ => rfl
  have bL := FL.binds (ps := ["known", "answers"]) fun _ _ _ _ _ _ us hl => match us, hl with | [_, _], _ => rfl
  have bA := FA.binds (ps := ["thing"]) fun _ _ _ _ _ _ us hl => match us, hl with | [_], _ => rfl
  refine okN F scFound (fun vs H Q E h => by obtain ⟨a, b, d, g, ns, known, x, tbl, es, kvs, h, e, _⟩ := h; rw [e]; rfl) fun cdv A outer s H vs Q E hr hsp => ?_
  obtain ⟨a, b, d, g, ns, known, x, tbl, es, kvs, h, rfl, ask, xin, tl, LA, og, ksh, knd, kat, kks, vv, fin⟩ := hsp
  have nd := scFound.nd
  have hu := hu_in hr
  have hu1 : (A.deeper (envOfC "Table.found" (defScope sFound) s.heap.objs.size f cdv)).units + 1 < cLine := by have := hr.un; omega
  refine ⟨_, pss_cons (ps_if (pt_not (pt_val (pe_meth (pv 0) T.cl mP GP hr bP .nil pass0 (pa_cons (pv 1) (pa_cons (pv 2) (pa_cons (pv 3) pa_nil)))))) (pss_one ps_never) pss_nil)
    (pss_cons (ps_expr (pe_call GL (hr.mono (by decide)) rfl gL FL.kp bL .nil passL (pa_cons (pv 1) (pa_cons (pv 4) pa_nil))))
    (pss_cons (ps_set (i := 5) nd rfl (Or.inl rfl) (pe_callTy (r := rTupOf K) call_tuple_of rfl nT boot_tuple' (pa_cons (pe_lc (own := [("name", 6)]) (tt := tYes) rfl nd (pi_seq (pv 1)) (blkOk_by (N := NFo) (sc := defScope sFound) (by decide +kernel)) (fun _ _ _ _ _ => pg_name (i := 6) nd rfl (Or.inl rfl)) (fun _ _ _ _ _ => pts_nil)
        (fun _ _ _ _ _ => pe_dget hu1 (pv 4) (pv 6) (fun _ _ => rfl))) pa_nil)))
    (pss_cons (ps_if (PW.pt (pw_or (pt_not (pt_val (pe_call GA (hr.mono (by decide)) rfl gA FA.kp bA .nil pass0 (pa_cons (pv 5) pa_nil)))) (pw_or1 (pt_cmp (pc_dnotinX rfl hu (pv 5) (pv 3)))))) (pss_one (ps_raiseN rfl (L2N.takes_of rfl rfl rfl rfl) EA (hr.mono (by decide)) rfl (pv 4))) pss_nil)
    (pss_one (ps_ret (pe_dgetXw rfl hu (pv 3) (pv 5) (fun _ _ => rfl))))))), ?_⟩
  obtain ⟨dx, qa, ra, ha, hqa, hra⟩ := id ask.t.ex
  have few := lot_len (ns := ns) (known := known) (x := x) tbl
  have ss2 := ask.s2
  obtain ⟨pt, pb⟩ := lot_plan (K := K) LA (lot_nd tbl) (lot_short ask.short) (by omega)
  have RT : RowTh K H (.ref g) (some kvs) := .dict og ksh knd kat kks
  have lb : lackB known (some kvs) = false := by
    rw [lackB_some]
    have z : (known.all fun x => (valV kvs (Sum.inr x)).isSome) = true := List.all_eq_true.mpr fun y hy => by rw [vv y hy]; rfl
    rw [z]; rfl
  refine ⟨_, rfl, a, dx, _, rfl, ha, rfl, _, rfl, _, rfl, _, rfl, a, b, ns, known, x, tbl, .ref d, _, rfl, ask, xin, pt, fun H1 s1 => ⟨_, rfl, ?_⟩⟩
  rw [pb, decide_eq_true tl]
  refine iteF ?_
  refine ⟨_, rfl, _, rfl, b, known, .ref g, _, rfl, ask.k.same s1, ask.short, RT.same s1, fun z => (by rw [lb] at z; cases z), fun ln H2 s2 => ?_⟩
  have s02 := s1.trans s2
  obtain ⟨oo, ho, ko⟩ := (ask.k.same s02).ho
  refine ⟨_, rfl, lc_seq ko ho (by rw [List.length_map]; have := ask.short; omega) (fun _ => true) (fun v => match v with | .str y => .int (h y) | _ => .non) ?_ ?_⟩
  · rintro i v H3 Cn Nn ev s3 yes no
    rw [List.getElem?_map] at ev
    obtain ⟨y, ey, rfl⟩ := Option.map_eq_some_iff.mp ev
    refine ⟨rfl, ?_⟩
    exact ⟨_, rfl, _, rfl, g, _, rfl, vv y (List.mem_of_getElem? ey) ▸ DGet.k (k := Sum.inr y) ((s02.trans s3) _ _ og), yes rfl H3 (Same.refl _)⟩
  · intro H3 l nl ol s3
    have ekey : ((known.map V.str).filter fun _ => true).map (fun v => match v with | .str y => V.int (h y) | _ => V.non) = (known.map h).map V.int := by
      rw [List.filter_eq_self.mpr (fun _ _ => rfl), List.map_map, List.map_map]
      rfl
    rw [ekey] at ol
    refine ⟨l, _, rfl, .inl ⟨SqL.of ol, fun t nt => ?_⟩⟩
    have st := same_new (o := .tup ((known.map h).map V.int)) nt
    have ot : upd H3 t (.tup ((known.map h).map V.int)) t = some (.tup ((known.map h).map V.int)) := upd_same
    have s04 := (s02.trans s3).trans st
    generalize upd H3 t (.tup ((known.map h).map V.int)) = H4 at ot s04
    have kl : (known.map h).length < 1000 := by rw [List.length_map]; exact ask.short
    refine ⟨_, rfl, .ref t, true, rfl, ky_ints ot kl, fun H5 s5 => ⟨_, rfl, iteF ?_⟩⟩
    have s05 := s04.trans s5
    have L5 := LA.same s05
    have mx5 := L5.e.mix (lot_nd (ns := ns) (known := known) (x := x) tbl)
    have kh5 : KeyH H5 (keyN (known.map h)) (.ref t) := keyH_ints (s5 _ _ ot)
    have vv2 := L5.e.val (keyN (known.map h))
    refine ⟨_, rfl, _, rfl, d, es, keyN (known.map h), rfl, .inl L5.o, mx5, kh5, keyN_depth _, ?_⟩
    rcases fin with ⟨v, ev, hq⟩ | ⟨ev, hf⟩
    · have vv3 := vv2.trans ev
      rw [vv3]
      refine ⟨_, rfl, iteF ?_⟩
      obtain ⟨j, e', ej, ek', ev'⟩ := valE_in vv3
      refine ⟨_, rfl, _, rfl, d, _, _, keyN (known.map h), j, e'.2, rfl, .inl L5.o, mx5, kh5, (by rw [List.getElem?_map, ej, ← ek']; rfl), (by rw [List.getElem?_map, ej]; rfl), ?_⟩
      rw [ev']
      exact hq H5 s05
    · rw [vv2.trans ev]
      exact ⟨_, rfl, iteT ⟨_, rfl, (hf.same s05).up EA⟩⟩
end
end L2.TB
/-! a view's found -/
namespace L2.TB
open PySem PySem.Spec PyProof.Rows LamX MK
section
variable {X : Cx} {CX : CXT} {k : Nat} {f C : Addr} {fd : FuncData} {ps : List Str} {sp : Sp} {E : L2.St → XK} {m : Str} {apos pos : Pos} {o e : Expr} {es : List Expr} {ta : TE} {t : TA}
def tMethE (C : Addr) (m : Str) (sp : Sp) (E : L2.St → XK) (ta : TE) (t : TA) : TE := fun σ H Q => ta σ H fun y H1 => ∃ b dy gs, y = .ref b ∧ H1 b = some (.ins C dy gs) ∧ gs.lookup m = none ∧ t σ H1 fun vs H2 => sp (y :: vs) H2 Q (E σ)
/-- a method called, what it raises wished for at the slots -/
theorem pe_methE {pl : Sem Bool} (ro : PE X o ta) (c : Cls X.K C) (mm : Meth X.K C m f) (G : FnOk X.prog X.w X.K X.mg X.base CX k f fd ps sp) (room : Room k X.A) (bb : Binds X.K fd ps []) (out : ∀ σ, PassesAt CX X σ (E σ)) (rs : PA X (e :: es) t)
    (s1 : starEach (e :: es) X.env = (false, eval e X.env) :: starEach es X.env := by rfl) (s2 : (backTo pos (starEach es X.env)).any (·.1) = false := by rfl)
    (s3 : eval (.Call (.Attribute o m apos) (e :: es) [] pos) X.env = (do
      let w ← eval o X.env
      standAt apos.atName
      let (g, one) ← holding [w] (getMethod w m pl)
      callWith pos g one (backTo pos (starEach (e :: es) X.env)) (backToKw pos (keywordEach [] X.env))) := by rfl) :
    PE X (.Call (.Attribute o m apos) (e :: es) [] pos) (tMethE C m sp E ta t) := by
  constructor
  intro pins s σ H Q I asked
  refine PySem.W.methodCall_KW (pl := pl) (thn (ro.run pins s σ H _ I asked) fun u sA ⟨y, HA, IA, ry, b, dy, gs, ey, eb, none_, q⟩ => ?_) s3
  subst ey
  obtain rfl : u = Value.ref b := ry
  refine getmeth_ok IA eb c mm none_ (PySem.W.callWith_K (first := [.ref b]) (h₀ := X.base) I.ok.mod.kin mm.kp (thn (rs.run pos pins sA σ HA _ IA q) fun us sB ⟨vs, HB, IB, rr, qq⟩ => ⟨IB.kIn, ?_⟩) s1 s2)
  exact run_fnS (us := Value.ref b :: us) (vs := V.ref b :: vs) G room bb (out σ) IB (.cons rfl rr) qq
end
end L2.TB
/-! what found does with answers; the table's, as a field -/
namespace L2.TB
open PySem PySem.Spec PyProof.Rows LamX MK
/-- a dict of answers, whole numbers at known ones -/
structure AnsK (H : Hp) (g : Addr) (kvs : List (Key × V)) (known : List Str) (h : Str → Int) : Prop where
  o : H g = some (.dK kvs)
  sh : kvs.length < 1000
  nd : (kvs.map (·.1)).Nodup
  at_ : ∀ kv ∈ kvs, Atom kv.2
  ks : ∀ z, Sum.inr z ∈ kvs.map (·.1) → z.cps.toList.length < 1000
  v : ∀ y ∈ known, valV kvs (Sum.inr y) = some (.int (h y))
theorem AnsK.same {H H' : Hp} {g : Addr} {kvs : List (Key × V)} {known : List Str} {h : Str → Int} (a : AnsK H g kvs known h) (s : Same H H') : AnsK H' g kvs known h := ⟨s _ _ a.o, a.sh, a.nd, a.at_, a.ks, a.v⟩
def spFo (w : World) (K : PySem.W.Frag) (RF : Hp → Addr → Fd → Prop) (CA : Addr) : Sp := fun vs H Q E => ∃ (a b d g : Addr) (D : Fd) (known : List Str) (x : Str) (es : List En) (kvs : List (Key × V)) (h : Str → Int), vs = [.ref a, .ref b, .str x, .ref d, .ref g] ∧ AskF RF H a b D known x ∧ TellsD D known x ∧ LotAt w H d es (lotD D known x) ∧ AnsK H g kvs known h ∧
  ((∃ u ∈ D.tbl, (∀ y ∈ known, h y = av D.nb u (D.φ y)) ∧ ∀ H', Same H H' → Q (.int (av D.nb u (D.φ x))) H') ∨ ((∃ y ∈ known, ∀ u ∈ D.tbl, h y ≠ av D.nb u (D.φ y)) ∧ Flies CA "thing" (.ref g) H E))
theorem tells_tab {ns known : List Str} {tbl : List (List Int)} {x : Str} : TellsD (tabD ns tbl) known x ↔ Tells ns tbl known x := by
  show Tells ns tbl (known.map id) (id x) ↔ _
  rw [List.map_id]; exact Iff.rfl
theorem dec_tab {ns known : List Str} {tbl : List (List Int)} {x : Str} : decide (TellsD (tabD ns tbl) known x) = decide (Tells ns tbl known x) := by
  by_cases h : Tells ns tbl known x
  · rw [decide_eq_true h, decide_eq_true (tells_tab.mpr h)]
  · rw [decide_eq_false h, decide_eq_false (fun z => h (tells_tab.mp z))]
theorem ask_tab {K : PySem.W.Frag} {C : Addr} {H : Hp} {a b : Addr} {D : Fd} {known : List Str} {x : Str} (h : AskF (RT C) H a b D known x) : ∃ ns tbl, D = tabD ns tbl ∧ Asked K H C a b ns known tbl ∧ x ∈ ns := by
  obtain ⟨ns, tbl, rfl, t, nd, ne, ok, sh, tn, ts⟩ := id h.r
  exact ⟨ns, tbl, rfl, ⟨t, .inl h.k, h.nd, h.sub, by omega, by omega, nd⟩, h.xin⟩
section
variable {P : Program} {w : World} {K : PySem.W.Frag} {mg : Str → Option Value} {base : Heap} {f C CA : Addr} {fd : FuncData} {k : Nat} {ps : List Str} {CX : CXT}
theorem tab_to (G : FnOk P w K mg base CX k f fd ps (spIsTold K C)) : FnOk P w K mg base CX k f fd ps (spTo (RT C)) := G.imp fun vs H Q E h => by
  obtain ⟨a, b, D, known, x, rfl, ask, hq⟩ := h
  obtain ⟨ns, tbl, rfl, as, xin⟩ := ask_tab (K := K) ask
  exact ⟨a, b, ns, known, x, tbl, rfl, as, xin, fun H' s => by rw [← dec_tab]; exact hq H' s⟩
theorem tab_pl (G : FnOk P w K mg base CX k f fd ps (spPlan w K C)) : FnOk P w K mg base CX k f fd ps (spPl w (RT C)) := G.imp fun vs H Q E h => by
  obtain ⟨a, b, D, known, x, rfl, ask, h1, h2⟩ := h
  obtain ⟨ns, tbl, rfl, as, xin⟩ := ask_tab (K := K) ask
  exact ⟨a, b, ns, known, x, tbl, rfl, as, xin, fun t => h1 (tells_tab.mpr t), fun t => h2 fun z => t (tells_tab.mp z)⟩
theorem tab_ap (G : FnOk P w K mg base CX k f fd ps (spApart K C)) : FnOk P w K mg base CX k f fd ps (spAp (RT C)) := G.imp fun vs H Q E h => by
  obtain ⟨a, b, D, known, x, rfl, ask, h1, h2⟩ := h
  obtain ⟨ns, tbl, rfl, as, xin⟩ := ask_tab (K := K) ask
  exact ⟨a, b, ns, known, x, tbl, rfl, as, xin, fun t => h1 (tells_tab.mpr t), fun t => h2 fun z => t (tells_tab.mp z)⟩
theorem tab_ip (G : FnOk P w K mg base CX k f fd ps (spIsPlan w K C)) : FnOk P w K mg base CX k f fd ps (spIp w K (RT C)) := G.imp fun vs H Q E h => by
  obtain ⟨a, b, D, known, x, v, o, rfl, ask, th, hq⟩ := h
  obtain ⟨ns, tbl, rfl, as, xin⟩ := ask_tab (K := K) ask
  exact ⟨a, b, ns, known, x, tbl, v, o, rfl, as, xin, th, fun H' s => by rw [← dec_tab]; exact hq H' s⟩
theorem tab_aa (G : FnOk P w K mg base CX k f fd ps (spAreAp w K C)) : FnOk P w K mg base CX k f fd ps (spAa w K (RT C)) := G.imp fun vs H Q E h => by
  obtain ⟨a, b, D, known, x, v, o, rfl, ask, th, hq⟩ := h
  obtain ⟨ns, tbl, rfl, as, xin⟩ := ask_tab (K := K) ask
  exact ⟨a, b, ns, known, x, tbl, v, o, rfl, as, xin, th, hq⟩
theorem tab_fo (G : FnOk P w K mg base CX k f fd ps (spFoundK w K C CA)) : FnOk P w K mg base CX k f fd ps (spFo w K (RT C) CA) := G.imp fun vs H Q E hh => by
  obtain ⟨a, b, d, g, D, known, x, es, kvs, h, rfl, ask, tl, LA, A, fin⟩ := hh
  obtain ⟨ns, tbl, rfl, as, xin⟩ := ask_tab (K := K) ask
  refine ⟨a, b, d, g, ns, known, x, tbl, es, kvs, h, rfl, as, xin, tells_tab.mp tl, LA, A.o, A.sh, A.nd, A.at_, A.ks, A.v, ?_⟩
  rcases fin with ⟨u, hu, e, hq⟩ | ⟨⟨y, hy, no⟩, hf⟩
  · refine .inl ⟨.int (av ns u x), ?_, hq⟩
    have e1 : known.map h = keyR ns known u := List.map_congr_left e
    rw [e1]
    exact valN_at (lot_nd tbl) (lot_has (tells_tab.mp tl) hu)
  · refine .inr ⟨?_, hf⟩
    unfold valN
    rw [List.find?_eq_none.mpr (fun p hp z => ?_)]
    · rfl
    · obtain ⟨u, hu, e1, _⟩ := lot_from tbl p hp
      have e2 : keyR ns known u = known.map h := e1.symm.trans (keyN_inj (of_decide_eq_true z))
      exact no u hu (List.map_inj_left.mp e2 y hy).symm
end
/-- the answer of the first one that is led to q -/
def firstH (known : List Str) (led : Str → Str) (h : Str → Int) (q : Str) : Int := match known.find? (fun y => decide (led y = q)) with
  | some y => h y
  | none => 0
theorem find_first {α : Type} {p : α → Bool} : ∀ {l : List α} {i : Nat} {y : α}, l[i]? = some y → p y = true → (∀ j z, j < i → l[j]? = some z → p z = false) → l.find? p = some y
  | [], _, _, e, _, _ => by cases e
  | a :: l, 0, y, e, py, _ => by
    obtain rfl := Option.some.inj e
    rw [List.find?_cons, py]
  | a :: l, i + 1, y, e, py, no => by
    rw [List.find?_cons, no 0 a (Nat.zero_lt_succ i) rfl]
    exact find_first (i := i) (by simpa using e) py fun j z lt ez => no (j + 1) z (Nat.succ_lt_succ lt) (by simpa using ez)
theorem in_take {known : List Str} {led : Str → Str} {i : Nat} {q : Str} : q ∈ ((known.map led).take i).foldl addD [] ↔ ∃ j y, j < i ∧ known[j]? = some y ∧ led y = q := by
  have e : q ∈ ((known.map led).take i).foldl addD [] ↔ q ∈ (known.map led).take i := dd_mem
  rw [e, List.mem_take_iff_getElem]
  constructor
  · rintro ⟨j, hj, ej⟩
    have hj' : j < i ∧ j < known.length := by rw [List.length_map] at hj; omega
    refine ⟨j, known[j], hj'.1, List.getElem?_eq_getElem hj'.2, ?_⟩
    rw [← ej, List.getElem_map]
  · rintro ⟨j, y, lt, ej, rfl⟩
    obtain ⟨hl, ey⟩ := List.getElem?_eq_some_iff.mp ej
    exact ⟨j, by rw [List.length_map]; omega, by rw [List.getElem_map, ey]⟩
theorem first_new {known : List Str} {led : Str → Str} {h : Str → Int} {i : Nat} {y : Str} (e : known[i]? = some y) (no : led y ∉ ((known.map led).take i).foldl addD []) : firstH known led h (led y) = h y := by
  unfold firstH
  rw [find_first e (decide_eq_true rfl) fun j z lt ez => decide_eq_false fun q => no (in_take.mpr ⟨j, z, lt, ez, q⟩)]
end L2.TB
/-! a view's found, of answers as they are and such as no row has -/
namespace L2.TB
open PySem PySem.Spec PyProof.Rows LamX MK
abbrev NVf : List Str := ["self", "known", "asked", "plan", "answers", "meant", "name", "question"]
theorem scVFound : FnScope NVf ["self", "known", "asked", "plan", "answers"] (defScope sVFound) := ⟨rfl, rfl, rfl, by decide +kernel, rfl, by decide +kernel, by decide +kernel⟩
theorem Flies.upH {P : Program} {w : World} {K : PySem.W.Frag} {mg : Str → Option Value} {base : Heap} {x fld : Str} {C : Addr} {v : V} {H1 : Hp} {Q : XK} (E : ErrH P w K mg base x C fld) (h : Flies C fld v H1 Q) :
    [v].length ≤ 1000 ∧ ∀ a, H1 a = none → spErr K fld (.ref a :: ([v] ++ [])) (upd H1 a (exo a C none))
      (fun v H2 => v = .non ∧ ∃ (d : Addr) (fs : List (Str × V)), H2 a = some (exo a C (some d)) ∧ H2 d = some (exd d fs) ∧ H1 d = none ∧ Q (.ref C) (some d) (upd (del H2 a) d (.xd fs))) (fun _ _ _ => False) := by
  obtain ⟨fI, fd, y, EC, _⟩ := E.ex
  exact Flies.mk EC h
/-- answers that some row has -/
def spFoA (w : World) (K : PySem.W.Frag) (RF : Hp → Addr → Fd → Prop) : Sp := fun vs H Q _ => ∃ (a b d g : Addr) (D : Fd) (known : List Str) (x : Str) (es : List En) (kvs : List (Key × V)) (h : Str → Int), vs = [.ref a, .ref b, .str x, .ref d, .ref g] ∧ AskF RF H a b D known x ∧ TellsD D known x ∧ LotAt w H d es (lotD D known x) ∧ AnsK H g kvs known h ∧
  (∃ u ∈ D.tbl, (∀ y ∈ known, h y = av D.nb u (D.φ y)) ∧ ∀ H', Same H H' → Q (.int (av D.nb u (D.φ x))) H')
section
variable {P : Program} {w : World} {K : PySem.W.Frag} {mg : Str → Option Value} {base : Heap} {f C CF CK CQ CA fM fF fP fL fA aF aL aO aK aA aB : Addr} {fd fdM fdF fdP fdL fdA : FuncData} {RF : Hp → Addr → Fd → Prop} {k kF kP : Nat}
/-- two names for one question, with unlike answers: no row has them -/
theorem first_bad_two {D0 : Fd} {known : List Str} {led : Str → Str} {h : Str → Int} {u : List Int} {y : Str} (hy : y ∈ known) (e : ∀ z ∈ known, h z = av D0.nb u (D0.φ (led z))) : firstH known led h (led y) = h y := by
  unfold firstH
  cases q : known.find? (fun z => decide (led z = led y)) with
  | none =>
    have z := List.find?_eq_none.mp q y hy
    exact absurd (decide_eq_true rfl) z
  | some z =>
    have ez : led z = led y := of_decide_eq_true (List.find?_some (p := fun z => decide (led z = led y)) q)
    show h z = h y
    rw [e z (List.mem_of_find?_eq_some q), e y hy, ez]
theorem ok_vFound (VM : VwM P w K mg base C CK CQ fM aF aL aO aK aA aB) (F : Fun K "found" "View.found" sVFound f fd) (RL : FRel CF RF) (cF : Cls K CF) (mF : Meth K CF "found" fF) (bF : Binds K fdF ["self", "known", "asked", "plan", "answers"] []) (GF : FnOk P w K mg base (L2N.CX P w) kF fF fdF ["self", "known", "asked", "plan", "answers"] (spFo w K RF CA)) (hkF : kF ≤ k)
    (mP : Meth K C "is_plan" fP) (bP : Binds K fdP ["self", "known", "asked", "thing"] []) (GP : FnOk P w K mg base (L2.CX P w) kP fP fdP ["self", "known", "asked", "thing"] (spIp w K (RV C RF))) (hkP : kP ≤ k) (h5 : 5 ≤ k)
    (FK : Fun K "check_lacking" "check_lacking" sCkLack fL fdL) (gK : mg "check_lacking" = some (.ref fL)) (GK : FnOk P w K mg base (L2.CX P w) 3 fL fdL ["known", "answers"] (spLackR K CA))
    (FA : Fun K "alike" "alike" sAlike fA fdA) (gA : mg "alike" = some (.ref fA)) (GA : FnOk P w K mg base CX0 2 fA fdA ["one", "other"] spAlikeI) (EA : ErrF P w K mg base "BadAnswers" CA "thing") (EH : ErrH P w K mg base "BadAnswers" CA "thing") (xm : PySem.W.exmOne K (.ref CA) (.ref CA) = some true) :
    FnOk P w K mg base (L2.CX P w) (k + 1) f fd ["self", "known", "asked", "plan", "answers"] (spFo w K (RV C RF) CA) := by
  have bK := FK.binds (ps := ["known", "answers"]) fun _ _ _ _ _ _ us hl => match us, hl with | [_, _], _ => rfl
  have bA := FA.binds (ps := ["one", "other"]) fun _ _ _ _ _ _ us hl => match us, hl with | [_, _], _ => rfl
  refine F.okX scVFound (fun vs H Q E h => by obtain ⟨a, b, d, g, D, known, x, es, kvs, h, e, _⟩ := h; rw [e]; rfl) fun cdv A outer s H vs Q E hr hsp => ?_
  obtain ⟨a, b, d, g, D, known, x, es, kvs, h, rfl, ask, tl, LA, AK, fin⟩ := hsp
  have nd := scVFound.nd
  have hu : (A.deeper (envOfC "View.found" (defScope sVFound) s.heap.objs.size f cdv)).units + 1 < cLine := by have := hr.un; omega
  refine ⟨_, pss_cons (ps_if (pt_not (pt_val (pe_meth (pv 0) VM.T.cl mP GP (hr.mono hkP) bP .nil (passes (takes_of rfl rfl rfl rfl)) (pa_cons (pv 1) (pa_cons (pv 2) (pa_cons (pv 3) pa_nil)))))) (pss_one ps_never) pss_nil)
    (pss_cons (ps_expr (pe_call GK (hr.mono (by omega)) rfl gK FK.kp bK .nil passL (pa_cons (pv 1) (pa_cons (pv 4) pa_nil))))
    (pss_cons (ps_set (i := 5) nd rfl (Or.inl rfl) pe_dnewK)
    (pss_cons (ps_for (passes_of rfl) rfl (pi_list (pv 1)) (pg_name (i := 6) nd rfl (Or.inl rfl))
      (pss_cons (ps_set (i := 7) nd rfl (Or.inl rfl) (pe_dget hu (pe_fld (pv 0) rfl) (pv 6) (fun _ _ => rfl)))
      (pss_cons (ps_if (PW.pt (pw_and (pt_cmp (pc_din hu (pv 7) (pv 5))) (pw_and1 (pt_not (pt_val (pe_call GA (hr.mono (by omega)) rfl gA FA.kp bA .nil pass0 (pa_cons (pe_dget hu (pv 5) (pv 7) (fun _ _ => rfl)) (pa_cons (pe_dget hu (pv 4) (pv 6) (fun _ _ => rfl)) pa_nil)))))))) (pss_one (ps_raiseE rfl (takes_of rfl rfl rfl rfl) EA (hr.mono (by omega)) rfl (pv 4))) pss_nil)
      (pss_one (ps_dput hu (pv 5) (pv 7) (pe_dget hu (pv 4) (pv 6) (fun _ _ => rfl)) rfl)))))
    (pss_one (L2H.ps_try_onlyX (X := cxOf (L2.CX P w) P w K mg base NVf "View.found" (defScope sVFound) f cdv A outer s H E) (Wout := fun cls d _ H => E cls d H)
      (tb := fun W => tRet (tMethE CF "found" (spFo w K RF CA) (WE W) (tFld K (tVar 0) "_field") (tCons (tCB rLd (tCons (tVar 5) tNil)) (tCons (tDGet (tFld K (tVar 0) "_names") (tVar 2)) (tCons (tVar 3) (tCons (tVar 5) tNil))))))
      (ts := fun _ _ _ => tSeq (tRaise K CA "thing" (tVar 4) (fun cls d _ H => E cls d H)) tNext) rfl rfl ⟨rfl, by decide, .inl EA.g⟩ (fun hd => L2H.passesAt_of rfl hd) (takes_of rfl rfl rfl rfl)
      (fun W pn xe tkN _ _ => ?_) (fun a oe cls d pn hz hf tk hot => ?_)))))), ?_⟩
  · exact pss_one (ps_ret (pe_methE (E := WE W) (pe_fld (pv 0) rfl) cF mF GF (hr.mono hkF) bF (fun σ => L2N.passAt tkN σ) (pa_cons (pe_callTy (r := rLd) (call_ld rfl) rfl VM.nL boot_list' (pa_cons (pv 5) pa_nil)) (pa_cons (pe_dget hu (pe_fld (pv 0) rfl) (pv 2) (fun _ _ => rfl)) (pa_cons (pv 3) (pa_cons (pv 5) pa_nil))))))
  · exact pss_cons (ps_raiseF hot tk EH (L2H.roomH_mark (hr.mono (by omega)) _) rfl (pv 4)) pss_nil
  obtain ⟨dx, fa, da, D0, ks, led, rfl, ha, hd, r0, knd, kne, kok, li, ksh⟩ := id ask.r
  have ksub : ∀ y ∈ known, y ∈ ks := ask.sub
  have klen := nodup_sub ask.nd ksub
  have O0 := RL.ok r0
  have few : (lotD (viewD D0 ks led) known x).length ≤ D0.tbl.length := lot_len (ns := D0.nb) (known := D0.κ (dd (known.map led))) (x := D0.φ (led x)) D0.tbl
  have tsh := O0.ts
  have sub0 : ∀ y ∈ dd (known.map led), y ∈ D0.ns := fun y hy => by
    obtain ⟨z, hz, rfl⟩ := List.mem_map.mp (dd_mem.mp hy)
    exact li z (ksub z hz)
  have kb : (D0.κ (dd (known.map led))).length < 1000 := by
    have z := nodup_sub (O0.kn _ sub0 (dd_nd _)) (ns := D0.nb) fun y hy => by
      obtain ⟨z, hz, rfl⟩ := (O0.ki _ sub0 y).mp hy
      exact O0.fi z (sub0 z hz)
    have := O0.shb
    omega
  obtain ⟨pt, pb⟩ := lot_plan (K := K) LA (lot_nd D0.tbl) (lot_short kb) (by omega)
  have RT : RowTh K H (.ref g) (some kvs) := .dict AK.o AK.sh AK.nd AK.at_ AK.ks
  have lb : lackB known (some kvs) = false := by
    rw [lackB_some]
    have z : (known.all fun x => (valV kvs (Sum.inr x)).isSome) = true := List.all_eq_true.mpr fun y hy => by rw [AK.v y hy]; rfl
    rw [z]; rfl
  refine ⟨_, rfl, a, dx, _, rfl, ha, rfl, _, rfl, _, rfl, _, rfl, a, b, viewD D0 ks led, known, x, .ref d, _, rfl, ask, pt, fun H1 s1 => ⟨_, rfl, ?_⟩⟩
  rw [decide_eq_true tl]
  have pb2 : planB (lotD (viewD D0 ks led) known x) (some (es, List.replicate es.length (true, true))) = true := pb
  rw [pb2]
  refine iteF ?_
  refine ⟨_, rfl, _, rfl, b, known, .ref g, _, rfl, .inl (s1 _ _ ask.k), by omega, RT.same s1, fun z => (by rw [lb] at z; cases z), fun _ H2 s2 => ?_⟩
  have s02 := s1.trans s2
  intro m nm
  have km := same_new (o := .dK []) nm
  have om : upd H2 m (.dK []) m = some (.dK []) := upd_same
  have s03 := s02.trans km
  generalize upd H2 m (.dK []) = H3 at km om s03
  have nm0 := s02.free nm
  refine ⟨_, rfl, b, rfl, ⟨_, SqL.of (s03 _ _ ask.k)⟩, for_list (xs := known.map V.str) (fun i σ H' => H' m = some (.dK (dkv (((known.map led).take i).foldl addD []) fun q => .int (firstH known led h q))) ∧ Same H H' ∧ (∀ j y, j < i → known[j]? = some y → firstH known led h (led y) = h y) ∧ ∃ s6 s7, σ = [some (.ref a), some (.ref b), some (.str x), some (.ref d), some (.ref g), some (.ref m), s6, s7])
    ⟨om, s03, fun j y lt => absurd lt (Nat.not_lt_zero j), _, _, rfl⟩ (fun i σ H' _ hh => SqL.of (hh.2.1 _ _ ask.k)) ?_ ?_⟩
  · rintro i v σ H4 ev ⟨o4, s4, al, s6, s7, rfl⟩
    rw [List.getElem?_map] at ev
    obtain ⟨y, ey, rfl⟩ := Option.map_eq_some_iff.mp ev
    have yk := List.mem_of_getElem? ey
    have yin := ksub y yk
    have dn : DGet H4 da (kV (Sum.inr y)) (valV (vN ks led) (Sum.inr y)) := DGet.k (k := Sum.inr y) (s4 _ _ hd)
    unfold vN at dn
    rw [dkv_val knd yin] at dn
    have dg : DGet H4 g (kV (Sum.inr y)) (valV kvs (Sum.inr y)) := DGet.k (k := Sum.inr y) (s4 _ _ AK.o)
    rw [AK.v y yk] at dg
    have el : (known.map led)[i]? = some (led y) := by rw [List.getElem?_map, ey]; rfl
    have hi : i < known.length := (List.getElem?_eq_some_iff.mp ey).1
    have und := fold_nd (xs := (known.map led).take i) (acc := []) .nil
    have small : (dkv (((known.map led).take i).foldl addD []) fun q => V.int (firstH known led h q)).length < sizeLine := by
      have := fold_len ((known.map led).take i) []
      rw [List.length_take, List.length_map] at this
      unfold dkv
      rw [sizeLine_eq, List.length_map]
      simp only [List.length_nil] at this
      omega
    have go : firstH known led h (led y) = h y → ∃ s6 s7, (upd H4 m (.dK (putK (dkv (((known.map led).take i).foldl addD []) fun q => V.int (firstH known led h q)) (Sum.inr (led y)) (.int (h y))))) m = some (.dK (dkv (((known.map led).take (i + 1)).foldl addD []) fun q => .int (firstH known led h q))) ∧ Same H (upd H4 m (.dK (putK (dkv (((known.map led).take i).foldl addD []) fun q => V.int (firstH known led h q)) (Sum.inr (led y)) (.int (h y))))) ∧ (∀ j z, j < i + 1 → known[j]? = some z → firstH known led h (led z) = h z) ∧ s6 = some (V.str y) ∧ s7 = some (V.str (led y)) := fun e => by
      refine ⟨_, _, ?_, fun b' o e' => ?_, fun j z lt ez => ?_, rfl, rfl⟩
      · rw [upd_same, ← e, dkv_put (g := fun q => .int (firstH known led h q)), dd_take el]
      · rw [upd_ne (ne_of_none e' nm0)]
        exact s4 _ _ e'
      · by_cases ji : j = i
        · rw [ji, ey] at ez
          cases ez
          exact e
        · exact al j z (by omega) ez
    refine ⟨_, rfl, _, _, _, _, _, rfl, s4 _ _ ha, VM.T.cl, VM.T.nN, rfl, _, rfl, da, _, rfl, dn, ?_⟩
    refine ⟨_, rfl, _, rfl, m, _, rfl, DGet.k (k := Sum.inr (led y)) o4, ?_⟩
    by_cases mi : led y ∈ ((known.map led).take i).foldl addD []
    · have e1 := dkv_val (g := fun q => V.int (firstH known led h q)) und mi
      rw [e1]
      have dm : DGet H4 m (kV (Sum.inr (led y))) (valV (dkv (((known.map led).take i).foldl addD []) fun q => V.int (firstH known led h q)) (Sum.inr (led y))) := DGet.k (k := Sum.inr (led y)) o4
      rw [e1] at dm
      refine ⟨_, rfl, iteT ⟨_, rfl, _, rfl, m, _, rfl, dm, _, rfl, _, rfl, g, _, rfl, dg, firstH known led h (led y), h y, rfl, fun H5 s5 => ⟨_, rfl, ?_⟩⟩⟩
      by_cases eq : firstH known led h (led y) = h y
      · rw [decide_eq_true eq]
        refine iteF ?_
        have o5 := s5 _ _ o4
        have dg5 : DGet H5 g (kV (Sum.inr y)) (valV kvs (Sum.inr y)) := DGet.k (k := Sum.inr y) (s5 _ _ (s4 _ _ AK.o))
        rw [AK.v y yk] at dg5
        refine ⟨_, rfl, _, rfl, g, _, rfl, dg5, _, rfl, _, rfl, m, _, rfl, DPut.k (k := Sum.inr (led y)) o5 small, ?_, ?_, ?_, _, _, rfl⟩
        · rw [upd_same, ← eq, dkv_put (g := fun q => .int (firstH known led h q)), dd_take el]
        · intro b' o e'
          rw [upd_ne (ne_of_none e' nm0)]
          exact s5 _ _ (s4 _ _ e')
        · intro j z lt ez
          by_cases ji : j = i
          · rw [ji, ey] at ez
            cases ez
            exact eq
          · exact al j z (by omega) ez
      · rw [decide_eq_false eq]
        refine iteT ?_
        rcases fin with ⟨u, hu, e, _⟩ | ⟨_, hf⟩
        · exact absurd (first_bad_two (D0 := D0) (led := led) yk e) eq
        · exact ⟨_, rfl, (hf.same (s4.trans s5)).up EA⟩
    · rw [dkv_none mi]
      refine ⟨_, rfl, iteF (iteF ?_)⟩
      have eq := first_new (h := h) ey mi
      refine ⟨_, rfl, _, rfl, g, _, rfl, dg, _, rfl, _, rfl, m, _, rfl, DPut.k (k := Sum.inr (led y)) o4 small, ?_, ?_, ?_, _, _, rfl⟩
      · rw [upd_same, ← eq, dkv_put (g := fun q => .int (firstH known led h q)), dd_take el]
      · intro b' o e'
        rw [upd_ne (ne_of_none e' nm0)]
        exact s4 _ _ e'
      · intro j z lt ez
        by_cases ji : j = i
        · rw [ji, ey] at ez
          cases ez
          exact eq
        · exact al j z (by omega) ez
  · rintro σ H4 ⟨o4, s4, al, s6, s7, rfl⟩
    rw [List.take_of_length_le (by rw [List.length_map, List.length_map]; exact Nat.le_refl _)] at o4
    have al' : ∀ y ∈ known, firstH known led h (led y) = h y := fun y hy => by
      obtain ⟨j, hj, ej⟩ := List.getElem_of_mem hy
      exact al j y (by rw [List.length_map]; exact hj) (by rw [List.getElem?_eq_getElem hj, ej])
    have r4 := RL.same r0 s4
    obtain ⟨dx0, fs0, hf0, no0⟩ := RL.ins r4
    refine ⟨_, rfl, _, _, _, _, _, rfl, s4 _ _ ha, VM.T.cl, VM.T.nF, rfl, fa, dx0, fs0, rfl, hf0, no0 _ (by simp [mths]), ?_⟩
    refine ⟨_, rfl, m, _, rfl, .inl o4, fun q nq => ?_⟩
    have eks : (dkv (dd (known.map led)) fun q => V.int (firstH known led h q)).map (fun kv => kV kv.1) = (dd (known.map led)).map V.str := by
      have z := congrArg (List.map kV) (dkv_keys (dd (known.map led)) fun q => V.int (firstH known led h q))
      rw [List.map_map, List.map_map] at z
      exact z
    unfold dd at eks
    rw [eks]
    have kq := same_new (o := .lst ((dd (known.map led)).map V.str)) nq
    have oq : upd H4 q (.lst ((dd (known.map led)).map V.str)) q = some (.lst ((dd (known.map led)).map V.str)) := upd_same
    have s5 := s4.trans kq
    have o5 := kq _ _ o4
    have dn : DGet (upd H4 q (.lst ((dd (known.map led)).map V.str))) da (kV (Sum.inr x)) (valV (vN ks led) (Sum.inr x)) := DGet.k (k := Sum.inr x) (s5 _ _ hd)
    unfold vN at dn
    rw [dkv_val knd ask.xin] at dn
    refine ⟨_, rfl, _, _, _, _, _, rfl, s5 _ _ ha, VM.T.cl, VM.T.nN, rfl, _, rfl, da, _, rfl, dn, _, rfl, _, rfl, ?_⟩
    have AM : AnsK (upd H4 q (.lst ((dd (known.map led)).map V.str))) m (dkv (dd (known.map led)) fun q => V.int (firstH known led h q)) (dd (known.map led)) (firstH known led h) := by
      have lm := fold_len (known.map led) []
      rw [List.length_map] at lm
      simp only [List.length_nil] at lm
      refine ⟨o5, by unfold dkv; rw [List.length_map]; show (List.foldl addD [] (known.map led)).length < 1000; omega, dkv_nd (dd_nd _), fun kv hk => ?_, fun z hz => ?_, fun y hy => dkv_val (dd_nd _) hy⟩
      · obtain ⟨q', _, rfl⟩ := List.mem_map.mp hk
        exact .int _
      · rw [dkv_keys] at hz
        obtain ⟨q', hq', e⟩ := List.mem_map.mp hz
        cases e
        have z := (O0.ok z (sub0 z hq')).2.1
        omega
    refine ⟨fa, q, d, m, D0, dd (known.map led), led x, es, _, firstH known led h, rfl, ask_in RL (H := H) (RL.same r0 s5) oq ksub li ask.xin, (tells_view O0).mpr tl, LA.same s5, AM, ?_⟩
    rcases fin with ⟨u, hu, e, hq⟩ | ⟨⟨y, hy, no⟩, hf⟩
    · refine .inl ⟨u, hu, fun z hz => ?_, fun H' s' => hq H' (s5.trans s')⟩
      obtain ⟨y, hy, rfl⟩ := List.mem_map.mp (dd_mem.mp hz)
      rw [al' y hy]
      exact e y hy
    · refine .inr ⟨⟨led y, dd_mem.mpr (List.mem_map_of_mem hy), fun u hu => by rw [al' y hy]; exact no u hu⟩, fun d' H' s' nd' hd' => ?_⟩
      exact ⟨true, xm, fun _ aa na => ⟨_, rfl, (hf.same (s5.trans s')).upH EH⟩, fun z => by cases z⟩
theorem ok_vFoundA (VM : VwM P w K mg base C CK CQ fM aF aL aO aK aA aB) (F : Fun K "found" "View.found" sVFound f fd) (RL : FRel CF RF) (cF : Cls K CF) (mF : Meth K CF "found" fF) (bF : Binds K fdF ["self", "known", "asked", "plan", "answers"] []) (GF : FnOk P w K mg base (L2.CX P w) kF fF fdF ["self", "known", "asked", "plan", "answers"] (spFoA w K RF)) (hkF : kF ≤ k)
    (mP : Meth K C "is_plan" fP) (bP : Binds K fdP ["self", "known", "asked", "thing"] []) (GP : FnOk P w K mg base (L2.CX P w) kP fP fdP ["self", "known", "asked", "thing"] (spIp w K (RV C RF))) (hkP : kP ≤ k) (h5 : 5 ≤ k)
    (FK : Fun K "check_lacking" "check_lacking" sCkLack fL fdL) (gK : mg "check_lacking" = some (.ref fL)) (GK : FnOk P w K mg base (L2.CX P w) 3 fL fdL ["known", "answers"] (spLackR K CA))
    (FA : Fun K "alike" "alike" sAlike fA fdA) (gA : mg "alike" = some (.ref fA)) (GA : FnOk P w K mg base CX0 2 fA fdA ["one", "other"] spAlikeI) (EA : ErrF P w K mg base "BadAnswers" CA "thing") (EH : ErrH P w K mg base "BadAnswers" CA "thing") (xm : PySem.W.exmOne K (.ref CA) (.ref CA) = some true) :
    FnOk P w K mg base (L2.CX P w) (k + 1) f fd ["self", "known", "asked", "plan", "answers"] (spFoA w K (RV C RF)) := by
  have bK := FK.binds (ps := ["known", "answers"]) fun _ _ _ _ _ _ us hl => match us, hl with | [_, _], _ => rfl
  have bA := FA.binds (ps := ["one", "other"]) fun _ _ _ _ _ _ us hl => match us, hl with | [_, _], _ => rfl
  refine F.okX scVFound (fun vs H Q E h => by obtain ⟨a, b, d, g, D, known, x, es, kvs, h, e, _⟩ := h; rw [e]; rfl) fun cdv A outer s H vs Q E hr hsp => ?_
  obtain ⟨a, b, d, g, D, known, x, es, kvs, h, rfl, ask, tl, LA, AK, fin⟩ := hsp
  have nd := scVFound.nd
  have hu : (A.deeper (envOfC "View.found" (defScope sVFound) s.heap.objs.size f cdv)).units + 1 < cLine := by have := hr.un; omega
  refine ⟨_, pss_cons (ps_if (pt_not (pt_val (pe_meth (pv 0) VM.T.cl mP GP (hr.mono hkP) bP .nil (passes (takes_of rfl rfl rfl rfl)) (pa_cons (pv 1) (pa_cons (pv 2) (pa_cons (pv 3) pa_nil)))))) (pss_one ps_never) pss_nil)
    (pss_cons (ps_expr (pe_call GK (hr.mono (by omega)) rfl gK FK.kp bK .nil passL (pa_cons (pv 1) (pa_cons (pv 4) pa_nil))))
    (pss_cons (ps_set (i := 5) nd rfl (Or.inl rfl) pe_dnewK)
    (pss_cons (ps_for (passes_of rfl) rfl (pi_list (pv 1)) (pg_name (i := 6) nd rfl (Or.inl rfl))
      (pss_cons (ps_set (i := 7) nd rfl (Or.inl rfl) (pe_dget hu (pe_fld (pv 0) rfl) (pv 6) (fun _ _ => rfl)))
      (pss_cons (ps_if (PW.pt (pw_and (pt_cmp (pc_din hu (pv 7) (pv 5))) (pw_and1 (pt_not (pt_val (pe_call GA (hr.mono (by omega)) rfl gA FA.kp bA .nil pass0 (pa_cons (pe_dget hu (pv 5) (pv 7) (fun _ _ => rfl)) (pa_cons (pe_dget hu (pv 4) (pv 6) (fun _ _ => rfl)) pa_nil)))))))) (pss_one (ps_raiseE rfl (takes_of rfl rfl rfl rfl) EA (hr.mono (by omega)) rfl (pv 4))) pss_nil)
      (pss_one (ps_dput hu (pv 5) (pv 7) (pe_dget hu (pv 4) (pv 6) (fun _ _ => rfl)) rfl)))))
    (pss_one (L2H.ps_try_onlyX (X := cxOf (L2.CX P w) P w K mg base NVf "View.found" (defScope sVFound) f cdv A outer s H E) (Wout := fun cls d _ H => E cls d H)
      (tb := fun W => tRet (tMethE CF "found" (spFoA w K RF) (fun _ => E0) (tFld K (tVar 0) "_field") (tCons (tCB rLd (tCons (tVar 5) tNil)) (tCons (tDGet (tFld K (tVar 0) "_names") (tVar 2)) (tCons (tVar 3) (tCons (tVar 5) tNil))))))
      (ts := fun _ _ _ => tSeq (tRaise K CA "thing" (tVar 4) (fun cls d _ H => E cls d H)) tNext) rfl rfl ⟨rfl, by decide, .inl EA.g⟩ (fun hd => L2H.passesAt_of rfl hd) (takes_of rfl rfl rfl rfl)
      (fun W pn xe tkN _ _ => ?_) (fun a oe cls d pn hz hf tk hot => ?_)))))), ?_⟩
  · exact pss_one (ps_ret (pe_methE (E := fun _ => E0) (pe_fld (pv 0) rfl) cF mF GF (hr.mono hkF) bF (fun σ pins H s e s' I c => passL pins σ H s e s' I c) (pa_cons (pe_callTy (r := rLd) (call_ld rfl) rfl VM.nL boot_list' (pa_cons (pv 5) pa_nil)) (pa_cons (pe_dget hu (pe_fld (pv 0) rfl) (pv 2) (fun _ _ => rfl)) (pa_cons (pv 3) (pa_cons (pv 5) pa_nil))))))
  · exact pss_cons (ps_raiseF hot tk EH (L2H.roomH_mark (hr.mono (by omega)) _) rfl (pv 4)) pss_nil
  obtain ⟨dx, fa, da, D0, ks, led, rfl, ha, hd, r0, knd, kne, kok, li, ksh⟩ := id ask.r
  have ksub : ∀ y ∈ known, y ∈ ks := ask.sub
  have klen := nodup_sub ask.nd ksub
  have O0 := RL.ok r0
  have few : (lotD (viewD D0 ks led) known x).length ≤ D0.tbl.length := lot_len (ns := D0.nb) (known := D0.κ (dd (known.map led))) (x := D0.φ (led x)) D0.tbl
  have tsh := O0.ts
  have sub0 : ∀ y ∈ dd (known.map led), y ∈ D0.ns := fun y hy => by
    obtain ⟨z, hz, rfl⟩ := List.mem_map.mp (dd_mem.mp hy)
    exact li z (ksub z hz)
  have kb : (D0.κ (dd (known.map led))).length < 1000 := by
    have z := nodup_sub (O0.kn _ sub0 (dd_nd _)) (ns := D0.nb) fun y hy => by
      obtain ⟨z, hz, rfl⟩ := (O0.ki _ sub0 y).mp hy
      exact O0.fi z (sub0 z hz)
    have := O0.shb
    omega
  obtain ⟨pt, pb⟩ := lot_plan (K := K) LA (lot_nd D0.tbl) (lot_short kb) (by omega)
  have RT : RowTh K H (.ref g) (some kvs) := .dict AK.o AK.sh AK.nd AK.at_ AK.ks
  have lb : lackB known (some kvs) = false := by
    rw [lackB_some]
    have z : (known.all fun x => (valV kvs (Sum.inr x)).isSome) = true := List.all_eq_true.mpr fun y hy => by rw [AK.v y hy]; rfl
    rw [z]; rfl
  refine ⟨_, rfl, a, dx, _, rfl, ha, rfl, _, rfl, _, rfl, _, rfl, a, b, viewD D0 ks led, known, x, .ref d, _, rfl, ask, pt, fun H1 s1 => ⟨_, rfl, ?_⟩⟩
  rw [decide_eq_true tl]
  have pb2 : planB (lotD (viewD D0 ks led) known x) (some (es, List.replicate es.length (true, true))) = true := pb
  rw [pb2]
  refine iteF ?_
  refine ⟨_, rfl, _, rfl, b, known, .ref g, _, rfl, .inl (s1 _ _ ask.k), by omega, RT.same s1, fun z => (by rw [lb] at z; cases z), fun _ H2 s2 => ?_⟩
  have s02 := s1.trans s2
  intro m nm
  have km := same_new (o := .dK []) nm
  have om : upd H2 m (.dK []) m = some (.dK []) := upd_same
  have s03 := s02.trans km
  generalize upd H2 m (.dK []) = H3 at km om s03
  have nm0 := s02.free nm
  refine ⟨_, rfl, b, rfl, ⟨_, SqL.of (s03 _ _ ask.k)⟩, for_list (xs := known.map V.str) (fun i σ H' => H' m = some (.dK (dkv (((known.map led).take i).foldl addD []) fun q => .int (firstH known led h q))) ∧ Same H H' ∧ (∀ j y, j < i → known[j]? = some y → firstH known led h (led y) = h y) ∧ ∃ s6 s7, σ = [some (.ref a), some (.ref b), some (.str x), some (.ref d), some (.ref g), some (.ref m), s6, s7])
    ⟨om, s03, fun j y lt => absurd lt (Nat.not_lt_zero j), _, _, rfl⟩ (fun i σ H' _ hh => SqL.of (hh.2.1 _ _ ask.k)) ?_ ?_⟩
  · rintro i v σ H4 ev ⟨o4, s4, al, s6, s7, rfl⟩
    rw [List.getElem?_map] at ev
    obtain ⟨y, ey, rfl⟩ := Option.map_eq_some_iff.mp ev
    have yk := List.mem_of_getElem? ey
    have yin := ksub y yk
    have dn : DGet H4 da (kV (Sum.inr y)) (valV (vN ks led) (Sum.inr y)) := DGet.k (k := Sum.inr y) (s4 _ _ hd)
    unfold vN at dn
    rw [dkv_val knd yin] at dn
    have dg : DGet H4 g (kV (Sum.inr y)) (valV kvs (Sum.inr y)) := DGet.k (k := Sum.inr y) (s4 _ _ AK.o)
    rw [AK.v y yk] at dg
    have el : (known.map led)[i]? = some (led y) := by rw [List.getElem?_map, ey]; rfl
    have hi : i < known.length := (List.getElem?_eq_some_iff.mp ey).1
    have und := fold_nd (xs := (known.map led).take i) (acc := []) .nil
    have small : (dkv (((known.map led).take i).foldl addD []) fun q => V.int (firstH known led h q)).length < sizeLine := by
      have := fold_len ((known.map led).take i) []
      rw [List.length_take, List.length_map] at this
      unfold dkv
      rw [sizeLine_eq, List.length_map]
      simp only [List.length_nil] at this
      omega
    have go : firstH known led h (led y) = h y → ∃ s6 s7, (upd H4 m (.dK (putK (dkv (((known.map led).take i).foldl addD []) fun q => V.int (firstH known led h q)) (Sum.inr (led y)) (.int (h y))))) m = some (.dK (dkv (((known.map led).take (i + 1)).foldl addD []) fun q => .int (firstH known led h q))) ∧ Same H (upd H4 m (.dK (putK (dkv (((known.map led).take i).foldl addD []) fun q => V.int (firstH known led h q)) (Sum.inr (led y)) (.int (h y))))) ∧ (∀ j z, j < i + 1 → known[j]? = some z → firstH known led h (led z) = h z) ∧ s6 = some (V.str y) ∧ s7 = some (V.str (led y)) := fun e => by
      refine ⟨_, _, ?_, fun b' o e' => ?_, fun j z lt ez => ?_, rfl, rfl⟩
      · rw [upd_same, ← e, dkv_put (g := fun q => .int (firstH known led h q)), dd_take el]
      · rw [upd_ne (ne_of_none e' nm0)]
        exact s4 _ _ e'
      · by_cases ji : j = i
        · rw [ji, ey] at ez
          cases ez
          exact e
        · exact al j z (by omega) ez
    refine ⟨_, rfl, _, _, _, _, _, rfl, s4 _ _ ha, VM.T.cl, VM.T.nN, rfl, _, rfl, da, _, rfl, dn, ?_⟩
    refine ⟨_, rfl, _, rfl, m, _, rfl, DGet.k (k := Sum.inr (led y)) o4, ?_⟩
    by_cases mi : led y ∈ ((known.map led).take i).foldl addD []
    · have e1 := dkv_val (g := fun q => V.int (firstH known led h q)) und mi
      rw [e1]
      have dm : DGet H4 m (kV (Sum.inr (led y))) (valV (dkv (((known.map led).take i).foldl addD []) fun q => V.int (firstH known led h q)) (Sum.inr (led y))) := DGet.k (k := Sum.inr (led y)) o4
      rw [e1] at dm
      refine ⟨_, rfl, iteT ⟨_, rfl, _, rfl, m, _, rfl, dm, _, rfl, _, rfl, g, _, rfl, dg, firstH known led h (led y), h y, rfl, fun H5 s5 => ⟨_, rfl, ?_⟩⟩⟩
      by_cases eq : firstH known led h (led y) = h y
      · rw [decide_eq_true eq]
        refine iteF ?_
        have o5 := s5 _ _ o4
        have dg5 : DGet H5 g (kV (Sum.inr y)) (valV kvs (Sum.inr y)) := DGet.k (k := Sum.inr y) (s5 _ _ (s4 _ _ AK.o))
        rw [AK.v y yk] at dg5
        refine ⟨_, rfl, _, rfl, g, _, rfl, dg5, _, rfl, _, rfl, m, _, rfl, DPut.k (k := Sum.inr (led y)) o5 small, ?_, ?_, ?_, _, _, rfl⟩
        · rw [upd_same, ← eq, dkv_put (g := fun q => .int (firstH known led h q)), dd_take el]
        · intro b' o e'
          rw [upd_ne (ne_of_none e' nm0)]
          exact s5 _ _ (s4 _ _ e')
        · intro j z lt ez
          by_cases ji : j = i
          · rw [ji, ey] at ez
            cases ez
            exact eq
          · exact al j z (by omega) ez
      · rw [decide_eq_false eq]
        refine iteT ?_
        obtain ⟨u, hu, e, _⟩ := fin
        exact absurd (first_bad_two (D0 := D0) (led := led) yk e) eq
    · rw [dkv_none mi]
      refine ⟨_, rfl, iteF (iteF ?_)⟩
      have eq := first_new (h := h) ey mi
      refine ⟨_, rfl, _, rfl, g, _, rfl, dg, _, rfl, _, rfl, m, _, rfl, DPut.k (k := Sum.inr (led y)) o4 small, ?_, ?_, ?_, _, _, rfl⟩
      · rw [upd_same, ← eq, dkv_put (g := fun q => .int (firstH known led h q)), dd_take el]
      · intro b' o e'
        rw [upd_ne (ne_of_none e' nm0)]
        exact s4 _ _ e'
      · intro j z lt ez
        by_cases ji : j = i
        · rw [ji, ey] at ez
          cases ez
          exact eq
        · exact al j z (by omega) ez
  · rintro σ H4 ⟨o4, s4, al, s6, s7, rfl⟩
    rw [List.take_of_length_le (by rw [List.length_map, List.length_map]; exact Nat.le_refl _)] at o4
    have al' : ∀ y ∈ known, firstH known led h (led y) = h y := fun y hy => by
      obtain ⟨j, hj, ej⟩ := List.getElem_of_mem hy
      exact al j y (by rw [List.length_map]; exact hj) (by rw [List.getElem?_eq_getElem hj, ej])
    have r4 := RL.same r0 s4
    obtain ⟨dx0, fs0, hf0, no0⟩ := RL.ins r4
    refine ⟨_, rfl, _, _, _, _, _, rfl, s4 _ _ ha, VM.T.cl, VM.T.nF, rfl, fa, dx0, fs0, rfl, hf0, no0 _ (by simp [mths]), ?_⟩
    refine ⟨_, rfl, m, _, rfl, .inl o4, fun q nq => ?_⟩
    have eks : (dkv (dd (known.map led)) fun q => V.int (firstH known led h q)).map (fun kv => kV kv.1) = (dd (known.map led)).map V.str := by
      have z := congrArg (List.map kV) (dkv_keys (dd (known.map led)) fun q => V.int (firstH known led h q))
      rw [List.map_map, List.map_map] at z
      exact z
    unfold dd at eks
    rw [eks]
    have kq := same_new (o := .lst ((dd (known.map led)).map V.str)) nq
    have oq : upd H4 q (.lst ((dd (known.map led)).map V.str)) q = some (.lst ((dd (known.map led)).map V.str)) := upd_same
    have s5 := s4.trans kq
    have o5 := kq _ _ o4
    have dn : DGet (upd H4 q (.lst ((dd (known.map led)).map V.str))) da (kV (Sum.inr x)) (valV (vN ks led) (Sum.inr x)) := DGet.k (k := Sum.inr x) (s5 _ _ hd)
    unfold vN at dn
    rw [dkv_val knd ask.xin] at dn
    refine ⟨_, rfl, _, _, _, _, _, rfl, s5 _ _ ha, VM.T.cl, VM.T.nN, rfl, _, rfl, da, _, rfl, dn, _, rfl, _, rfl, ?_⟩
    have AM : AnsK (upd H4 q (.lst ((dd (known.map led)).map V.str))) m (dkv (dd (known.map led)) fun q => V.int (firstH known led h q)) (dd (known.map led)) (firstH known led h) := by
      have lm := fold_len (known.map led) []
      rw [List.length_map] at lm
      simp only [List.length_nil] at lm
      refine ⟨o5, by unfold dkv; rw [List.length_map]; show (List.foldl addD [] (known.map led)).length < 1000; omega, dkv_nd (dd_nd _), fun kv hk => ?_, fun z hz => ?_, fun y hy => dkv_val (dd_nd _) hy⟩
      · obtain ⟨q', _, rfl⟩ := List.mem_map.mp hk
        exact .int _
      · rw [dkv_keys] at hz
        obtain ⟨q', hq', e⟩ := List.mem_map.mp hz
        cases e
        have z := (O0.ok z (sub0 z hq')).2.1
        omega
    refine ⟨fa, q, d, m, D0, dd (known.map led), led x, es, _, firstH known led h, rfl, ask_in RL (H := H) (RL.same r0 s5) oq ksub li ask.xin, (tells_view O0).mpr tl, LA.same s5, AM, ?_⟩
    obtain ⟨u, hu, e, hq⟩ := fin
    refine ⟨u, hu, fun z hz => ?_, fun H' s' => hq H' (s5.trans s')⟩
    obtain ⟨y, hy, rfl⟩ := List.mem_map.mp (dd_mem.mp hz)
    rw [al' y hy]
    exact e y hy
end
end L2.TB
/-! questions, home, answers, names -/
namespace L2.TB
open PySem PySem.Spec PyProof.Rows LamX MK
def spQF (RF : Hp → Addr → Fd → Prop) : Sp := fun vs H Q _ => ∃ (a : Addr) (D : Fd), vs = [.ref a] ∧ RF H a D ∧ ∀ H' q, H q = none → H' q = some (.lst (D.ns.map V.str)) → Same H H' → Q (.ref q) H'
def spHoF (RF : Hp → Addr → Fd → Prop) : Sp := fun vs H Q _ => ∃ (a : Addr) (D : Fd), vs = [.ref a] ∧ RF H a D ∧ ∀ u, D.tbl[0]? = some u → ∀ H' q, H q = none → H' q = some (.dK (dk D.nb u)) → Same H H' → Q (.ref q) H'
def spAnF (RF : Hp → Addr → Fd → Prop) (CW : Addr) : Sp := fun vs H Q E => ∃ (a : Addr) (D : Fd) (v : V), vs = [.ref a, v] ∧ RF H a D ∧
  ((∃ (p : Addr) (kvs : List (Key × V)) (u : List Int), v = .ref p ∧ H p = some (.dK kvs) ∧ RowD D.nb kvs u ∧ u ∈ D.tbl ∧ ∀ H' q, H q = none → H' q = some (.dK (dkv D.ns fun x => .int (av D.nb u (D.φ x)))) → Same H H' → Q (.ref q) H') ∨ (v = .non ∧ Flies CW "thing" .non H E))
def spNmF (C : Addr) (RF : Hp → Addr → Fd → Prop) : Sp := fun vs H Q _ => ∃ (a dx fa da : Addr) (D0 : Fd) (ks : List Str) (led : Str → Str), vs = [.ref a] ∧ H a = some (.ins C dx (vF fa da)) ∧ H da = some (.dK (vN ks led)) ∧ ks.Nodup ∧ ks.length < 1000 ∧ ∀ H' q, H q = none → H' q = some (.dK (vN ks led)) → Same H H' → Q (.ref q) H'
theorem dkv_at {ns : List Str} {g : Str → V} {i : Nat} {k : Key} {v : V} (h : (dkv ns g)[i]? = some (k, v)) : ∃ x, ns[i]? = some x ∧ k = Sum.inr x ∧ v = g x := by
  unfold dkv at h
  rw [List.getElem?_map] at h
  obtain ⟨x, ex, e⟩ := Option.map_eq_some_iff.mp h
  cases e
  exact ⟨x, ex, rfl, rfl⟩
theorem dkv_len (ns : List Str) (g : Str → V) : (dkv ns g).length = ns.length := by unfold dkv; rw [List.length_map]
abbrev NAn : List Str := ["self", "world", "name"]
theorem scAnswers : FnScope NAn ["self", "world"] (defScope sAnswers) := ⟨rfl, rfl, rfl, by decide +kernel, rfl, by decide +kernel, by decide +kernel⟩
abbrev NVa : List Str := ["self", "world", "told", "name"]
theorem scVAns : FnScope NVa ["self", "world"] (defScope sVAnswers) := ⟨rfl, rfl, rfl, by decide +kernel, rfl, by decide +kernel, by decide +kernel⟩
theorem scVNames : FnScope ["self", "name"] ["self"] (defScope sVNames) := ⟨rfl, rfl, rfl, by decide +kernel, rfl, by decide +kernel, by decide +kernel⟩
theorem scVQs : FnScope ["self"] ["self"] (defScope sVQs) := ⟨rfl, rfl, rfl, by decide +kernel, rfl, by decide +kernel, by decide +kernel⟩
theorem scVHome : FnScope ["self"] ["self"] (defScope sVHome) := ⟨rfl, rfl, rfl, by decide +kernel, rfl, by decide +kernel, by decide +kernel⟩
theorem scHome : FnScope ["self"] ["self"] (defScope sHome) := ⟨rfl, rfl, rfl, by decide +kernel, rfl, by decide +kernel, by decide +kernel⟩
section
variable {P : Program} {w : World} {K : PySem.W.Frag} {mg : Str → Option Value} {base : Heap} {f C CF CK CQ CW fM fF fW fD aF aL aO aK aA aB : Addr} {fd fdF fdW fdD : FuncData} {RF : Hp → Addr → Fd → Prop} {kF : Nat}
theorem tab_qs (G : FnOk P w K mg base CX0 1 f fd ["self"] (spQs K C)) : FnOk P w K mg base CX0 1 f fd ["self"] (spQF (RT C)) := G.imp fun vs H Q E h => by
  obtain ⟨a, D, rfl, ⟨ns, tbl, rfl, t, _⟩, hq⟩ := h
  exact ⟨a, ns, tbl, rfl, t, hq⟩
theorem atI_0 (x : V) (r : List V) : atI (x :: r) 0 = some x := atI_nat (j := 0) rfl
theorem ok_home (F : Fun K "home" "Table.home" sHome f fd) (T : TabC K C) (FD : Fun K "_dict_of" "Table._dict_of" sDictOf fD fdD) (mD : Meth K C "_dict_of" fD) (gZ : mg "zip" = none) : FnOk P w K mg base CX0 2 f fd ["self"] (spHoF (RT C)) := by
  have GD : FnOk P w K mg base CX0 1 fD fdD ["self", "row"] (spDictOf C) := ok_dictOf FD T gZ
  have bD := FD.binds (ps := ["self", "row"]) fun _ _ _ _ _ _ us hl => match us, hl with | [_, _], _ => rfl
  refine F.ok scHome (fun vs H Q E h => by obtain ⟨a, D, e, _⟩ := h; rw [e]; rfl) fun cdv A outer s H vs Q E hr hsp => ?_
  obtain ⟨a, D, rfl, ⟨ns, tbl, rfl, t, nd, ne, ok, sh, tn, ts⟩, hq⟩ := hsp
  refine ⟨_, pss_one (ps_ret (pe_meth (pv 0) T.cl mD GD hr bD .nil pass0 (pa_cons (pe_ix (r := rIxL K) ix_list (pe_fld (pv 0) rfl) pe_int (fun _ _ => rfl)) pa_nil))), ?_⟩
  obtain ⟨dx, qa, ra, ha, hqa, hra⟩ := id t.ex
  obtain ⟨ps, hps, pr⟩ := id hra
  obtain ⟨u, r, rfl⟩ : ∃ u r, tbl = u :: r := by
    cases tbl with
    | nil => exact absurd rfl tn
    | cons u r => exact ⟨u, r, rfl⟩
  cases pr with
  | @cons p _ _ _ hp pr =>
  exact ⟨_, rfl, a, dx, _, rfl, ha, rfl, _, rfl, a, C, dx, _, _, rfl, ha, T.cl, T.nR, tabF_r _ _, ra, _, (0 : Int), _, rfl, rfl, SqL.of hps, atI_0 _ _, a, p, ns, u :: r, u, rfl, t, nd, by omega, hp.1, hp.2, fun H' d nd' od s' => hq u rfl H' d nd' od s'⟩
theorem ok_answersT (F : Fun K "answers" "Table.answers" sAnswers f fd) (T : TabC K C) (FW : Fun K "_is_world" "Table._is_world" sIsWorld fW fdW) (mW : Meth K C "_is_world" fW) (GW : FnOk P w K mg base CX0 3 fW fdW ["self", "thing"] (spIsWorldX w C)) (EW : ErrF P w K mg base "BadWorld" CW "thing") :
    FnOk P w K mg base (L2.CX P w) 4 f fd ["self", "world"] (spAnF (RT C) CW) := by
  have bW := FW.binds (ps := ["self", "thing"]) fun _ _ _ _ _ _ us hl => match us, hl with | [_, _], _ => rfl
  refine F.okX scAnswers (fun vs H Q E h => by obtain ⟨a, D, v, e, _⟩ := h; rw [e]; rfl) fun cdv A outer s H vs Q E hr hsp => ?_
  obtain ⟨a, D, v, rfl, ⟨ns, tbl, rfl, t, knd, ne, ok, sh, tn, ts⟩, h⟩ := hsp
  have nd := scAnswers.nd
  have hu := hu_of hr
  refine ⟨_, pss_cons (ps_if (pt_not (pt_val (pe_meth (pv 0) T.cl mW GW hr bW .nil pass0 (pa_cons (pv 1) pa_nil)))) (pss_one (ps_raiseE rfl (takes_of rfl rfl rfl rfl) EW (hr.mono (by decide)) rfl (pv 1))) pss_nil)
    (pss_one (ps_ret (pe_dc (own := [("name", 2)]) (tt := tYes) (g := gName 2) (tk := tVar 2) (tv := tDGet (tVar 1) (tVar 2)) rfl nd (pi_list (pe_fld (pv 0) rfl)) (blkOk_by (N := NAn) (sc := defScope sAnswers) (by decide +kernel)) (fun _ _ _ _ _ => pg_name (i := 2) nd rfl (Or.inl rfl)) (fun _ _ _ _ _ => pts_nil) (fun _ _ _ _ _ => pv 2) (fun _ _ _ _ _ => pe_dget hu (pv 1) (pv 2) (fun _ _ => rfl))))), ?_⟩
  obtain ⟨dx, qa, ra, ha, hqa, hra⟩ := id t.ex
  rcases h with ⟨p, kvs, u, rfl, op, rd, uin, hq⟩ | ⟨rfl, hf⟩
  · have uin' : u ∈ tbl := uin
    refine ⟨_, rfl, a, dx, _, rfl, ha, rfl, _, rfl, a, _, ns, tbl, some u, rfl, t, knd, by omega, .row op rd, fun H1 k1 => ⟨_, rfl, ?_⟩⟩
    rw [show worldB tbl (some u) = true from decide_eq_true uin']
    refine iteF ?_
    refine ⟨_, rfl, a, C, dx, _, _, rfl, k1 _ _ ha, T.cl, T.nQ, rfl, qa, rfl, ⟨_, SqL.of (k1 _ _ hqa)⟩, dc_gen (Q := fun D H' => Q (.ref D) H') (dkv ns fun x => .int (av ns u x)) (by rw [dkv_len]; omega) (dkv_nd knd) (fun j H' s lt => ⟨_, _, SqL.of (s _ _ (k1 _ _ hqa)), List.getElem?_eq_getElem (by rw [List.length_map]; rw [dkv_len] at lt; exact lt)⟩) (fun H' s => ⟨_, SqL.of (s _ _ (k1 _ _ hqa)), by rw [List.length_map, dkv_len]; omega⟩) ?_ fun H5 D nD oD s5 => hq _ _ (k1.free nD) oD (k1.trans s5)⟩
    rintro j v k z H5 H6 Cm Nm ekv s5 ⟨rfl, ev⟩ yes2
    have ev := ev _ (SqL.of (s5 _ _ (k1 _ _ hqa)))
    obtain ⟨y, ey, rfl, rfl⟩ := dkv_at ekv
    rw [List.getElem?_map, ey] at ev
    obtain rfl : V.str y = v := Option.some.inj ev
    refine ⟨rfl, ?_⟩
    exact ⟨_, rfl, _, rfl, _, rfl, p, _, rfl, rd.val y (List.mem_of_getElem? ey) ▸ DGet.k (k := Sum.inr y) (s5 _ _ (k1 _ _ op)), yes2 _ (Same.refl _)⟩
  · refine ⟨_, rfl, a, dx, _, rfl, ha, rfl, _, rfl, a, _, ns, tbl, none, rfl, t, knd, by omega, .non, fun H1 k1 => ⟨_, rfl, iteT ?_⟩⟩
    exact ⟨_, rfl, (hf.same k1).up EW⟩
theorem ok_vQs (F : Fun K "questions" "View.questions" sVQs f fd) (T : VwC K C) (gL : mg "list" = none) : FnOk P w K mg base CX0 1 f fd ["self"] (spQF (RV C RF)) := by
  refine F.ok scVQs (fun vs H Q E h => by obtain ⟨a, D, e, _⟩ := h; rw [e]; rfl) fun cdv A outer s H vs Q E hr hsp => ?_
  obtain ⟨a, D, rfl, ⟨dx, fa, da, D0, ks, led, rfl, ha, hd, _⟩, hq⟩ := hsp
  refine ⟨_, pss_one (ps_ret (pe_callTy (r := rLd) (call_ld rfl) rfl gL boot_list' (pa_cons (pe_fld (pv 0) rfl) pa_nil))), ?_⟩
  refine ⟨_, rfl, _, _, _, _, _, rfl, ha, T.cl, T.nN, rfl, da, _, rfl, .inl hd, fun q nq => hq _ q nq ?_ (same_new nq)⟩
  rw [upd_same]
  have e := congrArg (List.map kV) (dkv_keys ks fun x => .str (led x))
  rw [List.map_map, List.map_map] at e
  exact congrArg (fun l => some (HO.lst l)) e
theorem ok_vHome (F : Fun K "home" "View.home" sVHome f fd) (T : VwC K C) (RL : FRel CF RF) (cF : Cls K CF) (mF : Meth K CF "home" fF) (bF : Binds K fdF ["self"] []) (GF : FnOk P w K mg base CX0 kF fF fdF ["self"] (spHoF RF)) : FnOk P w K mg base CX0 (kF + 1) f fd ["self"] (spHoF (RV C RF)) := by
  refine F.ok scVHome (fun vs H Q E h => by obtain ⟨a, D, e, _⟩ := h; rw [e]; rfl) fun cdv A outer s H vs Q E hr hsp => ?_
  obtain ⟨a, D, rfl, ⟨dx, fa, da, D0, ks, led, rfl, ha, hd, r0, _⟩, hq⟩ := hsp
  refine ⟨_, pss_one (ps_ret (pe_meth0 (pe_fld (pv 0) rfl) cF mF GF hr bF .nil pass0)), ?_⟩
  obtain ⟨dx0, fs0, hf0, no0⟩ := RL.ins r0
  exact ⟨_, rfl, _, _, _, _, _, rfl, ha, T.cl, T.nF, rfl, fa, dx0, fs0, rfl, hf0, no0 _ (by simp [mths]), fa, D0, rfl, r0, hq⟩
theorem ok_vAns (F : Fun K "answers" "View.answers" sVAnswers f fd) (T : VwC K C) (RL : FRel CF RF) (cF : Cls K CF) (mF : Meth K CF "answers" fF) (bF : Binds K fdF ["self", "world"] []) (GF : FnOk P w K mg base (L2.CX P w) kF fF fdF ["self", "world"] (spAnF RF CW)) (h2 : 2 ≤ kF) : FnOk P w K mg base (L2.CX P w) (kF + 1) f fd ["self", "world"] (spAnF (RV C RF) CW) := by
  refine F.okX scVAns (fun vs H Q E h => by obtain ⟨a, D, v, e, _⟩ := h; rw [e]; rfl) fun cdv A outer s H vs Q E hr hsp => ?_
  obtain ⟨a, D, v, rfl, ⟨dx, fa, da, D0, ks, led, rfl, ha, hd, r0, knd, kne, kok, li, ksh⟩, h⟩ := hsp
  have nd := scVAns.nd
  have hu := hu_of hr
  refine ⟨_, pss_cons (ps_set (i := 2) nd rfl (Or.inr rfl) (pe_meth (pe_fld (pv 0) rfl) cF mF GF hr bF .nil (passes (takes_of rfl rfl rfl rfl)) (pa_cons (pv 1) pa_nil)))
    (pss_one (ps_ret (pe_lock (pe_dc (own := [("name", 3)]) (tt := tYes) (g := gName 3) (tk := tVar 3) (tv := tDGet (tVar 2) (tDGet (tFld K (tVar 0) "_names") (tVar 3))) rfl nd (pi_keys (pe_fld (pv 0) rfl)) (blkOk_by (N := NVa) (sc := defScope sVAnswers) (by decide +kernel)) (fun _ _ _ _ _ => pg_name (i := 3) nd rfl (Or.inl rfl)) (fun _ _ _ _ _ => pts_nil) (fun _ _ _ _ _ => pv 3) (fun _ _ _ _ _ => pe_dget hu (pv 2) (pe_dget hu (pe_fld (pv 0) rfl) (pv 3) (fun _ _ => rfl)) (fun _ _ => rfl)))))), ?_⟩
  obtain ⟨dx0, fs0, hf0, no0⟩ := RL.ins r0
  refine ⟨_, rfl, _, _, _, _, _, rfl, ha, T.cl, T.nF, rfl, fa, dx0, fs0, rfl, hf0, no0 _ (by simp [mths]), _, rfl, fa, D0, v, rfl, r0, ?_⟩
  rcases h with ⟨p, kvs, u, rfl, op, rd, uin, hq⟩ | ⟨rfl, hf⟩
  · refine .inl ⟨p, kvs, u, rfl, op, rd, uin, fun H1 t nt ot s1 => ?_⟩
    have hd1 := s1 _ _ hd
    refine ⟨da, _, hd1, trivial, fun od => ?_⟩
    have oL : upd H1 da (.frz od (.dK (vN ks led))) da = some (.frz od (.dK (vN ks led))) := upd_same
    have keep : ∀ {b : Addr} {o : HO}, b ≠ da → H1 b = some o → upd H1 da (.frz od (.dK (vN ks led))) b = some o := fun n e => by rw [upd_ne n]; exact e
    have na : a ≠ da := fun z => by rw [z, hd] at ha; cases ha
    have nt2 : t ≠ da := fun z => by rw [z, hd] at nt; cases nt
    refine ⟨_, rfl, a, C, dx, _, _, rfl, keep na (s1 _ _ ha), T.cl, T.nN, rfl, da, od, rfl, .inl ⟨_, oL, ?_⟩⟩
    refine dc_gen (Q := fun D H' => H' da = some (.frz od (.dK (vN ks led))) ∧ Q (.ref D) (upd H' da (.dK (vN ks led)))) (dkv ks fun x => .int (av D0.nb u (D0.φ (led x)))) (by rw [dkv_len]; omega) (dkv_nd knd) (fun j H' s lt => ⟨s _ _ oL, by rw [dkv_len] at lt; show j < (dkv ks _).length; rw [dkv_len]; exact lt⟩) (fun H' s => ⟨s _ _ oL, by rw [dkv_len]; show (dkv ks _).length ≤ _; rw [dkv_len]; exact Nat.le_refl _⟩) ?_ ?_
    · rintro j v k z H5 H6 Cm Nm ekv s5 ⟨rfl, k2, x2, ek2, rfl⟩ yes2
      obtain ⟨y, ey, rfl, rfl⟩ := dkv_at ekv
      obtain ⟨y2, ey2, rfl, rfl⟩ := dkv_at ek2
      rw [ey] at ey2
      obtain rfl := Option.some.inj ey2
      have yin := List.mem_of_getElem? ey
      have dg : DGet H6 da (kV (Sum.inr y)) (valV (vN ks led) (Sum.inr y)) := .inl ⟨_, Sum.inr y, .inr ⟨od, s5 _ _ oL⟩, rfl, rfl⟩
      unfold vN at dg
      rw [dkv_val knd yin] at dg
      have dt : DGet H6 t (kV (Sum.inr (led y))) (valV (dkv D0.ns fun x => V.int (av D0.nb u (D0.φ x))) (Sum.inr (led y))) := DGet.k (k := Sum.inr (led y)) (s5 _ _ (keep nt2 ot))
      rw [dkv_val (RL.ok r0).nd (li y yin)] at dt
      refine ⟨rfl, ?_⟩
      exact ⟨_, rfl, _, rfl, _, rfl, _, _, _, _, _, rfl, s5 _ _ (keep na (s1 _ _ ha)), T.cl, T.nN, rfl, _, rfl, da, _, rfl, dg, t, _, rfl, dt, yes2 _ (Same.refl _)⟩
    · intro H2 D2 nD oD s2
      obtain ⟨b1, s02⟩ := lock_off hd1 s2
      have nD1 : H1 D2 = none := by
        by_cases e : D2 = da
        · rw [e, oL] at nD; cases nD
        · rw [upd_ne e] at nD; exact nD
      refine ⟨b1, hq _ _ (s1.free nD1) ?_ (s1.trans s02)⟩
      rw [upd_ne (fun z => by rw [z, oL] at nD; cases nD)]
      exact oD
  · exact .inr ⟨rfl, hf⟩
theorem ok_vNames (F : Fun K "names" "View.names" sVNames f fd) (T : VwC K C) : FnOk P w K mg base CX0 1 f fd ["self"] (spNmF C RF) := by
  refine F.ok scVNames (fun vs H Q E h => by obtain ⟨a, dx, fa, da, D0, ks, led, e, _⟩ := h; rw [e]; rfl) fun cdv A outer s H vs Q E hr hsp => ?_
  obtain ⟨a, dx, fa, da, D0, ks, led, rfl, ha, hd, knd, ksh, hq⟩ := hsp
  have nd := scVNames.nd
  have hu := hu_of hr
  refine ⟨_, (pss_one (ps_ret (pe_lock (pe_dc (own := [("name", 1)]) (tt := tYes) (g := gName 1) (tk := tVar 1) (tv := tDGet (tFld K (tVar 0) "_names") (tVar 1)) rfl nd (pi_keys (pe_fld (pv 0) rfl)) (blkOk_by (N := ["self", "name"]) (sc := defScope sVNames) (by decide +kernel)) (fun _ _ _ _ _ => pg_name (i := 1) nd rfl (Or.inl rfl)) (fun _ _ _ _ _ => pts_nil) (fun _ _ _ _ _ => pv 1) (fun _ _ _ _ _ => pe_dget hu (pe_fld (pv 0) rfl) (pv 1) (fun _ _ => rfl)))))), ?_⟩
  refine ⟨da, _, hd, trivial, fun od => ?_⟩
  have oL : upd H da (.frz od (.dK (vN ks led))) da = some (.frz od (.dK (vN ks led))) := upd_same
  have na : a ≠ da := fun z => by rw [z, hd] at ha; cases ha
  have ha' : upd H da (.frz od (.dK (vN ks led))) a = some (.ins C dx (vF fa da)) := by rw [upd_ne na]; exact ha
  refine ⟨_, rfl, a, C, dx, _, _, rfl, ha', T.cl, T.nN, rfl, da, od, rfl, .inl ⟨_, oL, ?_⟩⟩
  refine dc_gen (Q := fun D H' => H' da = some (.frz od (.dK (vN ks led))) ∧ Q (.ref D) (upd H' da (.dK (vN ks led)))) (vN ks led) (by show (dkv ks _).length < _; rw [dkv_len]; omega) (dkv_nd knd) (fun j H' s lt => ⟨s _ _ oL, lt⟩) (fun H' s => ⟨s _ _ oL, Nat.le_refl _⟩) ?_ ?_
  · rintro j v k z H5 H6 Cm Nm ekv s5 ⟨rfl, k2, x2, ek2, rfl⟩ yes2
    rw [ekv] at ek2
    cases ek2
    obtain ⟨y, ey, rfl, rfl⟩ := dkv_at ekv
    have dg : DGet H6 da (kV (Sum.inr y)) (valV (vN ks led) (Sum.inr y)) := .inl ⟨_, Sum.inr y, .inr ⟨od, s5 _ _ oL⟩, rfl, rfl⟩
    unfold vN at dg
    rw [dkv_val knd (List.mem_of_getElem? ey)] at dg
    refine ⟨rfl, ?_⟩
    exact ⟨_, rfl, _, rfl, _, _, _, _, _, rfl, s5 _ _ ha', T.cl, T.nN, rfl, _, rfl, da, _, rfl, dg, yes2 _ (Same.refl _)⟩
  · intro H2 D2 nD oD s2
    obtain ⟨b1, s02⟩ := lock_off hd s2
    have nD1 : H D2 = none := by
      by_cases e : D2 = da
      · rw [e, oL] at nD; cases nD
      · rw [upd_ne e] at nD; exact nD
    refine ⟨b1, hq _ _ nD1 ?_ s02⟩
    rw [upd_ne (fun z => by rw [z, oL] at nD; cases nD)]
    exact oD
end
end L2.TB
/-! a view's methods where they refuse -/
namespace L2.TB
open PySem PySem.Spec PyProof.Rows LamX MK
/-- found that refuses its plan, or answers that lack something -/
def spFoR (w : World) (K : PySem.W.Frag) (RF : Hp → Addr → Fd → Prop) (CP CA : Addr) : Sp := fun vs H Q E => ∃ (a b : Addr) (D : Fd) (known : List Str) (x : Str) (v y : V) (po : Option (List En × List (Bool × Bool))), vs = [.ref a, .ref b, .str x, v, y] ∧ AskF RF H a b D known x ∧ PlTh w K H v po ∧
  (((decide (TellsD D known x) && planB (lotD D known x) po) = false ∧ Flies CP "thing" v H E) ∨ ((decide (TellsD D known x) && planB (lotD D known x) po) = true ∧ ∃ o, RowTh K H y o ∧ lackB known o = true ∧ Flies CA "thing" y H E))
section
variable {P : Program} {w : World} {K : PySem.W.Frag} {mg : Str → Option Value} {base : Heap} {f C CK CQ CP CA fM fP fL aF aL aO aK aA aB : Addr} {fd fdP fdL : FuncData} {RF : Hp → Addr → Fd → Prop} {kP : Nat}
theorem ok_vToldR (VM : VwM P w K mg base C CK CQ fM aF aL aO aK aA aB) (F : Fun K "is_told" "View.is_told" sVIsTold f fd) : FnOk P w K mg base (L2.CX P w) 5 f fd ["self", "known", "asked"] (spRefV 0 K C CK CQ) := by
  obtain ⟨fdB, FB⟩ := VM.Ck.CB
  have GB := ok_ckBD VM.Ck VM.EK VM.EQ FB
  have bB := FB.binds (ps := ["names", "known", "asked"]) fun _ _ _ _ _ _ us hl => match us, hl with | [_, _, _], _ => rfl
  refine F.okX scVTold (fun vs H Q E h => by obtain ⟨a, dx, fa, da, ns, v, x, r, more, e, l, _⟩ := h; rw [e]; simp [l]) fun cdv A outer s H vs Q E hr hsp => ?_
  obtain ⟨a, dx, fa, da, ns, v, x, r, more, rfl, l, ha, hn, hB, hf⟩ := hsp
  obtain rfl := List.length_eq_zero_iff.mp l
  refine ⟨_, pss_cons (ps_expr (pe_callS GB hr rfl VM.Ck.gCB FB.kp bB (fun σ => passAt (takes_of rfl rfl rfl rfl) σ) (pa_cons (pe_fld (pv 0) rfl) (pa_cons (pv 1) (pa_cons (pv 2) pa_nil))))) pss_never, ?_⟩
  refine ⟨_, rfl, _, _, _, _, _, rfl, ha, VM.T.cl, VM.T.nN, rfl, _, rfl, _, rfl, da, ns, v, x, r, rfl, hn, hB, ?_⟩
  rcases hf with ⟨i, e, hf⟩ | ⟨e, hb, hf⟩
  · exact .inl ⟨i, e, hf⟩
  · exact .inr ⟨e, .inr ⟨hb, hf⟩⟩
theorem ok_vPlanR (VM : VwM P w K mg base C CK CQ fM aF aL aO aK aA aB) (F : Fun K "plan" "View.plan" sVPlan f fd) : FnOk P w K mg base (L2.CX P w) 5 f fd ["self", "known", "asked"] (spRefV 0 K C CK CQ) := by
  obtain ⟨fdB, FB⟩ := VM.Ck.CB
  have GB := ok_ckBD VM.Ck VM.EK VM.EQ FB
  have bB := FB.binds (ps := ["names", "known", "asked"]) fun _ _ _ _ _ _ us hl => match us, hl with | [_, _, _], _ => rfl
  refine F.okX scVPlan (fun vs H Q E h => by obtain ⟨a, dx, fa, da, ns, v, x, r, more, e, l, _⟩ := h; rw [e]; simp [l]) fun cdv A outer s H vs Q E hr hsp => ?_
  obtain ⟨a, dx, fa, da, ns, v, x, r, more, rfl, l, ha, hn, hB, hf⟩ := hsp
  obtain rfl := List.length_eq_zero_iff.mp l
  refine ⟨_, pss_cons (ps_expr (pe_callS GB hr rfl VM.Ck.gCB FB.kp bB (fun σ => passAt (takes_of rfl rfl rfl rfl) σ) (pa_cons (pe_fld (pv 0) rfl) (pa_cons (pv 1) (pa_cons (pv 2) pa_nil))))) pss_never, ?_⟩
  refine ⟨_, rfl, _, _, _, _, _, rfl, ha, VM.T.cl, VM.T.nN, rfl, _, rfl, _, rfl, da, ns, v, x, r, rfl, hn, hB, ?_⟩
  rcases hf with ⟨i, e, hf⟩ | ⟨e, hb, hf⟩
  · exact .inl ⟨i, e, hf⟩
  · exact .inr ⟨e, .inr ⟨hb, hf⟩⟩
theorem ok_vApartR (VM : VwM P w K mg base C CK CQ fM aF aL aO aK aA aB) (F : Fun K "apart" "View.apart" sVApart f fd) : FnOk P w K mg base (L2.CX P w) 5 f fd ["self", "known", "asked"] (spRefV 0 K C CK CQ) := by
  obtain ⟨fdB, FB⟩ := VM.Ck.CB
  have GB := ok_ckBD VM.Ck VM.EK VM.EQ FB
  have bB := FB.binds (ps := ["names", "known", "asked"]) fun _ _ _ _ _ _ us hl => match us, hl with | [_, _, _], _ => rfl
  refine F.okX scVApart (fun vs H Q E h => by obtain ⟨a, dx, fa, da, ns, v, x, r, more, e, l, _⟩ := h; rw [e]; simp [l]) fun cdv A outer s H vs Q E hr hsp => ?_
  obtain ⟨a, dx, fa, da, ns, v, x, r, more, rfl, l, ha, hn, hB, hf⟩ := hsp
  obtain rfl := List.length_eq_zero_iff.mp l
  refine ⟨_, pss_cons (ps_expr (pe_callS GB hr rfl VM.Ck.gCB FB.kp bB (fun σ => passAt (takes_of rfl rfl rfl rfl) σ) (pa_cons (pe_fld (pv 0) rfl) (pa_cons (pv 1) (pa_cons (pv 2) pa_nil))))) pss_never, ?_⟩
  refine ⟨_, rfl, _, _, _, _, _, rfl, ha, VM.T.cl, VM.T.nN, rfl, _, rfl, _, rfl, da, ns, v, x, r, rfl, hn, hB, ?_⟩
  rcases hf with ⟨i, e, hf⟩ | ⟨e, hb, hf⟩
  · exact .inl ⟨i, e, hf⟩
  · exact .inr ⟨e, .inr ⟨hb, hf⟩⟩
theorem ok_vFoR (VM : VwM P w K mg base C CK CQ fM aF aL aO aK aA aB) (F : Fun K "found" "View.found" sVFound f fd) (mP : Meth K C "is_plan" fP) (bP : Binds K fdP ["self", "known", "asked", "thing"] []) (GP : FnOk P w K mg base (L2.CX P w) kP fP fdP ["self", "known", "asked", "thing"] (spIp w K (RV C RF))) (h5 : 5 ≤ kP) (RL : FRel C (RV C RF))
    (FK : Fun K "check_lacking" "check_lacking" sCkLack fL fdL) (gK : mg "check_lacking" = some (.ref fL)) (GK : FnOk P w K mg base (L2.CX P w) 3 fL fdL ["known", "answers"] (spLackR K CA)) (EP : ErrF P w K mg base "BadPlan" CP "thing") :
    FnOk P w K mg base (L2.CX P w) (kP + 1) f fd ["self", "known", "asked", "plan", "answers"] (spFoR w K (RV C RF) CP CA) := by
  have bK := FK.binds (ps := ["known", "answers"]) fun _ _ _ _ _ _ us hl => match us, hl with | [_, _], _ => rfl
  refine F.okX scVFound (fun vs H Q E h => by obtain ⟨a, b, D, known, x, v, y, po, e, _⟩ := h; rw [e]; rfl) fun cdv A outer s H vs Q E hr hsp => ?_
  obtain ⟨a, b, D, known, x, v, y, po, rfl, ask, pt, h⟩ := hsp
  refine ⟨_, pss_cons (ps_if (pt_not (pt_val (pe_meth (pv 0) VM.T.cl mP GP hr bP .nil (passes (takes_of rfl rfl rfl rfl)) (pa_cons (pv 1) (pa_cons (pv 2) (pa_cons (pv 3) pa_nil)))))) (pss_one (ps_raiseE rfl (takes_of rfl rfl rfl rfl) EP (hr.mono (by omega)) rfl (pv 3))) pss_nil)
    (pss_cons (ps_expr (pe_callS GK (hr.mono (by omega)) rfl gK FK.kp bK (fun σ => passAt (takes_of rfl rfl rfl rfl) σ) (pa_cons (pv 1) (pa_cons (pv 4) pa_nil)))) pss_never), ?_⟩
  obtain ⟨dx, fs, ha, no⟩ := RL.ins ask.r
  refine ⟨_, rfl, a, dx, _, rfl, ha, no _ (by simp [mths]), _, rfl, _, rfl, _, rfl, a, b, D, known, x, v, po, rfl, ask, pt, fun H1 s1 => ⟨_, rfl, ?_⟩⟩
  rcases h with ⟨e, hf⟩ | ⟨e, o, R, lb, hf⟩
  · rw [e]
    exact iteT ⟨_, rfl, (hf.same s1).up EP⟩
  · rw [e]
    refine iteF ?_
    have klen := nodup_sub ask.nd ask.sub
    have ksh := (RL.ok ask.r).sh
    exact ⟨_, rfl, _, rfl, b, known, y, o, rfl, .inl (s1 _ _ ask.k), by omega, R.same s1, fun _ => hf.same s1, fun z => by rw [lb] at z; cases z⟩
end
end L2.TB
/-! a view made, and what is refused -/
namespace L2.TB
open PySem PySem.Spec PyProof.Rows LamX MK
theorem ty_lock {K : PySem.W.Frag} {H : Hp} {d : Addr} {od : Obj} {kvs : List (Key × V)} {v : V} {t : String} (h : TyX K H v (.type t)) (hd : H d = some (.dK kvs)) : TyX K (upd H d (.frz od (.dK kvs))) v (.type t) := by
  have ne : ∀ {b : Addr} {o : HO}, H b = some o → o ≠ .dK kvs → upd H d (.frz od (.dK kvs)) b = some o := fun e no => by
    rw [upd_ne (fun z => by rw [z, hd] at e; exact no (Option.some.inj e).symm)]; exact e
  generalize e : Value.type t = u at h
  cases h with
  | base b =>
    cases b with
    | non => exact .base .non
    | bl x => exact .base (.bl x)
    | int i => exact .base (.int i)
    | str x => exact .base (.str x)
    | flt x => exact .base (.flt x)
    | lst q => exact .base (.lst (ne q (fun z => by cases z)))
    | frz q => exact .base (.frz (ne q (fun z => by cases z)))
    | tup q => exact .base (.tup (ne q (fun z => by cases z)))
    | @dK a kvs2 q =>
      by_cases z : a = d
      · subst z; exact .fDict upd_same
      · exact .base (.dK (by rw [upd_ne z]; exact q))
    | dT q => exact .base (.dT (ne q (fun z => by cases z)))
    | ins q => cases e
  | byt b => exact .byt b
  | set q => exact .set (ne q (fun z => by cases z))
  | kList q c => exact .kList q c
  | kTuple q c => exact .kTuple q c
  | kDict q c => exact .kDict q c
  | fTuple q => exact .fTuple (ne q (fun z => by cases z))
  | fDict q => exact .fDict (ne q (fun z => by cases z))
def keyNm : Key → Bool
  | .inl _ => false
  | .inr x => nmB x
/-- a name and what it stands for: right | not -/
inductive EnV (K : PySem.W.Frag) (H : Hp) (ns : List Str) : Key × V → Bool → Prop
  | key {k : Key} {v : V} (h : keyNm k = false) : EnV K H ns (k, v) false
  | str {k : Key} {x : Str} (h : keyNm k = true) : EnV K H ns (k, .str x) (decide (x ∈ ns))
  | no {k : Key} {v : V} (h : keyNm k = true) (n : NoStr K H v) : EnV K H ns (k, v) false
/-- a dict of names whose first wrong one stands at j | that is right -/
structure VwBad (K : PySem.W.Frag) (H : Hp) (ns : List Str) (d : Addr) (kvs : List (Key × V)) (j : Nat) : Prop where
  o : H d = some (.dK kvs)
  nd : (kvs.map (·.1)).Nodup
  sh : kvs.length < 1000
  few : ∀ kv ∈ kvs, ∀ x, kv.1 = Sum.inr x → x.cps.toList.length < 1000
  good : ∀ (i : Nat) (kv : Key × V), i < j → kvs[i]? = some kv → EnV K H ns kv true
def spVI (K : PySem.W.Frag) (C CV : Addr) (RF : Hp → Addr → Fd → Prop) : Sp := fun vs H Q E => ∃ (p fa dx : Addr) (D0 : Fd) (h : V), vs = [.ref p, .ref fa, h] ∧ H p = some (.ins C dx []) ∧ RF H fa D0 ∧ 
  (((∃ t : String, TyX K H h (.type t) ∧ kitB t "dict" = some false) ∧ Flies CV "name" .non H E) ∨
   (∃ d, h = .ref d ∧ H d = some (.dK []) ∧ Flies CV "name" .non H E) ∨
   (∃ (d : Addr) (kvs : List (Key × V)) (j : Nat) (k : Key) (v : V), h = .ref d ∧ VwBad K H D0.ns d kvs j ∧ kvs[j]? = some (k, v) ∧ EnV K H D0.ns (k, v) false ∧ Flies CV "name" (kV k) H E) ∨
   (∃ (d : Addr) (ks : List Str) (led : Str → Str), h = .ref d ∧ H d = some (.dK (vN ks led)) ∧ ks.Nodup ∧ ks ≠ [] ∧ (∀ x ∈ ks, NmOk x) ∧ (∀ x ∈ ks, led x ∈ D0.ns) ∧ ks.length < 100 ∧
     ∀ H' da, H da = none → H' p = some (.ins C dx (vF fa da)) → H' da = some (.dK (vN ks led)) → (∀ b o, b ≠ p → H b = some o → H' b = some o) → Q .non H'))
abbrev NVi : List Str := ["self", "field", "names", "questions", "name"]
theorem scVInit : FnScope NVi ["self", "field", "names"] (defScope sVInit) := ⟨rfl, rfl, rfl, by decide +kernel, rfl, by decide +kernel, by decide +kernel⟩
section
variable {P : Program} {w : World} {K : PySem.W.Frag} {mg : Str → Option Value} {base : Heap} {f C CF fN fO fQ CV : Addr} {fd fdN fdO fdQ : FuncData} {RF : Hp → Addr → Fd → Prop} {kQ : Nat}
theorem key_no (K : PySem.W.Frag) (H : Hp) (i : Int) : NoStr K H (kV (Sum.inl i)) := ⟨_, .base (.int i), by decide +kernel⟩
theorem ok_vInit (F : Fun K "__init__" "View.__init__" sVInit f fd) (T : VwC K C) (RL : FRel CF RF) (cF : Cls K CF) (mQ : Meth K CF "questions" fQ) (bQ : Binds K fdQ ["self"] []) (GQ : FnOk P w K mg base CX0 1 fQ fdQ ["self"] (spQF RF))
    (EV : ErrF P w K mg base "BadView" CV "name") (FN : Fun K "is_name" "is_name" sIsName fN fdN) (gN : mg "is_name" = some (.ref fN)) (GN : FnOk P w K mg base CX0 1 fN fdN ["thing"] (spIsNameG K)) (FO : Fun K "is_one_of" "is_one_of" sIsOne fO fdO) (gO : mg "is_one_of" = some (.ref fO)) (GO : FnOk P w K mg base CX0 1 fO fdO ["names", "thing"] (spIsOneG K))
    (nI : mg "isinstance" = none) (nD : mg "dict" = none) (nL : mg "len" = none) : FnOk P w K mg base (L2.CX P w) 3 f fd ["self", "field", "names"] (spVI K C CV RF) := by
  have bN := FN.binds (ps := ["thing"]) fun _ _ _ _ _ _ us hl => match us, hl with | [_], _ => rfl
  have bO := FO.binds (ps := ["names", "thing"]) fun _ _ _ _ _ _ us hl => match us, hl with | [_, _], _ => rfl
  refine F.okX scVInit (fun vs H Q E h => by obtain ⟨p, fa, dx, D0, h, e, _⟩ := h; rw [e]; rfl) fun cdv A outer s H vs Q E hr hsp => ?_
  obtain ⟨p, fa, dx, D0, h, rfl, hp, r0, hsp⟩ := hsp
  have nd := scVInit.nd
  have hu := hu_of hr
  rcases hsp with ⟨⟨t, ty, h1⟩, hf⟩ | ⟨d, rfl, hd, hf⟩ | hsp
  · refine ⟨_, pss_cons (ps_if (PW.pt (pw_or (pt_not (pt_val (pe_callB (r := rIsi K) call_isi rfl nI boot_isi (pa_cons (pv 2) (pa_cons (pe_bltn (v := .ty "dict") rfl nD boot_dict' rfl) pa_nil)))))
        (pw_or1 (pt_cmpR op_eq (pe_callB call_lenD rfl nL boot_len (pa_cons (pv 2) pa_nil)) pe_int (nomark _))))) (pss_one (ps_raiseE rfl (takes_of rfl rfl rfl rfl) EV (hr.mono (by decide)) rfl pe_non)) pss_nil) pss_never, ?_⟩
    exact ⟨_, rfl, _, _, _, _, false, rfl, .ty _, ty, kit_ty h1, _, rfl, iteT (iteT (hf.up EV))⟩
  · refine ⟨_, pss_cons (ps_if (PW.pt (pw_or (pt_not (pt_val (pe_callB (r := rIsi K) call_isi rfl nI boot_isi (pa_cons (pv 2) (pa_cons (pe_bltn (v := .ty "dict") rfl nD boot_dict' rfl) pa_nil)))))
        (pw_or1 (pt_cmpR op_eq (pe_callB call_lenD rfl nL boot_len (pa_cons (pv 2) pa_nil)) pe_int (nomark _))))) (pss_one (ps_raiseE rfl (takes_of rfl rfl rfl rfl) EV (hr.mono (by decide)) rfl pe_non)) pss_nil) pss_never, ?_⟩
    refine ⟨_, rfl, _, _, _, _, true, rfl, .ty _, .base (.dK hd), kit_ty (by decide +kernel), _, rfl, iteF ?_⟩
    refine ⟨_, rfl, d, _, rfl, hd, rfl, _, rfl, ?_⟩
    rw [dec_int2]
    exact iteT (hf.up EV)
  · obtain ⟨d, kvs, j, rfl, ne, B, hq⟩ : ∃ (d : Addr) (kvs : List (Key × V)) (j : Nat), h = .ref d ∧ kvs ≠ [] ∧ VwBad K H D0.ns d kvs j ∧ ((∃ k v, kvs[j]? = some (k, v) ∧ EnV K H D0.ns (k, v) false ∧ Flies CV "name" (kV k) H E) ∨
        (j = kvs.length ∧ ∀ H' da, H da = none → H' p = some (.ins C dx (vF fa da)) → H' da = some (.dK kvs) → (∀ b o, b ≠ p → H b = some o → H' b = some o) → Q .non H')) := by
      rcases hsp with ⟨d, kvs, j, k, v, e, B, ek, en, hf⟩ | ⟨d, ks, led, e, hd, knd, kne, kok, kli, ksh, hq⟩
      · exact ⟨d, kvs, j, e, (fun z => by rw [z] at ek; cases ek), B, .inl ⟨k, v, ek, en, hf⟩⟩
      · refine ⟨d, vN ks led, (vN ks led).length, e, fun z => kne ?_, ⟨hd, dkv_nd knd, by show (dkv ks _).length < _; rw [dkv_len]; omega, fun kv hk x ex => ?_, fun i kv lt ei => ?_⟩, .inr ⟨rfl, hq⟩⟩
        · have := congrArg List.length z
          unfold vN at this
          rw [dkv_len] at this
          exact List.length_eq_zero_iff.mp this
        · obtain ⟨y, hy, rfl⟩ := List.mem_map.mp hk
          cases ex
          have := (kok x hy).2.1
          omega
        · obtain ⟨y, ey, e1, e2⟩ := dkv_at (k := kv.1) (v := kv.2) ei
          have yin := List.mem_of_getElem? ey
          have z : EnV K H D0.ns (Sum.inr y, V.str (led y)) (decide (led y ∈ D0.ns)) := .str (nmB_ok (kok y yin))
          rw [decide_eq_true (kli y yin)] at z
          have e3 : kv = (Sum.inr y, V.str (led y)) := Prod.ext e1 e2
          rw [e3]
          exact z
    have hd := B.o
    have tk0 : Takes (cxOf (L2.CX P w) P w K mg base NVi "View.__init__" (defScope sVInit) f cdv A outer s H E) (fun cls dd σ H' => E cls dd H') := takes_of rfl rfl rfl rfl
    have hn : ∀ o' u', H d ≠ some (.frz o' u') := fun o' u' z => by rw [hd] at z; cases z
    refine ⟨_, pss_cons (ps_if (PW.pt (pw_or (pt_not (pt_val (pe_callB (r := rIsi K) call_isi rfl nI boot_isi (pa_cons (pv 2) (pa_cons (pe_bltn (v := .ty "dict") rfl nD boot_dict' rfl) pa_nil)))))
        (pw_or1 (pt_cmpR op_eq (pe_callB call_lenD rfl nL boot_len (pa_cons (pv 2) pa_nil)) pe_int (nomark _))))) (pss_one ps_never) pss_nil)
      (pss_cons (ps_set (i := 3) nd rfl (Or.inl rfl) (pe_meth0 (pv 1) cF mQ GQ (hr.mono (by decide)) bQ .nil pass0))
      (pss_cons (ps_lock (ps_for (passes_of rfl) rfl (pi_keys (pv 2)) (pg_name (i := 4) nd rfl (Or.inl rfl))
        (pss_one (ps_if (PW.pt (pw_or (pt_not (pt_val (pe_call GN (hr.mono (by decide)) rfl gN FN.kp bN .nil pass0 (pa_cons (pv 4) pa_nil))))
          (pw_or1 (pt_not (pt_val (pe_call GO (hr.mono (by decide)) rfl gO FO.kp bO .nil pass0 (pa_cons (pv 3) (pa_cons (pe_dget hu (pv 2) (pv 4) (fun _ _ => rfl)) pa_nil)))))))) (pss_one (ps_raiseE rfl (takes_unlock tk0 (d := d) (u := .dK kvs) hn) EV (hr.mono (by decide)) rfl (pv 4))) pss_nil))))
      (pss_cons (ps_fld (pv 0) (pv 1) rfl)
      (pss_one (ps_fld (pv 0) (pe_lock (pe_dc (own := [("name", 4)]) (tt := tYes) (g := gName 4) (tk := tVar 4) (tv := tDGet (tVar 2) (tVar 4)) rfl nd (pi_keys (pv 2)) (blkOk_by (N := NVi) (sc := defScope sVInit) (by decide +kernel)) (fun _ _ _ _ _ => pg_name (i := 4) nd rfl (Or.inl rfl)) (fun _ _ _ _ _ => pts_nil) (fun _ _ _ _ _ => pv 4) (fun _ _ _ _ _ => pe_dget hu (pv 2) (pv 4) (fun _ _ => rfl)))) rfl))))), ?_⟩
    refine ⟨_, rfl, _, _, _, _, true, rfl, .ty _, .base (.dK hd), kit_ty (by decide +kernel), _, rfl, iteF ?_⟩
    refine ⟨_, rfl, d, _, rfl, hd, rfl, _, rfl, ?_⟩
    have lp : 0 < kvs.length := List.length_pos_iff.mpr ne
    rw [dec_int2, decide_eq_false (by omega : ¬ ((kvs.length : Nat) : Int) = 0)]
    refine iteF ?_
    obtain ⟨dx0, fs0, hf0, no0⟩ := RL.ins r0
    refine ⟨_, rfl, fa, dx0, fs0, rfl, hf0, no0 _ (by simp [mths]), fa, D0, rfl, r0, fun Hq c nc hc sq => ?_⟩
    have hdq := sq _ _ hd
    have dc : d ≠ c := fun z => by rw [z, nc] at hd; cases hd
    refine ⟨d, _, hdq, trivial, fun od => ⟨_, rfl, d, od, rfl, .inl ⟨_, upd_same, for_it walk_keys (fun i σ H' => Same (upd Hq d (.frz od (.dK kvs))) H' ∧ i ≤ j ∧ ∃ s4, σ = [some (.ref p), some (.ref fa), some (.ref d), some (.ref c), s4]) ⟨Same.refl _, Nat.zero_le _, _, rfl⟩ (fun i σ H' _ h => h.1 _ _ upd_same) ?_ ?_⟩⟩⟩
    · rintro i y σ H2 _ lt ⟨s2, le, s2', rfl⟩ ⟨rfl, k, v, ek, rfl⟩
      have oc : ∀ {H3 : Hp}, Same (upd Hq d (.frz od (.dK kvs))) H3 → H3 c = some (.lst (D0.ns.map V.str)) := fun s => s _ _ (by rw [upd_ne (Ne.symm dc)]; exact hc)
      have dg : ∀ {H3 : Hp}, Same (upd Hq d (.frz od (.dK kvs))) H3 → DGet H3 d (kV k) (some v) := fun {H3} s => by
        have z : DGet H3 d (kV k) (valV kvs k) := .inl ⟨kvs, k, .inr ⟨od, s _ _ upd_same⟩, rfl, rfl⟩
        rw [valV_at B.nd ek] at z
        exact z
      have noL : ∀ {H3 : Hp} {v : V}, NoStr K H v → Same (upd Hq d (.frz od (.dK kvs))) H3 → NoStr K H3 v := fun n s => by
        obtain ⟨t, a, b⟩ := n
        exact ⟨t, ty_same (ty_lock (ty_same a sq) hdq) s, b⟩
      have fine : EnV K H D0.ns (k, v) true → ∃ x y, k = Sum.inr x ∧ nmB x = true ∧ v = .str y ∧ y ∈ D0.ns := fun q => by
        generalize e1 : (k, v) = kv at q
        generalize e2 : true = b at q
        cases q with
        | key h => cases e2
        | no h n => cases e2
        | @str k' x h =>
          cases e1
          cases k with
          | inl z => cases h
          | inr y => exact ⟨y, x, rfl, h.trans e2, rfl, of_decide_eq_true e2.symm⟩
      by_cases hj : i = j
      · rcases hq with ⟨k', v', ek', en, hf⟩ | ⟨e, _⟩
        · rw [← hj, ek] at ek'
          cases ek'
          have bad : (keyNm k = false) ∨ ∃ x, k = Sum.inr x ∧ nmB x = true ∧ ((∃ y, v = .str y ∧ y ∉ D0.ns) ∨ NoStr K H v) := by
            generalize e1 : (k, v) = kv at en
            generalize e2 : false = b at en
            cases en with
            | key h => cases e1; exact .inl h
            | @str k' x h =>
              cases e1
              cases k with
              | inl z => cases h
              | inr y => exact .inr ⟨y, rfl, h, .inl ⟨x, rfl, of_decide_eq_false e2.symm⟩⟩
            | @no k' v' h n =>
              cases e1
              cases k with
              | inl z => cases h
              | inr y => exact .inr ⟨y, rfl, h, .inr n⟩
          have hfq := hf.same sq
          rcases bad with hk | ⟨x, rfl, nx, hb⟩
          · cases k with
            | inl z => exact ⟨_, rfl, _, rfl, .inr ⟨key_no K _ z, _, rfl, iteT (iteT ⟨_, rfl, hfq.unlock EV hdq s2⟩)⟩⟩
            | inr x =>
              refine ⟨_, rfl, _, rfl, .inl ⟨x, rfl, B.few _ (List.mem_of_getElem? ek) x rfl, fun H3 s3 => ⟨_, rfl, ?_⟩⟩⟩
              rw [show nmB x = false from hk]
              exact iteT (iteT ⟨_, rfl, hfq.unlock EV hdq (s2.trans s3)⟩)
          · refine ⟨_, rfl, _, rfl, .inl ⟨x, rfl, B.few _ (List.mem_of_getElem? ek) x rfl, fun H3 s3 => ⟨_, rfl, ?_⟩⟩⟩
            rw [nx]
            refine iteF ?_
            have s23 := s2.trans s3
            refine ⟨_, rfl, _, rfl, _, rfl, d, _, rfl, dg s23, c, D0.ns, v, rfl, SqL.of (oc s23), ?_⟩
            rcases hb with ⟨y, rfl, no⟩ | n
            · refine .inl ⟨y, rfl, _, rfl, ?_⟩
              rw [decide_eq_false no]
              exact iteT ⟨_, rfl, hfq.unlock EV hdq s23⟩
            · exact .inr ⟨noL n s23, _, rfl, iteT ⟨_, rfl, hfq.unlock EV hdq s23⟩⟩
        · omega
      · obtain ⟨x, y, rfl, nx, rfl, yin⟩ := fine (B.good i _ (by omega) ek)
        refine ⟨_, rfl, _, rfl, .inl ⟨x, rfl, B.few _ (List.mem_of_getElem? ek) x rfl, fun H3 s3 => ⟨_, rfl, ?_⟩⟩⟩
        rw [nx]
        refine iteF ?_
        have s23 := s2.trans s3
        refine ⟨_, rfl, _, rfl, _, rfl, d, _, rfl, dg s23, c, D0.ns, .str y, rfl, SqL.of (oc s23), .inl ⟨y, rfl, _, rfl, ?_⟩⟩
        rw [decide_eq_true yin]
        exact iteF ⟨s23, by omega, _, rfl⟩
    · rintro σ H2 ⟨s2, le, s2', rfl⟩
      obtain ⟨b1, s02⟩ := lock_off hdq s2
      rcases hq with ⟨k', v', ek', en, hf⟩ | ⟨e, hq⟩
      · have := (List.getElem?_eq_some_iff.mp ek').1
        omega
      · refine ⟨b1, ?_⟩
        have s3 := sq.trans s02
        generalize upd H2 d (.dK kvs) = H3 at s02 s3
        have hp3 := s3 _ _ hp
        refine ⟨_, rfl, _, rfl, p, C, dx, _, rfl, hp3, T.cl, T.nF, by decide, ?_⟩
        have hpu : upd H3 p (.ins C dx (putF "_field" (.ref fa) [])) p = some (.ins C dx (putF "_field" (.ref fa) [])) := upd_same
        have s3p : ∀ b o, b ≠ p → H3 b = some o → upd H3 p (.ins C dx (putF "_field" (.ref fa) [])) b = some o := fun b o nb e => by rw [upd_ne nb]; exact e
        have n3p : ∀ b, upd H3 p (.ins C dx (putF "_field" (.ref fa) [])) b = none → H3 b = none := fun b e => by
          by_cases z : b = p
          · rw [z, upd_same] at e; cases e
          · rw [upd_ne z] at e; exact e
        generalize upd H3 p (.ins C dx (putF "_field" (.ref fa) [])) = H4 at hpu s3p n3p
        have dp : d ≠ p := fun z => by rw [z, hp] at hd; cases hd
        have hd4 : H4 d = some (.dK kvs) := s3p _ _ dp (s3 _ _ hd)
        refine ⟨d, _, hd4, trivial, fun od2 => ?_⟩
        have oL : upd H4 d (.frz od2 (.dK kvs)) d = some (.frz od2 (.dK kvs)) := upd_same
        refine ⟨_, rfl, d, od2, rfl, .inl ⟨_, oL, ?_⟩⟩
        refine dc_gen (Q := fun D H' => H' d = some (.frz od2 (.dK kvs)) ∧ _) kvs (by have := B.sh; omega) B.nd (fun j H' s lt => ⟨s _ _ oL, lt⟩) (fun H' s => ⟨s _ _ oL, Nat.le_refl _⟩) ?_ ?_
        · rintro j v k z H5 H6 Cm Nm ekv s5 ⟨rfl, k2, x2, ek2, rfl⟩ yes2
          rw [ekv] at ek2
          cases ek2
          have dg : DGet H6 d (kV k) (valV kvs k) := .inl ⟨_, k, .inr ⟨od2, s5 _ _ oL⟩, rfl, rfl⟩
          rw [valV_at B.nd ekv] at dg
          refine ⟨rfl, ?_⟩
          exact ⟨_, rfl, _, rfl, _, rfl, d, _, rfl, dg, yes2 _ (Same.refl _)⟩
        · intro H5 da nD oD s5
          obtain ⟨b5, s45⟩ := lock_off hd4 s5
          refine ⟨b5, ?_⟩
          have nd4 : H4 da = none := by
            by_cases e : da = d
            · rw [e, oL] at nD; cases nD
            · rw [upd_ne e] at nD; exact nD
          have dad : da ≠ d := fun z => by rw [z, oL] at nD; cases nD
          have oD2 : upd H5 d (.dK kvs) da = some (.dK kvs) := by rw [upd_ne dad]; exact oD
          generalize upd H5 d (.dK kvs) = H6 at s45 oD2
          have dap : da ≠ p := fun z => by rw [z, hpu] at nd4; cases nd4
          refine ⟨_, rfl, p, C, dx, _, rfl, s45 _ _ hpu, T.cl, T.nN, (by show 1 < 1000; omega), hq _ da (s3.free (n3p _ nd4)) upd_same (by rw [upd_ne dap]; exact oD2) fun b o nb e => ?_⟩
          rw [upd_ne nb]
          exact s45 _ _ (s3p _ _ nb (s3 _ _ e))
end
end L2.TB
namespace L2.TB
open PySem PySem.Spec PyProof.Rows
/-! == and != of two of one class with an own __eq__ -/
section
variable {X : Cx} {CX : CXT} {k : Nat} {f C : Addr} {fd : FuncData} {ps : List Str} {sp : Sp} {E : XK}
def rEqI (C : Addr) (sp : Sp) (E : XK) (g : Bool → Bool) : R2 := fun x y H Q => ∃ a b dx dy fs gs, x = .ref a ∧ y = .ref b ∧ H a = some (.ins C dx fs) ∧ H b = some (.ins C dy gs) ∧ sp [.ref a, .ref b] H (fun v H' => ∃ t, v = .bl t ∧ Q (.bl (g t)) H') E
theorem rel_ref {v : V} {c : Addr} {u : Value} (e : v = .ref c) (r : RelV v u) : u = .ref c := by
  subst e
  exact r
theorem rel_bl {v : V} {t : Bool} {u : Value} (e : v = .bl t) (r : RelV v u) : u = .bool t := by
  subst e
  exact r
/-- the method's call -/
theorem call_eqI (F : FnOk X.prog X.w X.K X.mg X.base CX k f fd ps sp) {A : Around} (hr : Room k A) (hA : A.frames = X.A.frames) (hb : Binds X.K fd ps []) (hx : Passes CX X E) {pins : List (Addr × Obj)} {σ : St} {H : Hp} {s : Shared} (I : Inv X pins σ H s) {a b : Addr} {R : Bool → Hp → Prop}
    (hsp : sp [.ref a, .ref b] H (fun v H' => ∃ t, v = .bl t ∧ R t H') E) {Q : Value → Shared → Prop} (fin : ∀ t H' s', Inv X pins σ H' s' → R t H' → Q (.bool t) s') :
    wpAny (model X.prog X.w) A (call (.ref f) [.ref a, .ref b]) Q X.xe s := by
  have e0 : Env0 X.prog X.w X.K X.mg X.base A X.stack s H := by
    have z := I.env0
    exact ⟨by rw [hA]; exact z.frames, z.mod, z.bs, z.bsz, z.funs, z.frf, z.hok, z.bare⟩
  have many := F.len _ _ _ _ hsp
  have two : Vals [V.ref a, V.ref b] [Value.ref a, Value.ref b] := .cons rfl (.cons rfl .nil)
  have ok := F.run A X.stack s H ⟨[.ref a, .ref b], []⟩ [.ref a, .ref b] [.ref a, .ref b] _ E hr e0 (by simpa using hb s [.ref a, .ref b] I.kIn (by simpa using many)) two hsp
  refine wpAny_call (codeAny_mono ok fun q s' got => ?_)
  cases q with
  | error e => exact hx pins σ H s e s' I got
  | ok fl =>
    cases fl with
    | next => exact got.elim
    | brk => exact got.elim
    | cont => exact got.elim
    | ret v =>
      obtain ⟨u, H', I', ru, t, et, q⟩ := I.after got
      have ev := rel_bl et ru
      subst ev
      exact fin t H' s' I' q
theorem op_eqI (F : FnOk X.prog X.w X.K X.mg X.base CX k f fd ps sp) (hr : Room k X.A) (hm : Meth X.K C "__eq__" f) (hb : Binds X.K fd ps []) (hx : Passes CX X E) : OpR X (compareOp .Eq) (rEqI C sp E id) := by
  intro pins s σ H x y v u Q I rx ry h
  obtain ⟨a, b, dx, dy, fs, gs, rfl, rfl, ha, hb', hsp⟩ := h
  have ev := rel_ref rfl rx
  have eu := rel_ref rfl ry
  subst ev eu
  obtain ⟨mA, JA, _⟩ := ins_get I.hok ha
  obtain ⟨mB, JB, _⟩ := ins_get I.hok hb'
  obtain ⟨od, LA, _⟩ := JA.look
  obtain ⟨od', LB, _⟩ := JB.look
  obtain ⟨m, hF⟩ := I.fr
  show wpAny _ _ (richCompare .Eq (.ref a) (.ref b)) _ _ _
  refine PySem.W.cmp_K (op := .Eq) (tb := .ref C) (by have := hr.un; omega) hF I.ok.mod.kin LA LB.type (by simp [PySem.W.notFirst]) hm.at_ hm.fn ?_
  exact call_eqI F hr rfl hb hx I hsp fun t H' s' I' q => ⟨.bl t, H', I', rfl, q⟩
/-- object's own != asks for == -/
theorem op_neI (G : FnOk X.prog X.w X.K X.mg X.base CX k f fd ps sp) (hr : Room (k + 2) X.A) (hm : Meth X.K C "__eq__" f) (hne : PySem.W.findIn X.K (.ref C) "__ne__" = some (some (.builtin "object.__ne__"))) (hob : PySem.W.mroIn X.K C (.type "object") = some true)
    (hb : Binds X.K fd ps []) (hx : Passes CX X E) : OpR X (compareOp .NotEq) (rEqI C sp E fun t => !t) := by
  intro pins s σ H x y v u Q I rx ry h
  obtain ⟨a, b, dx, dy, fs, gs, rfl, rfl, ha, hb', hsp⟩ := h
  have ev := rel_ref rfl rx
  have eu := rel_ref rfl ry
  subst ev eu
  obtain ⟨mA, JA, _⟩ := ins_get I.hok ha
  obtain ⟨mB, JB, _⟩ := ins_get I.hok hb'
  obtain ⟨od, LA, _⟩ := JA.look
  obtain ⟨od', LB, _⟩ := JB.look
  have Xs := I.kIn
  have hun := hr.un
  have low : X.A.units < cLine := by omega
  have low1 : X.A.in1.units < cLine := by
    have := (hr.in1).un
    omega
  have isO : PySem.W.subIn X.K (.ref C) (.type "object") = some true := hob
  -- the builtin's run
  have body : ∀ {Q' : Value → Shared → Prop}, (∀ t H' s', Inv X pins σ H' s' → Q (.bl (!t)) H' → Q' (.bool (!t)) s') → wpAny (model X.prog X.w) X.A (call (.builtin "object.__ne__") [.ref a, .ref b]) Q' X.xe s := by
    intro Q' fin
    have inner : ∀ {Q2 : Option Value → Shared → Prop}, (∀ t H' s', Inv X pins σ H' s' → Q (.bl (!t)) H' → Q2 (some (.bool t)) s') → wpAny (model X.prog X.w) X.A.in1 (callSpecialIfBound? (.ref a) "__eq__" [.ref b]) Q2 X.xe s := by
      intro Q2 fin2
      refine PySem.W.ifBound_K Xs LA hm.at_ hm.fn (call_eqI G (hr.in1.mono (by omega)) rfl hb hx I hsp fun t H' s' I' q => fin2 t H' s' I' q)
    refine wpAny_call (codeAny_call_builtin PySem.F.cmp_object.ne.plain PySem.F.cmpEntry_ne (PySem.W.check_slot PySem.F.cmpKind_ne PySem.F.cmpSplit_ne (LA.type.andThen (PySem.W.looks_subIn Xs isO)) (PySem.F.cmpArgs_ne _ _) ?_))
    unfold Builtin.«object.__ne__»
    repeat (first | with_reducible refine wpAny_cRoomFor low1 ?_ | with_reducible refine inner fun t H' s' I' q => ?_ | wp_step)
    exact fin t H' s' I' q
  have one : wpAny (model X.prog X.w) X.A (tryCompare (.ref a) "__ne__" (.ref b)) (fun r s' => ∃ v, r = some v ∧ EP X pins σ Q v s') X.xe s := by
    have told : wpAny (model X.prog X.w) X.A (call (.builtin "object.__ne__") ([.ref a] ++ [.ref b]) >>= fun v => pure (some v)) (fun r s' => ∃ t H', r = some (.bool (!t)) ∧ Inv X pins σ H' s' ∧ Q (.bl (!t)) H') X.xe s :=
      wpAny_bind (body fun t H' s' I' q => wpAny_pure ⟨t, H', rfl, I', q⟩)
    have asked : wpAny (model X.prog X.w) X.A (callSpecialIfBound? (.ref a) "__ne__" [.ref b]) (fun r s' => ∃ t H', r = some (.bool (!t)) ∧ Inv X pins σ H' s' ∧ Q (.bl (!t)) H') X.xe s := by
      simp only [callSpecialIfBound?, bindSpecialIfBound?]
      refine wpAny_holding (wpAny_bind (wpAny_bind (wpAny_bind (LA.type.here ((PySem.W.looks_findIn Xs hne).here (wpAny_bind (wpAny_askSetting (wpAny_ite ?_))))))))
      have bd := PySem.F.cmp_object.ne.bind (.ref a)
      split
      · rw [bd]
        exact wpAny_bind (wpAny_pure (wpAny_pure told))
      · rw [bd]
        exact wpAny_tryCatch (wpAny_bind (wpAny_pure (wpAny_pure told)))
    unfold tryCompare
    refine wpAny_bind (wpAny_mono asked (fun r s' z => ?_) fun _ _ e => e)
    obtain ⟨t, H', rfl, I', q⟩ := z
    exact wpAny_pure ⟨_, rfl, .bl (!t), H', I', rfl, q⟩
  show wpAny _ _ (richCompare .NotEq (.ref a) (.ref b)) _ _ _
  unfold richCompare
  simp only [oneThing_ref]
  refine wpAny_holding (wpAny_bind (wpAny_cRoomFor low (wpAny_bind (LA.type.here (wpAny_bind (LB.type.here ?_))))))
  simp only [bne_self_eq_false, Bool.false_eq_true, if_false]
  refine wpAny_bind (wpAny_pure (wpAny_bind (wpAny_mono one (fun r s' z => ?_) fun _ _ e => e)))
  obtain ⟨v, rfl, q⟩ := z
  exact wpAny_pure q
end
end L2.TB
namespace L2.TB
open PySem PySem.Spec PyProof.Rows
/-! an own == asked about a thing of another kind -/
section
variable {X : Cx} {CX : CXT} {k : Nat} {f C : Addr} {fd : FuncData} {ps : List Str} {sp : Sp} {E : XK}
def rEqO (K : PySem.W.Frag) (C : Addr) (sp : Sp) (E : XK) : R2 := fun x y H Q => ∃ a dx fs t, x = .ref a ∧ H a = some (.ins C dx fs) ∧ TyX K H y t ∧ PySem.W.notFirst K C t = true ∧ sp [.ref a, y] H (fun v H' => ∃ b, v = .bl b ∧ Q (.bl b) H') E
theorem op_eqO (G : FnOk X.prog X.w X.K X.mg X.base CX k f fd ps sp) (hr : Room k X.A) (hm : Meth X.K C "__eq__" f) (hb : Binds X.K fd ps []) (hx : Passes CX X E) : OpR X (compareOp .Eq) (rEqO X.K C sp E) := by
  intro pins s σ H x y v u Q I rx ry h
  obtain ⟨a, dx, fs, t, rfl, ha, ty, nf, hsp⟩ := h
  have ev := rel_ref rfl rx
  subst ev
  obtain ⟨mA, JA, _⟩ := ins_get I.hok ha
  obtain ⟨od, LA, _⟩ := JA.look
  obtain ⟨m, hF⟩ := I.fr
  obtain ⟨Pt, Z, pt, _⟩ := kit_of I ry ty
  show wpAny _ _ (richCompare .Eq (.ref a) u) _ _ _
  refine PySem.W.cmp_K (op := .Eq) (tb := t) (by have := hr.un; omega) hF I.ok.mod.kin LA (Z.ty _ _ I.kIn pt) nf hm.at_ hm.fn ?_
  have z := run_fn (us := [Value.ref a, u]) (vs := [V.ref a, y]) G hr hb .nil hx I (.cons rfl (.cons ry .nil)) (by simpa using hsp)
  refine wpAny_mono z (fun r s' got => ?_) fun _ _ q => q
  obtain ⟨v0, H', I', rt, qq⟩ := got
  rcases qq with ⟨et, qq⟩ | ⟨et, qq⟩
  · have er := rel_bl et rt
    subst er
    exact ⟨.bl false, H', I', rfl, qq⟩
  · have er := rel_bl et rt
    subst er
    exact ⟨.bl true, H', I', rfl, qq⟩
end
end L2.TB
/-! own equality of two tables, of two views -/
namespace L2.TB
open PySem PySem.Spec PyProof.Rows LamX MK
def spEqT (C : Addr) : Sp := fun vs H Q _ => ∃ (a b : Addr) (n1 n2 : List Str) (t1 t2 : List (List Int)), vs = [.ref a, .ref b] ∧ TabAt H C a n1 t1 ∧ TabAt H C b n2 t2 ∧ (∀ x ∈ n1, NmOk x) ∧ (∀ x ∈ n2, NmOk x) ∧ Q (.bl (decide (n1 = n2) && decide (t1 = t2))) H
theorem scEq : FnScope ["self", "other"] ["self", "other"] (defScope sEq) := ⟨rfl, rfl, rfl, by decide +kernel, rfl, by decide +kernel, by decide +kernel⟩
/-! pairs of names -/
def prD (q : Str × Str) : PyData := .tuple [.str q.1, .str q.2]
theorem prD_shape {q : Str × Str} (h1 : PyData.strOk q.1 = true) (h2 : PyData.strOk q.2 = true) : PyData.canLay0 (prD q) = true ∧ PyData.depth (prD q) = 1 := by
  unfold prD
  exact ⟨by simp [PyData.canLay0, PyData.canLayAll0, h1, h2], by simp [PyData.depth, PyData.depthAll]⟩
theorem prsD_shape : ∀ qs : List (Str × Str), (∀ q ∈ qs, PyData.strOk q.1 = true ∧ PyData.strOk q.2 = true) → PyData.canLayAll0 (qs.map prD) = true ∧ PyData.depthAll (qs.map prD) ≤ 1
  | [], _ => ⟨by simp [PyData.canLayAll0], by simp [PyData.depthAll]⟩
  | u :: us, h => by
    obtain ⟨h1, h2⟩ := prsD_shape us fun q hq => h q (List.mem_cons_of_mem _ hq)
    obtain ⟨g1, g2⟩ := prD_shape (h u (by simp)).1 (h u (by simp)).2
    refine ⟨by simp [PyData.canLayAll0, g1, h1], ?_⟩
    rw [List.map_cons, PyData.depthAll, g2]
    omega
theorem prsD_shaped (qs : List (Str × Str)) (h : ∀ q ∈ qs, PyData.strOk q.1 = true ∧ PyData.strOk q.2 = true) : SeqAt.shaped (.list (qs.map prD)) = true := by
  obtain ⟨h1, h2⟩ := prsD_shape qs h
  unfold SeqAt.shaped
  have d : PyData.depth (.list (qs.map prD)) ≤ 2 := by
    rw [PyData.depth]
    omega
  simp [PyData.canLay0, h1]
  omega
theorem prD_eqv (a b : Str × Str) : PyData.eqv (prD a) (prD b) = decide (a = b) := by
  obtain ⟨a1, a2⟩ := a
  obtain ⟨b1, b2⟩ := b
  unfold prD
  rw [PyData.eqv, PyData.eqvAll, PyData.eqvAll, PyData.eqvAll, PyData.eqv, PyData.eqv]
  by_cases h1 : a1 = b1
  · by_cases h2 : a2 = b2 <;> simp [h1, h2]
  · simp [h1]
theorem prsD_eqvAll : ∀ a b : List (Str × Str), PyData.eqvAll (a.map prD) (b.map prD) = decide (a = b)
  | [], [] => by simp [PyData.eqvAll]
  | [], _ :: _ => by simp [PyData.eqvAll]
  | _ :: _, [] => by simp [PyData.eqvAll]
  | x :: a, y :: b => by
    rw [List.map_cons, List.map_cons, PyData.eqvAll, prsD_eqvAll a b, prD_eqv]
    by_cases h1 : x = y
    · by_cases h2 : a = b <;> simp [h1, h2]
    · simp [h1]
theorem prsD_eqv (a b : List (Str × Str)) : PyData.eqv (.list (a.map prD)) (.list (b.map prD)) = decide (a = b) := by rw [PyData.eqv, prsD_eqvAll]
def prs (ks : List Str) (led : Str → Str) : List (Str × Str) := ks.map fun x => (x, led x)
theorem dp_prs {K : PySem.W.Frag} {H : Hp} {led : Str → Str} : ∀ {ts : List Addr} {ks : List Str}, Paired (fun (t : Addr) (q : Key × V) => H t = some (.tup [kV q.1, q.2])) ts (vN ks led) → DpAll K H (ts.map V.ref) ((prs ks led).map prD)
  | [], [], .nil => .nil
  | t :: ts, k :: ks, .cons h r => .cons (.tup (SqT.of h) (.cons (.str _) (.cons (.str _) .nil))) (dp_prs r)
/-- view == view -/
def spEqV (K : PySem.W.Frag) (C CT : Addr) : Sp := fun vs H Q _ => ∃ (a b dx dy fa fb da db : Addr) (k1 k2 : List Str) (l1 l2 : Str → Str), vs = [.ref a, .ref b] ∧ H a = some (.ins C dx (vF fa da)) ∧ H b = some (.ins C dy (vF fb db)) ∧ H da = some (.dK (vN k1 l1)) ∧ H db = some (.dK (vN k2 l2)) ∧
  (∀ x ∈ k1, NmOk x ∧ NmOk (l1 x)) ∧ (∀ x ∈ k2, NmOk x ∧ NmOk (l2 x)) ∧ ((prs k1 l1 ≠ prs k2 l2 ∧ ∀ H', Same H H' → Q (.bl false) H') ∨ (prs k1 l1 = prs k2 l2 ∧ ∃ (n1 n2 : List Str) (t1 t2 : List (List Int)), TabAt H CT fa n1 t1 ∧ TabAt H CT fb n2 t2 ∧ (∀ x ∈ n1, NmOk x) ∧ (∀ x ∈ n2, NmOk x) ∧
    ∀ H', Same H H' → Q (.bl (decide (n1 = n2) && decide (t1 = t2))) H'))
def spEqVO (K : PySem.W.Frag) (C : Addr) : Sp := fun vs H Q _ => ∃ (a : Addr) (y : V) (t : Value), vs = [.ref a, y] ∧ TyX K H y t ∧ PySem.W.kitOne K t (.ref C) = some false ∧ Q (.bl false) H
theorem scVEq : FnScope ["self", "other"] ["self", "other"] (defScope sVEq) := ⟨rfl, rfl, rfl, by decide +kernel, rfl, by decide +kernel, by decide +kernel⟩
section
variable {P : Program} {w : World} {K : PySem.W.Frag} {mg : Str → Option Value} {base : Heap} {f C CT fE : Addr} {fd fdE : FuncData}
theorem ok_eqT (F : Fun K "__eq__" "Table.__eq__" sEq f fd) (T : TabC K C) (IC : C8.InsC K C) (gC : mg "Table" = some (.ref C)) (gI : mg "isinstance" = none) : FnOk P w K mg base CX0 1 f fd ["self", "other"] (spEqT C) := by
  refine F.ok scEq (fun vs H Q E h => by obtain ⟨a, b, n1, n2, t1, t2, e, _⟩ := h; rw [e]; rfl) fun cdv A outer s H vs Q E hr hsp => ?_
  obtain ⟨a, b, n1, n2, t1, t2, rfl, ta, tb, ok1, ok2, hq⟩ := hsp
  obtain ⟨dx, qa, ra, ha, hqa, hra⟩ := id ta.ex
  obtain ⟨dy, qb, rb, hb, hqb, hrb⟩ := id tb.ex
  have hu64 := hr.units
  refine ⟨_, pss_cons (ps_if (pt_not (pt_val (pe_callB (C8.call_isC IC) rfl gI boot_isi (pa_cons (pv 1) (pa_cons (pe_glob (v := .ref C) rfl gC rfl) pa_nil))))) (pss_one (ps_ret pe_bl)) pss_nil)
    (pss_one (ps_ret (pe_and (pe_cmpR (op_eqD hu64) (pe_fld (pv 0) rfl) (pe_fld (pv 1) rfl) (nomark _)) (pe_one (pe_cmpR (op_eqD hu64) (pe_fld (pv 0) rfl) (pe_fld (pv 1) rfl) (nomark _)))))), ?_⟩
  refine ⟨_, rfl, b, dy, _, rfl, hb, _, rfl, iteF ?_⟩
  have s1 : ∀ x ∈ n1, PyData.strOk x = true := fun x hx => nm_strOk (ok1 x hx)
  have s2 : ∀ x ∈ n2, PyData.strOk x = true := fun x hx => nm_strOk (ok2 x hx)
  refine ⟨_, rfl, a, C, dx, _, _, rfl, ha, T.cl, T.nQ, rfl, _, rfl, b, C, dy, _, _, rfl, hb, T.cl, T.nQ, rfl, _, _, dp_list hqa, dp_list hqb, strs_shaped _ s1, strs_shaped _ s2, _, rfl, ?_⟩
  rw [strs_eqv]
  by_cases e : n1 = n2
  · rw [decide_eq_true e] at hq ⊢
    refine iteT ⟨_, rfl, a, C, dx, _, _, rfl, ha, T.cl, T.nR, rfl, _, rfl, b, C, dy, _, _, rfl, hb, T.cl, T.nR, rfl, _, _, dpD_rows hra, dpD_rows hrb, rowsD_shaped _, rowsD_shaped _, ?_⟩
    rw [rowsD_eqv]
    exact hq
  · rw [decide_eq_false e] at hq ⊢
    exact iteF hq
theorem ok_vEq (F : Fun K "__eq__" "View.__eq__" sVEq f fd) (T : VwC K C) (IC : C8.InsC K C) (gC : mg "View" = some (.ref C)) (gI : mg "isinstance" = none) (nL : mg "list" = none) (GE : FnOk P w K mg base CX0 1 fE fdE ["self", "other"] (spEqT CT)) (mE : Meth K CT "__eq__" fE) (bE : Binds K fdE ["self", "other"] []) : FnOk P w K mg base CX0 2 f fd ["self", "other"] (spEqV K C CT) := by
  refine F.ok scVEq (fun vs H Q E h => by obtain ⟨a, b, dx, dy, fa, fb, da, db, k1, k2, l1, l2, e, _⟩ := h; rw [e]; rfl) fun cdv A outer s H vs Q E hr hsp => ?_
  obtain ⟨a, b, dx, dy, fa, fb, da, db, k1, k2, l1, l2, rfl, ha, hb, hda, hdb, ok1, ok2, hq⟩ := hsp
  have hu64 := hr.units
  refine ⟨_, pss_cons (ps_if (pt_not (pt_val (pe_callB (C8.call_isC IC) rfl gI boot_isi (pa_cons (pv 1) (pa_cons (pe_glob (v := .ref C) rfl gC rfl) pa_nil))))) (pss_one (ps_ret pe_bl)) pss_nil)
    (pss_one (ps_ret (pe_and (pe_cmpR (op_eqD hu64) (LiI.pe_listItems rfl (pe_fld (pv 0) rfl) rfl nL boot_list') (LiI.pe_listItems rfl (pe_fld (pv 1) rfl) rfl nL boot_list') (nomark _)) (pe_one (pe_cmpR (op_eqI GE (hr.mono (by decide)) mE bE pass0) (pe_fld (pv 0) rfl) (pe_fld (pv 1) rfl) (nomark _)))))), ?_⟩
  refine ⟨_, rfl, b, dy, _, rfl, hb, _, rfl, iteF ?_⟩
  refine ⟨_, rfl, a, C, dx, _, _, rfl, ha, T.cl, T.nN, rfl, da, _, rfl, hda, fun H1 p1 ts1 s1 _ _ _ o1 pr1 => ?_⟩
  refine ⟨_, rfl, b, C, dy, _, _, rfl, s1 _ _ hb, T.cl, T.nN, rfl, db, _, rfl, s1 _ _ hdb, fun H2 p2 ts2 s2 _ _ _ o2 pr2 => ?_⟩
  have s12 : Same H H2 := fun b' o e => s2 _ _ (s1 _ _ e)
  have okP : ∀ {ks : List Str} {l : Str → Str}, (∀ x ∈ ks, NmOk x ∧ NmOk (l x)) → ∀ q ∈ prs ks l, PyData.strOk q.1 = true ∧ PyData.strOk q.2 = true := fun h q hq => by
    obtain ⟨x, hx, rfl⟩ := List.mem_map.mp hq
    exact ⟨nm_strOk (h x hx).1, nm_strOk (h x hx).2⟩
  have d1 : Dp K H2 (.ref p1) (.list ((prs k1 l1).map prD)) := .lst (SqL.of (s2 _ _ o1)) (dp_prs (Paired.mapP pr1 fun _ _ h => s2 _ _ h))
  have d2 : Dp K H2 (.ref p2) (.list ((prs k2 l2).map prD)) := .lst (SqL.of o2) (dp_prs pr2)
  refine ⟨_, _, d1, d2, prsD_shaped _ (okP ok1), prsD_shaped _ (okP ok2), _, rfl, ?_⟩
  rw [prsD_eqv]
  rcases hq with ⟨ne, hq⟩ | ⟨e, n1, n2, t1, t2, h1, h2, m1, m2, hq⟩
  · rw [decide_eq_false ne]
    exact iteF (hq H2 s12)
  · rw [decide_eq_true e]
    obtain ⟨xa, _, _, hfa, _, _⟩ := (h1.same s12).ex
    obtain ⟨xb, _, _, hfb, _, _⟩ := (h2.same s12).ex
    refine iteT ⟨_, rfl, a, C, dx, _, _, rfl, s12 _ _ ha, T.cl, T.nF, rfl, _, rfl, b, C, dy, _, _, rfl, s12 _ _ hb, T.cl, T.nF, rfl, fa, fb, xa, xb, _, _, rfl, rfl, hfa, hfb, fa, fb, n1, n2, t1, t2, rfl, h1.same s12, h2.same s12, m1, m2, _, rfl, ?_⟩
    exact hq H2 s12
theorem ok_vEqO (F : Fun K "__eq__" "View.__eq__" sVEq f fd) (gC : mg "View" = some (.ref C)) (gI : mg "isinstance" = none) : FnOk P w K mg base CX0 2 f fd ["self", "other"] (spEqVO K C) := by
  refine F.ok scVEq (fun vs H Q E h => by obtain ⟨a, y, t, e, _⟩ := h; rw [e]; rfl) fun cdv A outer s H vs Q E hr hsp => ?_
  obtain ⟨a, y, t, rfl, ty, no, hq⟩ := hsp
  refine ⟨_, pss_cons (ps_if (pt_not (pt_val (pe_callB (r := rIsi K) call_isi rfl gI boot_isi (pa_cons (pv 1) (pa_cons (pe_glob (v := .ref C) rfl gC rfl) pa_nil))))) (pss_one (ps_ret pe_bl)) pss_nil)
    (pss_one ps_never), ?_⟩
  exact ⟨_, rfl, y, .ref C, t, .ref C, false, rfl, .own C, ty, no, _, rfl, iteT hq⟩
end
end L2.TB
namespace L2.TB
open PySem PySem.Spec PyProof.Rows
/-- a mixed list: what was in it, in some order -/
def spMixed (K : PySem.W.Frag) : Sp := fun vs H Q _ => ∃ (l ls c : Addr) (xs : List V) (N : Int), vs = [.ref l, .ref c] ∧ Strm H l ls N ∧ N ≤ 900000 ∧ SqL K H c xs ∧ xs.length < 1000 ∧
  ∀ H' q ys, ys.Perm xs → H q = none → H' q = some (.lst ys) → Strm H' l ls (N + xs.length) → But l ls H H' → Q (.ref q) H'
theorem scMixed : FnScope ["stream", "some", "left", "k"] ["stream", "some"] (defScope sMixed) := ⟨rfl, rfl, rfl, by decide +kernel, rfl, by decide +kernel, by decide +kernel⟩
/-- some of a mixed list -/
def spSome (K : PySem.W.Frag) : Sp := fun vs H Q _ => ∃ (l ls c : Addr) (xs : List V) (N : Int), vs = [.ref l, .ref c] ∧ Strm H l ls N ∧ N ≤ 800000 ∧ H c = some (.lst xs) ∧ c ≠ l ∧ c ≠ ls ∧ xs.length < 100 ∧
  ∀ H' q ys zs, (ys ++ zs).Perm xs → H q = none → H' q = some (.lst ys) → Strm H' l ls (N + 200) → But l ls H H' → Q (.ref q) H'
theorem scSome : FnScope ["stream", "names"] ["stream", "names"] (defScope sSome) := ⟨rfl, rfl, rfl, by decide +kernel, rfl, by decide +kernel, by decide +kernel⟩
section
variable {P : Program} {w : World} {K : PySem.W.Frag} {mg : Str → Option Value} {base : Heap} {f fD fP fM : Addr} {fd fdD fdP fdM : FuncData}
theorem ok_mixed (F : Fun K "_law_mixed" "_law_mixed" sMixed f fd) (FD : Fun K "_law_draw" "_law_draw" sDraw fD fdD)
    (gD : mg "_law_draw" = some (.ref fD)) (gI : mg "int" = none) (gN : mg "len" = none) (gL : mg "list" = none) (gR : mg "range" = none) : FnOk P w K mg base CX0 2 f fd ["stream", "some"] (spMixed K) := by
  have G : FnOk P w K mg base CX0 1 fD fdD ["stream", "many"] spDraw := ok_draw FD gI
  have b := FD.binds (ps := ["stream", "many"]) fun _ _ _ _ _ _ us hl => match us, hl with | [_, _], _ => rfl
  refine F.ok scMixed (fun vs H Q E h => by obtain ⟨l, ls, c, xs, N, e, _⟩ := h; rw [e]; rfl) fun cdv A outer s H vs Q E hr hsp => ?_
  obtain ⟨l, ls, c, xs, N, rfl, hS, hN, hc, h1, hq⟩ := hsp
  have nd := scMixed.nd
  refine ⟨_, pss_cons (ps_set (i := 2) nd rfl (Or.inr rfl) (pe_callTy call_list_of rfl gL (by decide +kernel) (pa_cons (pv 1) pa_nil)))
    (pss_one (ps_ret (pe_lc (own := [("k", 3)]) (tt := tYes) (te := tBM K "list" rPopAt (tVar 2) (tCons (tCall spDraw [] E0 (tCons (tVar 0) (tCons (tCB (rLen K) (tCons (tVar 2) tNil)) tNil))) tNil)) rfl nd (pi_range1 rfl gR (pa_cons (pe_callB call_len rfl gN boot_len (pa_cons (pv 2) pa_nil)) pa_nil)) (blkOk_by (N := ["stream", "some", "left", "k"]) (sc := defScope sMixed) (by decide +kernel))
      (fun _ _ _ _ _ => pg_name (i := 3) nd rfl (Or.inl rfl)) (fun _ _ _ _ _ => pts_nil)
      (fun _ _ _ _ _ => pe_bm PySem.F.plainAttrs_list PySem.F.slot_list_pop PySem.F.type_list_pop mt_popAt (pv 2) (pa_cons (pe_call G hr rfl gD FD.kp b .nil pass0 (pa_cons (pv 0) (pa_cons (pe_callB call_len rfl gN boot_len (pa_cons (pv 2) pa_nil)) pa_nil))) pa_nil))))), ?_⟩
  refine ⟨_, rfl, c, xs, rfl, .inl hc, fun p np => ?_⟩
  have kp := same_new (o := .lst xs) np
  have ap := hS.apart (Same.refl _) np
  refine ⟨_, rfl, .ref p, xs.length, rfl, .inl ⟨_, SqL.of upd_same, rfl⟩, _, rfl, by omega, by omega, fun q nq => ?_⟩
  have aq := hS.apart kp nq
  have pq : p ≠ q := fun z => by rw [← z, upd_same] at nq; cases nq
  have nq0 : H q = none := Same.free kp nq
  refine lc_range (n := xs.length) (fun i H' => ∃ done rest, H' q = some (.lst done) ∧ H' p = some (.lst rest) ∧ done.length = i ∧ (done ++ rest).Perm xs ∧ Strm H' l ls (N + i) ∧ But l ls H H')
    ⟨[], xs, upd_same, by rw [upd_ne pq]; exact upd_same, rfl, List.Perm.refl _, by simpa using ((hS.same kp).same (same_new nq)), But.of (kp.trans (same_new nq))⟩ ?_ ?_
  · rintro i H3 hi ⟨done, rest, oq, op, ln, pm, S3, B3⟩
    have hlen : done.length + rest.length = xs.length := by rw [← pm.length_eq, List.length_append]
    refine ⟨rfl, ?_⟩
    refine ⟨_, rfl, .inl ⟨rfl, _, SqL.of op⟩, _, rfl, _, rfl, .ref p, rest.length, rfl, .inl ⟨_, SqL.of op, rfl⟩, ?_⟩
    refine ⟨l, ls, _, _, rfl, S3, by omega, by omega, by omega, fun H4 r r0 r1 S4 B4 => ?_⟩
    have hr2 : r.toNat < rest.length := by omega
    have er : ((r.toNat : Nat) : Int) = r := by omega
    have ix0 : ixN rest.length r = some r.toNat := by
      unfold ixN
      rw [if_pos r0, if_pos r1]
    refine ⟨p, rest, r, r.toNat, rest[r.toNat], rfl, rfl, B4 _ _ ap.1 ap.2 op, by omega, by omega, (ixN_seq ix0).1, by simp, done, ?_, (by rw [sizeLine_eq]; omega), done ++ [rest[r.toNat]], rest.eraseIdx r.toNat, upd_same, ?_, by simp [ln], ?_, ?_, ?_⟩
    · rw [upd_ne (Ne.symm pq)]; exact B4 _ _ aq.1 aq.2 oq
    · rw [upd_ne pq, upd_same]
    · have z := pop_perm rest r.toNat rest[r.toNat] (by simp)
      rw [List.append_assoc]
      exact (List.Perm.append_left done z).trans pm
    · obtain ⟨cs, g, k, m, S⟩ := S4
      have e1 : N + ((i + 1 : Nat) : Int) = N + (i : Int) + 1 := by omega
      rw [e1]
      exact ⟨cs, g, k, m, by rw [upd_ne (Ne.symm aq.1), upd_ne (Ne.symm ap.1)]; exact S.o, by rw [upd_ne (Ne.symm aq.2), upd_ne (Ne.symm ap.2)]; exact S.c, S.ne, S.g0, S.k0, S.k1, S.m0, S.m1, S.sz⟩
    · intro b o h1 h2 e
      have nb : b ≠ q := ne_of_none e nq0
      have nb2 : b ≠ p := ne_of_none e np
      rw [upd_ne nb, upd_ne nb2]
      exact B4 _ _ h1 h2 (B3 _ _ h1 h2 e)
  · rintro H3 ⟨done, rest, oq, op, ln, pm, S3, B3⟩
    have hlen : done.length + rest.length = xs.length := by rw [← pm.length_eq, List.length_append]
    have er : rest = [] := List.eq_nil_of_length_eq_zero (by omega)
    subst er
    rw [List.append_nil] at pm
    exact hq H3 q done pm nq0 oq S3 B3
theorem ok_some (F : Fun K "_law_t_some" "_law_t_some" sSome f fd) (FM : Fun K "_law_mixed" "_law_mixed" sMixed fM fdM) (gM : mg "_law_mixed" = some (.ref fM)) (FD : Fun K "_law_draw" "_law_draw" sDraw fD fdD)
    (gD : mg "_law_draw" = some (.ref fD)) (gI : mg "int" = none) (gN : mg "len" = none) (gL : mg "list" = none) (gR : mg "range" = none) : FnOk P w K mg base CX0 3 f fd ["stream", "names"] (spSome K) := by
  have G : FnOk P w K mg base CX0 1 fD fdD ["stream", "many"] spDraw := ok_draw FD gI
  have b := FD.binds (ps := ["stream", "many"]) fun _ _ _ _ _ _ us hl => match us, hl with | [_, _], _ => rfl
  have GM : FnOk P w K mg base CX0 2 fM fdM ["stream", "some"] (spMixed K) := ok_mixed FM FD gD gI gN gL gR
  have bM := FM.binds (ps := ["stream", "some"]) fun _ _ _ _ _ _ us hl => match us, hl with | [_, _], _ => rfl
  refine F.ok scSome (fun vs H Q E h => by obtain ⟨l, ls, c, xs, N, e, _⟩ := h; rw [e]; rfl) fun cdv A outer s H vs Q E hr hsp => ?_
  obtain ⟨l, ls, c, xs, N, rfl, hS, hN, hc, cl, cls, h1, hq⟩ := hsp
  refine ⟨_, pss_one (ps_ret (pe_slice sl_list (pe_call GM hr rfl gM FM.kp bM .nil pass0 (pa_cons (pv 0) (pa_cons (pv 1) pa_nil))) po_none (po_some (pe_call G (hr.mono (by decide)) rfl gD FD.kp b .nil pass0 (pa_cons (pv 0) (pa_cons (pe_op op_add (pe_callB call_len rfl gN boot_len (pa_cons (pv 1) pa_nil)) pe_int) pa_nil)))))), ?_⟩
  refine ⟨_, rfl, _, rfl, l, ls, c, xs, N, rfl, hS, by omega, SqL.of hc, by omega, fun H1 q ys pm nq oq S1 B1 => ?_⟩
  have aq := hS.apart (Same.refl _) nq
  have hcl := B1 _ _ cl cls hc
  refine ⟨_, rfl, _, rfl, .ref c, xs.length, rfl, .inl ⟨_, SqL.of hcl, rfl⟩, _, _, rfl, rfl, ?_⟩
  refine ⟨l, ls, _, _, rfl, S1, by omega, by omega, by omega, fun H2 r r0 r1 S2 B2 => ?_⟩
  refine ⟨r, rfl, q, ys, rfl, SqL.of (B2 _ _ aq.1 aq.2 oq), fun p np => ?_⟩
  have ly : ys.length = xs.length := pm.length_eq
  rw [cut_to ys r r0 (by rw [ly]; exact r1)]
  refine hq _ p (ys.take r.toNat) (ys.drop r.toNat) (by rw [List.take_append_drop]; exact pm) ?_ upd_same ((S2.same (same_new np)).mono (by omega)) ((B1.trans B2).trans (But.of (same_new np)))
  have ap := S2.apart (Same.refl _) np
  cases e : H p with
  | none => rfl
  | some o => have z := (B1.trans B2) _ _ ap.1 ap.2 e; rw [z] at np; cases np
end
def spKey (K : PySem.W.Frag) : Sp := fun vs H Q _ => ∃ (a c : Addr) (ns known : List Str) (us : List Int), vs = [.ref a, .ref c] ∧ Rd H a (.dK (dk ns us)) ∧ us.length = ns.length ∧ ns.Nodup ∧ SqA K H c (known.map V.str) ∧ (∀ x ∈ known, x ∈ ns) ∧ known.length < 1000 ∧
  ∀ H' t, H t = none → H' t = some (.tup ((keyR ns known us).map V.int)) → Same H H' → Q (.ref t) H'
structure Told (K : PySem.W.Frag) (H : Hp) (r c : Addr) (as : List Addr) (ns known : List Str) (tbl : List (List Int)) : Prop where
  r : H r = some (.lst (as.map V.ref))
  rows : RRows H ns as tbl
  k : SqA K H c (known.map V.str)
  sub : ∀ x ∈ known, x ∈ ns
  short : known.length < 1000
  ndn : ns.Nodup
theorem Told.same {K : PySem.W.Frag} {H H' : Hp} {r c : Addr} {as : List Addr} {ns known : List Str} {tbl : List (List Int)} (h : Told K H r c as ns known tbl) (s : Same H H') : Told K H' r c as ns known tbl :=
  ⟨s _ _ h.r, h.rows.same s, h.k.same s, h.sub, h.short, h.ndn⟩
def spTells (K : PySem.W.Frag) : Sp := fun vs H Q _ => ∃ (r c : Addr) (as : List Addr) (ns known : List Str) (x : Str) (tbl : List (List Int)), vs = [.ref r, .ref c, .str x] ∧ Told K H r c as ns known tbl ∧ x ∈ ns ∧ ∀ H', Same H H' → Q (.bl (decide (Tells ns tbl known x))) H'
abbrev NK : List Str := ["row", "known", "name"]
theorem scKey : FnScope NK ["row", "known"] (defScope sKey) := ⟨rfl, rfl, rfl, by decide +kernel, rfl, by decide +kernel, by decide +kernel⟩
abbrev NTl : List Str := ["rows", "known", "asked", "one", "other"]
theorem scTells : FnScope NTl ["rows", "known", "asked"] (defScope sTells) := ⟨rfl, rfl, rfl, by decide +kernel, rfl, by decide +kernel, by decide +kernel⟩
section
variable {P : Program} {w : World} {K : PySem.W.Frag} {mg : Str → Option Value} {base : Heap} {f fK : Addr} {fd fdK : FuncData}
theorem ok_key (F : Fun K "_law_t_key" "_law_t_key" sKey f fd) (gT : mg "tuple" = none) : FnOk P w K mg base CX0 1 f fd ["row", "known"] (spKey K) := by
  refine F.ok scKey (fun vs H Q E h => by obtain ⟨a, c, ns, known, us, e, _⟩ := h; rw [e]; rfl) fun cdv A outer s H vs Q E hr hsp => ?_
  obtain ⟨a, c, ns, known, us, rfl, ha, hl, ndn, hc, sub, short, hq⟩ := hsp
  have nd := scKey.nd
  have hu := hu_of hr
  refine ⟨_, pss_one (ps_ret (pe_callTy (r := rTupOf K) call_tuple_of rfl gT boot_tuple' (pa_cons (pe_lc (own := [("name", 2)]) (tt := tYes) rfl nd (pi_seq (pv 1)) (blkOk_by (N := NK) (sc := defScope sKey) (by decide +kernel)) (fun _ _ _ _ _ => pg_name (i := 2) nd rfl (Or.inl rfl)) (fun _ _ _ _ _ => pts_nil)
    (fun _ _ _ _ _ => pe_dget hu (pv 0) (pv 2) (fun _ _ => rfl))) pa_nil))), ?_⟩
  obtain ⟨o, ho, ko⟩ := hc.ho
  refine ⟨_, rfl, lc_seq ko ho (by rw [List.length_map]; omega) (fun _ => true) (fun v => match v with | .str x => .int (av ns us x) | _ => .non) ?_ ?_⟩
  · rintro i v H2 Cn Nn ev s2 yes no
    rw [List.getElem?_map] at ev
    obtain ⟨x, ex, rfl⟩ := Option.map_eq_some_iff.mp ev
    have xin : x ∈ ns := sub x (List.mem_of_getElem? ex)
    refine ⟨rfl, ?_⟩
    exact ⟨_, rfl, _, rfl, a, _, rfl, dk_av ndn hl xin ▸ dget_r (k := Sum.inr x) (rd_same ha s2), yes rfl H2 (Same.refl _)⟩
  · intro H2 D nD oD s2
    have e : ((known.map V.str).filter fun _ => true).map (fun v => match v with | .str x => V.int (av ns us x) | _ => .non) = (keyR ns known us).map V.int := by
      rw [List.filter_eq_self.mpr (fun _ _ => rfl), List.map_map]
      unfold keyR
      rw [List.map_map]
      rfl
    rw [e] at oD
    exact ⟨D, _, rfl, .inl ⟨SqL.of oD, fun t nt => hq _ t (s2.free nt) upd_same (s2.trans (same_new nt))⟩⟩
theorem ok_tells (F : Fun K "_law_t_tells" "_law_t_tells" sTells f fd) (FK : Fun K "_law_t_key" "_law_t_key" sKey fK fdK) (gK : mg "_law_t_key" = some (.ref fK)) (gT : mg "tuple" = none) : FnOk P w K mg base CX0 2 f fd ["rows", "known", "asked"] (spTells K) := by
  have G : FnOk P w K mg base CX0 1 fK fdK ["row", "known"] (spKey K) := ok_key FK gT
  have b := FK.binds (ps := ["row", "known"]) fun _ _ _ _ _ _ us hl => match us, hl with | [_, _], _ => rfl
  refine F.ok scTells (fun vs H Q E h => by obtain ⟨r, c, as, ns, known, x, tbl, e, _⟩ := h; rw [e]; rfl) fun cdv A outer s H vs Q E hr hsp => ?_
  obtain ⟨r, c, as, ns, known, x, tbl, rfl, T, xin, hq⟩ := hsp
  have nd := scTells.nd
  have hu := hu_of hr
  have hu64 := hr.units
  refine ⟨_, pss_cons (ps_for PassesOwn.never rfl (pi_list (pv 0)) (pg_name (i := 3) nd rfl (Or.inl rfl))
      (pss_one (ps_for PassesOwn.never rfl (pi_list (pv 0)) (pg_name (i := 4) nd rfl (Or.inl rfl))
        (pss_one (ps_if (PW.pt (pw_and (pt_cmpR (op_eqD hu64) (pe_call G hr rfl gK FK.kp b .nil pass0 (pa_cons (pv 3) (pa_cons (pv 1) pa_nil))) (pe_call G hr rfl gK FK.kp b .nil pass0 (pa_cons (pv 4) (pa_cons (pv 1) pa_nil))) (nomark _))
          (pw_and1 (pt_cmpR op_ne (pe_dget hu (pv 3) (pv 2) (fun _ _ => rfl)) (pe_dget hu (pv 4) (pv 2) (fun _ _ => rfl)) (nomark _))))) (pss_one (ps_ret pe_bl)) pss_nil)))))
    (pss_one (ps_ret pe_bl)), ?_⟩
  have las : as.length = tbl.length := Paired.length T.rows
  have lm : (as.map V.ref).length = tbl.length := by rw [List.length_map, las]
  refine ⟨_, rfl, r, rfl, ⟨_, SqL.of T.r⟩, for_list (xs := as.map V.ref) (fun i σ H' => Same H H' ∧ (∃ s3 s4, σ = [some (.ref r), some (.ref c), some (.str x), s3, s4]) ∧ ∀ u ∈ tbl.take i, ∀ v ∈ tbl, keyR ns known u = keyR ns known v → av ns u x = av ns v x)
    ⟨Same.refl _, ⟨_, _, rfl⟩, fun u hu => by simp at hu⟩ (fun i σ H' _ h => SqL.of (h.1 _ _ T.r)) ?_ ?_⟩
  · rintro i v σ H2 ev ⟨s2, ⟨s3', s4', rfl⟩, all⟩
    rw [List.getElem?_map] at ev
    obtain ⟨a, ea, rfl⟩ := Option.map_eq_some_iff.mp ev
    obtain ⟨u, eu, oa, lu⟩ := paired_get T.rows ea
    have uin : u ∈ tbl := List.mem_of_getElem? eu
    refine ⟨_, rfl, r, rfl, ⟨_, SqL.of (s2 _ _ T.r)⟩, for_list (xs := as.map V.ref) (fun j σ H' => Same H H' ∧ (∃ s4, σ = [some (.ref r), some (.ref c), some (.str x), some (.ref a), s4]) ∧ ∀ v ∈ tbl.take j, keyR ns known u = keyR ns known v → av ns u x = av ns v x)
      ⟨s2, ⟨_, rfl⟩, fun v hv => by simp at hv⟩ (fun i σ H' _ h => SqL.of (h.1 _ _ T.r)) ?_ ?_⟩
    · rintro j w' σ H3 ew ⟨s3, ⟨s4, rfl⟩, allj⟩
      rw [List.getElem?_map] at ew
      obtain ⟨a', ea', rfl⟩ := Option.map_eq_some_iff.mp ew
      obtain ⟨v, ev2, oa', lv⟩ := paired_get T.rows ea'
      have vin : v ∈ tbl := List.mem_of_getElem? ev2
      have e1 : tbl.take (j + 1) = tbl.take j ++ [v] := by rw [List.take_succ, ev2]; rfl
      refine ⟨_, rfl, _, rfl, a, c, ns, known, u, rfl, rd_same oa s3, lu, T.ndn, T.k.same s3, T.sub, T.short, fun H4 t4 n4 o4 s4 => ?_⟩
      have s34 := s3.trans s4
      refine ⟨_, rfl, _, rfl, a', c, ns, known, v, rfl, rd_same oa' s34, lv, T.ndn, T.k.same s34, T.sub, T.short, fun H5 t5 n5 o5 s5 => ?_⟩
      have s35 := s34.trans s5
      refine ⟨_, _, .tup (SqT.of (s5 _ _ o4)) (dp_ints _), .tup (SqT.of o5) (dp_ints _), tup_shaped _, tup_shaped _, _, rfl, ?_⟩
      rw [tup_eqv]
      have step : (keyR ns known u = keyR ns known v → av ns u x = av ns v x) → ∀ v ∈ tbl.take (j + 1), keyR ns known u = keyR ns known v → av ns u x = av ns v x := fun z v' hv' => by
        rw [e1] at hv'
        rcases List.mem_append.mp hv' with q | q
        · exact allj v' q
        · rw [List.mem_singleton.mp q]; exact z
      by_cases ek : keyR ns known u = keyR ns known v
      · rw [decide_eq_true ek]
        refine iteT ⟨_, rfl, _, rfl, a, _, rfl, dk_av T.ndn lu xin ▸ dget_r (k := Sum.inr x) (rd_same oa s35), _, rfl, _, rfl, a', _, rfl, dk_av T.ndn lv xin ▸ dget_r (k := Sum.inr x) (rd_same oa' s35), rfl, _, rfl, ?_⟩
        rw [dec_int2]
        by_cases ea : av ns u x = av ns v x
        · rw [decide_eq_true ea]
          exact iteF ⟨s35, ⟨_, rfl⟩, step fun _ => ea⟩
        · rw [decide_eq_false ea]
          refine iteT ?_
          have z := hq H5 s35
          rw [decide_eq_false (fun T' : Tells ns tbl known x => ea (T' u uin v vin ek))] at z
          exact z
      · rw [decide_eq_false ek]
        exact iteF (iteF ⟨s35, ⟨_, rfl⟩, step fun z => absurd z ek⟩)
    · rintro σ H3 ⟨s3, ⟨s4, rfl⟩, allj⟩
      have et : tbl.take (as.map V.ref).length = tbl := List.take_of_length_le (by omega)
      rw [et] at allj
      have e1 : tbl.take (i + 1) = tbl.take i ++ [u] := by rw [List.take_succ, eu]; rfl
      refine ⟨s3, ⟨_, _, rfl⟩, fun u' hu' => ?_⟩
      rw [e1] at hu'
      rcases List.mem_append.mp hu' with q | q
      · exact all u' q
      · rw [List.mem_singleton.mp q]; exact allj
  · rintro σ H2 ⟨s2, ⟨s3', s4', rfl⟩, all⟩
    have et : tbl.take (as.map V.ref).length = tbl := List.take_of_length_le (by omega)
    rw [et] at all
    have z := hq H2 s2
    rw [decide_eq_true (show Tells ns tbl known x from all)] at z
    exact z
end
end L2.TB
/-! not in rows; _law_pair_right -/
namespace L2.TB
open PySem PySem.Spec PyProof.Rows
def rNotInRows (w : World) : R2 := fun x y H Q => ∃ (r : Addr) (as : List Addr) (ns : List Str) (tbl : List (List Int)), y = .ref r ∧ H r = some (.lst (as.map V.ref)) ∧ DRows H ns as tbl ∧ ns.Nodup ∧
  ((∃ (d : Addr) (u : List Int), x = .ref d ∧ H d = some (.dK (dk ns u)) ∧ u.length = ns.length ∧ Q (.bl !(decide (u ∈ tbl))) H) ∨
   (∃ (d : Addr) (es : List MK.En), x = .ref d ∧ H d = some (MK.DE w d es) ∧ es.length ≠ ns.length ∧ Q (.bl !false) H) ∨ (x = .non ∧ Q (.bl !false) H))
section
variable {X : Cx} {pins : List (Addr × Obj)} {σ : L2.St} {H : Hp} {s : Shared}
theorem op_notInRows {w : World} (hw : X.w = w) (hu : X.A.units + 64 < cLine) : OpR X (compareOp .NotIn) (rNotInRows w) := by
  subst hw
  rintro pins s σ H x y v u Q I rx ry ⟨r, as, ns, tbl, rfl, hr, rows, nd, cases3⟩
  obtain rfl : u = Value.ref r := ry
  obtain ⟨z1, xs, n1, r1, g1⟩ := I.hok r _ hr
  have las : as.length = tbl.length := Paired.length rows
  have lx : xs.length = as.length := by rw [← r1.length, List.length_map]
  have each : ∀ (e : Nat → Bool), (∀ j c (w : List Int), as[j]? = some c → tbl[j]? = some w → H c = some (.dK (dk ns w)) → w.length = ns.length → SeqAt.EqIn X.prog X.w X.A.in1 s (.ref c) v (e j)) → ∀ j (h1 : j < xs.toArray.size), SeqAt.EqIn X.prog X.w X.A.in1 s xs.toArray[j] v (e j) := by
    intro e h j h1
    have j1 : j < as.length := by rw [← lx]; simpa using h1
    obtain ⟨w', ew, oc, lw⟩ := paired_get rows (List.getElem?_eq_getElem j1)
    obtain ⟨u1, e1, rel1⟩ := r1.get (show (as.map V.ref)[j]? = some (V.ref as[j]) by rw [List.getElem?_map, List.getElem?_eq_getElem j1]; rfl)
    obtain rfl : u1 = Value.ref as[j] := rel1
    have f1 : xs.toArray[j] = Value.ref as[j] := by
      have h1' : j < xs.length := by simpa using h1
      rw [List.getElem?_eq_getElem h1'] at e1
      simpa using Option.some.inj e1
    rw [f1]
    exact h j as[j] w' (List.getElem?_eq_getElem j1) ew oc lw
  have run : ∀ (e : Nat → Bool) (b : Bool), (∀ j (h1 : j < xs.toArray.size), SeqAt.EqIn X.prog X.w X.A.in1 s xs.toArray[j] v (e j)) → ((List.range xs.toArray.size).any e) = b → Q (.bl !b) H → wpAny (model X.prog X.w) X.A (compareOp .NotIn v (.ref r)) (fun z s' => ∃ y H', Inv X pins σ H' s' ∧ RelV y z ∧ Q y H') X.xe s := by
    intro e b eqs eb q
    show wpAny _ _ (do return Value.bool (!(← contains (.ref r) v))) _ _ s
    refine wpAny_bind (wpAny_contains_slot ⟨_, g1, rfl⟩ F.slot_list_contains (GQ.call_here F.slot_list_contains ⟨_, g1, rfl⟩ F.entry_list_contains (F.args_list_contains_2 _ _) (has_list r xs.toArray n1 v g1 e eqs ?_)))
    rw [eb]
    exact wpAny_truthy_bool (wpAny_pure ⟨.bl (!b), H, I, rfl, q⟩)
  have lt1 : X.A.in1.units < cLine := by show X.A.units + _ < cLine; omega
  rcases cases3 with ⟨d, us, rfl, od, lu, q⟩ | ⟨d, es, rfl, od, ne, q⟩ | ⟨rfl, q⟩
  · refine run (fun j => decide (tbl.getD j [] = us)) _ (each _ fun j c w' ec ew oc lw => ?_) ?_ q
    · rw [List.getD_eq_getElem?_getD, ew]
      exact (row_eq lt1 I rx nd oc lw).1 d us rfl od lu
    · by_cases m : us ∈ tbl
      · rw [decide_eq_true m, List.any_eq_true]
        obtain ⟨j, hj, ej⟩ := List.getElem_of_mem m
        refine ⟨j, List.mem_range.mpr (by rw [List.size_toArray]; omega), ?_⟩
        rw [List.getD_eq_getElem?_getD, List.getElem?_eq_getElem hj, ej]
        exact decide_eq_true rfl
      · rw [decide_eq_false m, List.any_eq_false]
        intro j hj z
        have hj := List.mem_range.mp hj
        rw [List.size_toArray] at hj
        have z2 := of_decide_eq_true z
        rw [List.getD_eq_getElem?_getD, List.getElem?_eq_getElem (by omega)] at z2
        have z3 : tbl[j]'(by omega) = us := z2
        exact m (z3 ▸ List.getElem_mem _)
  · refine run (fun _ => false) _ (each _ fun j c w' ec ew oc lw => (row_eq lt1 I rx nd oc lw).2.1 d es rfl od ne) ?_ q
    rw [List.any_eq_false]
    exact fun _ _ z => by cases z
  · refine run (fun _ => false) _ (each _ fun j c w' ec ew oc lw => (row_eq lt1 I rx nd oc lw).2.2 rfl) ?_ q
    rw [List.any_eq_false]
    exact fun _ _ z => by cases z
end
end L2.TB
/-! a view's methods, as the law calls them; _law_pair_right -/
namespace L2.TB
open PySem PySem.Spec PyProof.Rows LamX MK
def spAnA (RF : Hp → Addr → Fd → Prop) : Sp := fun vs H Q _ => ∃ (a : Addr) (D : Fd) (p : Addr) (kvs : List (Key × V)) (u : List Int), vs = [.ref a, .ref p] ∧ RF H a D ∧ H p = some (.dK kvs) ∧ RowD D.nb kvs u ∧ u ∈ D.tbl ∧ ∀ H' q, H q = none → H' q = some (.dK (dkv D.ns fun x => .int (av D.nb u (D.φ x)))) → Same H H' → Q (.ref q) H'
/-- a method, up to level 8 -/
def HasM (P : Program) (w : World) (K : PySem.W.Frag) (mg : Str → Option Value) (base : Heap) (C : Addr) (m : Str) (ps : List Str) (sp : Sp) : Prop := ∃ (f : Addr) (fd : FuncData), Meth K C m f ∧ Binds K fd ps [] ∧ FnOk P w K mg base (L2.CX P w) 8 f fd ps sp
/-- the law calls these -/
structure Vws (P : Program) (w : World) (K : PySem.W.Frag) (mg : Str → Option Value) (base : Heap) (C : Addr) (RF : Hp → Addr → Fd → Prop) : Prop where
  cl : Cls K C
  rel : FRel C RF
  told : HasM P w K mg base C "is_told" ["self", "known", "asked"] (spTo RF)
  plan : HasM P w K mg base C "plan" ["self", "known", "asked"] (spPl w RF)
  apart : HasM P w K mg base C "apart" ["self", "known", "asked"] (spAp RF)
  isPlan : HasM P w K mg base C "is_plan" ["self", "known", "asked", "thing"] (spIp w K RF)
  areAp : HasM P w K mg base C "are_apart" ["self", "known", "asked", "thing"] (spAa w K RF)
  home : HasM P w K mg base C "home" ["self"] (spHoF RF)
  ans : HasM P w K mg base C "answers" ["self", "world"] (spAnA RF)
  found : HasM P w K mg base C "found" ["self", "known", "asked", "plan", "answers"] (spFoA w K RF)
def spPairR (K : PySem.W.Frag) (RF : Hp → Addr → Fd → Prop) : Sp := fun vs H Q _ => ∃ (a r i o t c b p q : Addr) (as : List Addr) (D : Fd) (known : List Str) (x : Str) (u v : List Int), vs = [.ref a, .ref r, .ref i, .ref o, .ref t] ∧ AskF RF H a b D known x ∧ ¬ TellsD D known x ∧ H r = some (.lst (as.map V.ref)) ∧ DRows H D.nb as D.tbl ∧
  H i = some (.lst [.ref c, .str (D.φ x)]) ∧ SqA K H c ((known.map D.φ).map V.str) ∧ H o = some (.lst [.ref b, .str x]) ∧ PairAt H t D.nb (D.κ known) D.tbl (D.φ x) p q u v ∧ ∀ H', Same H H' → Q (.bl true) H'
abbrev NPr : List Str := ["view", "rows", "inner", "outer", "pair", "one", "other"]
theorem scPairR : FnScope NPr ["view", "rows", "inner", "outer", "pair"] (defScope sPairR) := ⟨rfl, rfl, rfl, by decide +kernel, rfl, by decide +kernel, by decide +kernel⟩
section
variable {P : Program} {w : World} {K : PySem.W.Frag} {mg : Str → Option Value} {base : Heap} {f C fK : Addr} {fd fdK : FuncData} {RF : Hp → Addr → Fd → Prop}
theorem ok_pairR (F : Fun K "_law_pair_right" "_law_pair_right" sPairR f fd) (VW : Vws P w K mg base C RF) (FK : Fun K "_law_t_key" "_law_t_key" sKey fK fdK) (gK : mg "_law_t_key" = some (.ref fK)) (nT : mg "tuple" = none) : FnOk P w K mg base CX0 9 f fd ["view", "rows", "inner", "outer", "pair"] (spPairR K RF) := by
  have G : FnOk P w K mg base CX0 1 fK fdK ["row", "known"] (spKey K) := ok_key FK nT
  have b := FK.binds (ps := ["row", "known"]) fun _ _ _ _ _ _ us hl => match us, hl with | [_, _], _ => rfl
  obtain ⟨fA, fdA, mA, bA, GA⟩ := VW.areAp
  obtain ⟨fP, fdP, mP, bP, GP⟩ := VW.isPlan
  refine F.ok scPairR (fun vs H Q E h => by obtain ⟨a, r, i, o, t, c, b, p, q, as, D, known, x, u, v, e, _⟩ := h; rw [e]; rfl) fun cdv A outer s H vs Q E hr hsp => ?_
  obtain ⟨a, r, i, o, t, c, b', p, q, as, D, known, x, u, v, rfl, ask, nt, orr, rows, oi, oc, oo, PA, hq⟩ := hsp
  have nd := scPairR.nd
  have hu := hu_of hr
  have hu64 := hr.units
  refine ⟨_, pss_cons (ps_asg (pv 4) (pg_tup rfl (pgs_cons (pg_name (i := 5) nd rfl (Or.inl rfl)) (pgs_cons (pg_name (i := 6) nd rfl (Or.inl rfl)) pgs_nil))))
    (pss_cons (ps_if (PW.pt (pw_or (pt_cmpR (r := rNotInRows w) (op_notInRows rfl hu64) (pv 5) (pv 1) rfl) (pw_or (pt_cmpR (r := rNotInRows w) (op_notInRows rfl hu64) (pv 6) (pv 1) rfl)
      (pw_or1 (pt_cmpR op_eq (pe_dget hu (pv 5) (pe_ix (r := rIxL K) ix_list (pv 2) pe_int (fun _ _ => rfl)) (fun _ _ => rfl)) (pe_dget hu (pv 6) (pe_ix (r := rIxL K) ix_list (pv 2) pe_int (fun _ _ => rfl)) (fun _ _ => rfl)) (nomark _)))))) (pss_one ps_never) pss_nil)
    (pss_cons (ps_if (pt_cmpR (op_neD hu64) (pe_call G (hr.mono (by decide)) rfl gK FK.kp b .nil pass0 (pa_cons (pv 5) (pa_cons (pe_ix (r := rIxL K) ix_list (pv 2) pe_int (fun _ _ => rfl)) pa_nil))) (pe_call G (hr.mono (by decide)) rfl gK FK.kp b .nil pass0 (pa_cons (pv 6) (pa_cons (pe_ix (r := rIxL K) ix_list (pv 2) pe_int (fun _ _ => rfl)) pa_nil))) (nomark _)) (pss_one ps_never) pss_nil)
    (pss_one (ps_ret (pe_and (pe_cmpR op_isBl (pe_meth (pv 0) VW.cl mA GA hr bA .nil passL (pa_cons (pe_ix (r := rIxL K) ix_list (pv 3) pe_int (fun _ _ => rfl)) (pa_cons (pe_ix (r := rIxL K) ix_list (pv 3) pe_int (fun _ _ => rfl)) (pa_cons (pv 4) pa_nil)))) pe_bl (nomark _))
      (pe_one (pe_not (pe_meth (pv 0) VW.cl mP GP hr bP .nil passL (pa_cons (pe_ix (r := rIxL K) ix_list (pv 3) pe_int (fun _ _ => rfl)) (pa_cons (pe_ix (r := rIxL K) ix_list (pv 3) pe_int (fun _ _ => rfl)) (pa_cons (pv 4) pa_nil))))))))))), ?_⟩
  have O := VW.rel.ok ask.r
  have xb := O.fi x ask.xin
  have klen := nodup_sub ask.nd ask.sub
  have ksh := O.sh
  obtain ⟨dx, fs, ha, no⟩ := VW.rel.ins ask.r
  refine ⟨_, rfl, t, _, rfl, SqT.of PA.o, rfl, _, _, rfl, _, _, rfl, rfl, ?_⟩
  refine ⟨_, rfl, _, rfl, r, as, D.nb, D.tbl, rfl, orr, rows, O.ndb, .inl ⟨p, u, rfl, PA.op, PA.lu, ?_⟩⟩
  rw [decide_eq_true PA.mu]
  refine ⟨_, rfl, iteF ?_⟩
  refine ⟨_, rfl, _, rfl, r, as, D.nb, D.tbl, rfl, orr, rows, O.ndb, .inl ⟨q, v, rfl, PA.oq, PA.lv, ?_⟩⟩
  rw [decide_eq_true PA.mv]
  refine ⟨_, rfl, iteF ?_⟩
  refine ⟨_, rfl, _, rfl, i, _, (1 : Int), _, rfl, rfl, SqL.of oi, rfl, p, _, rfl, dk_av O.ndb PA.lu xb ▸ DGet.k (k := Sum.inr (D.φ x)) PA.op, _, rfl, _, rfl, i, _, (1 : Int), _, rfl, rfl, SqL.of oi, rfl, q, _, rfl, dk_av O.ndb PA.lv xb ▸ DGet.k (k := Sum.inr (D.φ x)) PA.oq, rfl, ?_⟩
  rw [dec_int2, decide_eq_false PA.ne]
  refine ⟨_, rfl, iteF ?_⟩
  have isub : ∀ y ∈ known.map D.φ, y ∈ D.nb := fun y hy => by
    obtain ⟨z, hz, rfl⟩ := List.mem_map.mp hy
    exact O.fi z (ask.sub z hz)
  have ksame : keyR D.nb (known.map D.φ) u = keyR D.nb (known.map D.φ) v := key_eq.mpr fun y hy => key_eq.mp PA.k y ((O.ki known ask.sub y).mpr (List.mem_map.mp hy))
  refine ⟨_, rfl, _, rfl, i, _, (0 : Int), _, rfl, rfl, SqL.of oi, rfl, p, c, D.nb, known.map D.φ, u, rfl, .inl PA.op, PA.lu, O.ndb, oc, isub, by rw [List.length_map]; omega, fun H1 t1 n1 o1 s1 => ?_⟩
  refine ⟨_, rfl, _, rfl, i, _, (0 : Int), _, rfl, rfl, SqL.of (s1 _ _ oi), rfl, q, c, D.nb, known.map D.φ, v, rfl, .inl (s1 _ _ PA.oq), PA.lv, O.ndb, oc.same s1, isub, by rw [List.length_map]; omega, fun H2 t2 n2 o2 s2 => ?_⟩
  refine ⟨_, _, .tup (SqT.of (s2 _ _ o1)) (dp_ints _), .tup (SqT.of o2) (dp_ints _), tup_shaped _, tup_shaped _, _, rfl, ?_⟩
  rw [tup_eqv, decide_eq_true ksame]
  refine iteF ?_
  have s02 := s1.trans s2
  have ask2 : AskF RF H2 a b' D known x := ⟨VW.rel.same ask.r s02, s02 _ _ ask.k, ask.nd, ask.sub, ask.xin⟩
  refine ⟨_, rfl, a, dx, fs, rfl, s02 _ _ ha, no _ (by simp [mths]), _, rfl, o, _, (0 : Int), _, rfl, rfl, SqL.of (s02 _ _ oo), rfl, _, rfl, o, _, (1 : Int), _, rfl, rfl, SqL.of (s02 _ _ oo), rfl, _, rfl, ?_⟩
  refine ⟨a, b', D, known, x, .ref t, some (some u, some v), rfl, ask2, .pair (.inr (s02 _ _ PA.o)) (.row (s02 _ _ PA.op) (rowD_dk O.ndb PA.lu)) (.row (s02 _ _ PA.oq) (rowD_dk O.ndb PA.lv)), fun H3 s3 => ?_⟩
  have ap : apartB D.nb (D.κ known) (D.φ x) D.tbl (some (some u, some v)) = true := by
    show (decide (u ∈ D.tbl) && (decide (v ∈ D.tbl) && (decide (keyR D.nb (D.κ known) u = keyR D.nb (D.κ known) v) && !decide (av D.nb u (D.φ x) = av D.nb v (D.φ x))))) = true
    rw [decide_eq_true PA.mu, decide_eq_true PA.mv, decide_eq_true PA.k, decide_eq_false PA.ne]
    rfl
  rw [ap]
  have s03 := s02.trans s3
  refine ⟨true, true, rfl, rfl, _, rfl, iteT ?_⟩
  refine ⟨_, rfl, a, dx, fs, rfl, s03 _ _ ha, no _ (by simp [mths]), _, rfl, o, _, (0 : Int), _, rfl, rfl, SqL.of (s03 _ _ oo), rfl, _, rfl, o, _, (1 : Int), _, rfl, rfl, SqL.of (s03 _ _ oo), rfl, _, rfl, ?_⟩
  refine ⟨a, b', D, known, x, .ref t, none, rfl, ⟨VW.rel.same ask.r s03, s03 _ _ ask.k, ask.nd, ask.sub, ask.xin⟩, .odd (.base (.tup (s03 _ _ PA.o))) (by decide +kernel), fun H4 s4 => ?_⟩
  refine ⟨_, rfl, ?_⟩
  have z := hq H4 (s03.trans s4)
  rw [show planB (lotD D known x) none = false from rfl, Bool.and_false]
  exact z
end
end L2.TB
/-! what is no plan; a plan and more -/
namespace L2.TB
open PySem PySem.Spec PyProof.Rows MK
inductive NoPl (w : World) (H : Hp) (L : Lot) : V → Prop
  | atm {v : V} (a : Atm v) : NoPl w H L v
  | lst {a : Addr} {xs : List V} (o : H a = some (.lst xs)) : NoPl w H L (.ref a)
  | dict {d : Addr} {es : List En} {ms : List (Bool × Bool)} (o : H d = some (DE w d es)) (m : MixE H es) (p : Paired (fun (e : En) (m : Bool × Bool) => Ky H e.2.1 m.1 ∧ Pn e.2.2 m.2) es ms) (sh : es.length < 1000) (no : planB L (some (es, ms)) = false) : NoPl w H L (.ref d)
theorem NoPl.th {w : World} {K : PySem.W.Frag} {H : Hp} {L : Lot} {v : V} (h : NoPl w H L v) : ∃ o, PlTh w K H v o ∧ planB L o = false := by
  cases h with
  | atm a =>
    obtain ⟨t, h1, _, _, h4⟩ := a.ty
    exact ⟨none, .odd (h1 K H) h4, rfl⟩
  | lst o => exact ⟨none, .odd (.base (.lst o)) (by decide +kernel), rfl⟩
  | dict o m p sh no => exact ⟨_, .dict o m p sh, no⟩
/-- all but one stays -/
theorem NoPl.but {w : World} {H H' : Hp} {L : Lot} {q : Addr} {xs : List V} {v : V} (h : NoPl w H L v) (hq : H q = some (.lst xs)) (ne : v ≠ .ref q) (s : ∀ b o, b ≠ q → H b = some o → H' b = some o) : NoPl w H' L v := by
  have tk : ∀ a vs, H a = some (.tup vs) → H' a = some (.tup vs) := fun a vs e => s _ _ (fun z => by rw [z, hq] at e; cases e) e
  cases h with
  | atm a => exact .atm a
  | lst o => exact .lst (s _ _ (fun z => ne (congrArg V.ref z)) o)
  | dict o m p sh no => exact .dict (s _ _ (fun z => by rw [z, hq] at o; unfold DE DX at o; cases o) o) (m.mono tk) (Paired.mapP p fun e b h => ⟨h.1.mono tk, h.2⟩) sh no
theorem NoPl.same {w : World} {H H' : Hp} {L : Lot} {v : V} (h : NoPl w H L v) (s : Same H H') : NoPl w H' L v := by
  cases h with
  | atm a => exact .atm a
  | lst o => exact .lst (s _ _ o)
  | dict o m p sh no => exact .dict (s _ _ o) (m.mono fun _ _ e => s _ _ e) (Paired.mapP p fun e b h => ⟨h.1.mono fun _ _ e => s _ _ e, h.2⟩) sh no
theorem goodE_self {L : Lot} (nd : (L.map (·.1)).Nodup) {H : Hp} {es : List En} (en : Ens H es L) {e : En} (he : e ∈ es) : ∃ p ∈ L, e.1 = keyN p.1 ∧ e.2.2 = .int p.2 ∧ valN L e.1 = some (.int p.2) := by
  obtain ⟨i, hi, ei⟩ := List.getElem_of_mem he
  obtain ⟨p, ep, q⟩ := paired_get en (show es[i]? = some e by rw [List.getElem?_eq_getElem hi, ei])
  have hp := List.mem_of_getElem? ep
  exact ⟨p, hp, q.k, q.v, by rw [q.k]; exact valN_at nd hp⟩
theorem ens_ok {H : Hp} {es : List En} {L : Lot} (en : Ens H es L) (sh : ∀ p ∈ L, p.1.length < 1000) {e : En} (he : e ∈ es) : Ky H e.2.1 true ∧ Pn e.2.2 true := by
  obtain ⟨i, hi, ei⟩ := List.getElem_of_mem he
  obtain ⟨p, ep, q⟩ := paired_get en (show es[i]? = some e by rw [List.getElem?_eq_getElem hi, ei])
  obtain ⟨t, et, ot⟩ := q.t
  exact ⟨et ▸ ky_ints ot (sh p (List.mem_of_getElem? ep)), q.v ▸ .int _⟩
theorem paired_maps {α β γ : Type} {R : β → γ → Prop} (f : α → β) (g : α → γ) : ∀ xs : List α, (∀ x ∈ xs, R (f x) (g x)) → Paired R (xs.map f) (xs.map g)
  | [], _ => .nil
  | x :: xs, h => .cons (h x List.mem_cons_self) (paired_maps f g xs fun y hy => h y (List.mem_cons_of_mem _ hy))
theorem zip_all {α β γ : Type} (f : α → β) (g : α → γ) (P : β × γ → Bool) : ∀ xs : List α, ((xs.map f).zip (xs.map g)).all P = xs.all fun x => P (f x, g x)
  | [] => rfl
  | x :: xs => by
    rw [List.map_cons, List.map_cons, List.zip_cons_cons, List.all_cons, List.all_cons, zip_all f g P xs]
theorem nopl_map {w : World} {H : Hp} {L : Lot} {es : List En} {p : Addr} (f : En → En) (g : En → Bool × Bool) (o : H p = some (DE w p (es.map f))) (m : MixE H (es.map f)) (sh : es.length < 1000) (each : ∀ e ∈ es, Ky H (f e).2.1 (g e).1 ∧ Pn (f e).2.2 (g e).2) (bad : ∃ e ∈ es, goodE L (f e) (g e) = false) : NoPl w H L (.ref p) := by
  refine .dict (ms := es.map g) o m (paired_maps f g es each) (by rw [List.length_map]; exact sh) ?_
  rw [planB_some, zip_all f g]
  have z : (es.all fun x => goodE L (f x, g x).1 (f x, g x).2) = false := by
    rw [List.all_eq_false]
    obtain ⟨e, he, b⟩ := bad
    exact ⟨e, he, by rw [b]; decide⟩
  rw [z, Bool.and_false]
/-- with other numbers of entries -/
theorem nopl_len {w : World} {H : Hp} {L : Lot} {fs : List En} {p : Addr} (g : En → Bool × Bool) (o : H p = some (DE w p fs)) (m : MixE H fs) (sh : fs.length < 1000) (each : ∀ e ∈ fs, Ky H e.2.1 (g e).1 ∧ Pn e.2.2 (g e).2) (ne : fs.length ≠ L.length) : NoPl w H L (.ref p) := by
  have z := paired_maps (R := fun (e : En) (m : Bool × Bool) => Ky H e.2.1 m.1 ∧ Pn e.2.2 m.2) id g fs each
  rw [List.map_id] at z
  refine .dict (ms := fs.map g) o m z sh ?_
  rw [planB_some, decide_eq_false ne, Bool.false_and]
theorem mix_key {H : Hp} {es : List En} (m : MixE H es) {e : En} (he : e ∈ es) : KeyH H e.1 e.2.1 ∧ e.1.depth ≤ 8 := by
  obtain ⟨i, hi, ei⟩ := List.getElem_of_mem he
  have ee : es[i]? = some e := by rw [List.getElem?_eq_getElem hi, ei]
  exact ⟨m.is_ i e.1 e.2 (by rw [List.getElem?_map, ee]; rfl) (by rw [List.getElem?_map, ee]; rfl), m.dp _ (List.mem_map_of_mem he)⟩
def moreE (v : V) : En := (.text "more", .str "more", v)
theorem more_nd {H : Hp} {es : List En} {L : Lot} (en : Ens H es L) (nd : (L.map (·.1)).Nodup) (v : V) : ((es ++ [moreE v]).map (·.1)).Nodup := by
  rw [List.map_append, List.nodup_append]
  refine ⟨(en.mix nd).nd, by simp, fun a ha b hb e => ?_⟩
  rw [en.keys] at ha
  obtain ⟨p, _, rfl⟩ := List.mem_map.mp ha
  obtain rfl : b = (moreE v).1 := List.mem_singleton.mp (show b ∈ [(moreE v).1] from hb)
  unfold moreE keyN at e
  cases e
theorem more_k {H : Hp} (v : V) : KeyH H (moreE v).1 (moreE v).2.1 := .str _
theorem more_d (v : V) : (moreE v).1.depth ≤ 8 := by unfold moreE; simp [NestedKey.depth]
section
variable {w : World} {K : PySem.W.Frag} {σ : St} {H : Hp} {Q : VK}
/-- dict(list(plan.items()) + [('more', v)]) -/
theorem plan_more {j : Nat} {d : Addr} {es : List En} {L : Lot} (sa : σ[j]? = some (some (.ref d))) (LA : LotAt w H d es L) (lnd : (L.map (·.1)).Nodup) (lsh : ∀ p ∈ L, p.1.length < 1000) (few : L.length < 900)
    (fin : ∀ H' g, H g = none → NoPl w H' L (.ref g) → Same H H' → Q (.ref g) H') :
    tCB (rDictPX w K) (tCons (tOp rCat (tItemsX w (tVar j)) (tLst (tCons (tTup (tCons (tC (.str "more")) (tCons (tC (.int 1)) tNil))) tNil))) tNil) σ H Q := by
  have le : es.length = L.length := Paired.length LA.e
  have mx := LA.e.mix lnd
  refine ⟨_, sa, d, es, rfl, .inl LA.o, fun H3 q3 ts3 s3 n3 o3 pr3 => ?_⟩
  refine ⟨(by show 2 ≤ sizeLine; decide), fun t nt => ⟨(by show 1 ≤ sizeLine; decide), fun p np => ?_⟩⟩
  have st := same_new (o := .tup [.str "more", .int 1]) nt
  have ot : upd H3 t (.tup [.str "more", .int 1]) t = some (.tup [.str "more", .int 1]) := upd_same
  generalize upd H3 t (.tup [.str "more", .int 1]) = H4 at st ot np
  have sp := same_new (o := .lst [.ref t]) np
  have op : upd H4 p (.lst [.ref t]) p = some (.lst [.ref t]) := upd_same
  generalize upd H4 p (.lst [.ref t]) = H5 at sp op
  have k35 := st.trans sp
  have l3 : ts3.length = es.length := Paired.length pr3
  refine ⟨q3, p, _, _, rfl, rfl, k35 _ _ o3, op, (by rw [sizeLine_eq, List.length_map]; show _ + 1 ≤ _; omega), fun p5 np5 => ?_⟩
  have s5 := same_new (o := .lst (ts3.map V.ref ++ [V.ref t])) np5
  have o5 : upd H5 p5 (.lst (ts3.map V.ref ++ [V.ref t])) p5 = some (.lst (ts3.map V.ref ++ [V.ref t])) := upd_same
  generalize upd H5 p5 (.lst (ts3.map V.ref ++ [V.ref t])) = H6 at s5 o5
  have k36 := k35.trans s5
  have k6 := s3.trans k36
  have pz : putsE [] (es ++ [moreE (.int 1)]) = es ++ [moreE (.int 1)] := by simpa using putsE_nd (es ++ [moreE (.int 1)]) [] (by simpa using more_nd LA.e lnd (.int 1))
  refine ⟨p5, ts3 ++ [t], es ++ [moreE (.int 1)], rfl, SqL.of (by rw [List.map_append]; exact o5), paired_snoc ⟨SqT.of ((sp.trans s5) _ _ ot), more_k _, more_d _⟩ ?_, fun pd npd m6 => ?_⟩
  · refine nth_pair ts3 es l3 fun i a e e1 e2 => ?_
    obtain ⟨y, ey, h1, h2⟩ := paired_get pr3 e1
    rw [e2] at ey
    obtain rfl := Option.some.inj ey
    have mk := mix_key mx (List.mem_of_getElem? e2)
    exact ⟨SqT.of (k36 _ _ h2), mk.1.mono fun _ _ e => k6 _ _ e, mk.2⟩
  rw [pz] at m6 ⊢
  have s7 := same_new (o := DE w pd (es ++ [moreE (.int 1)])) npd
  have o7 : upd H6 pd (DE w pd (es ++ [moreE (.int 1)])) pd = some (DE w pd (es ++ [moreE (.int 1)])) := upd_same
  generalize upd H6 pd (DE w pd (es ++ [moreE (.int 1)])) = H7 at s7 o7 m6
  have k7 := k6.trans s7
  have L7 := LA.same k7
  refine fin H7 pd (k6.free npd) ?_ k7
  refine nopl_len (fun e => if e.1 = .text "more" then (false, true) else (true, true)) o7 m6 (by rw [List.length_append]; show _ + 1 < _; omega) (fun e he => ?_) (by rw [List.length_append]; show _ + 1 ≠ _; omega)
  rcases List.mem_append.mp he with he | he
  · have ok := ens_ok L7.e lsh he
    have ne : e.1 ≠ .text "more" := fun z => by
      obtain ⟨p, _, e1, _⟩ := goodE_self lnd LA.e he
      rw [e1] at z
      unfold keyN at z
      cases z
    rw [if_neg ne]
    exact ok
  · rw [List.mem_singleton] at he
    rw [he, if_pos (show (moreE (.int 1)).1 = .text "more" from rfl)]
    exact ⟨.str _, .int _⟩
end
end L2.TB
/-! _law_field_right: the first statements of a turn -/
namespace L2.TB
open PySem PySem.Spec PyProof.Rows LamX MK
theorem vstr_of : ∀ ys : List V, (∀ y ∈ ys, ∃ x, y = V.str x) → ∃ known : List Str, ys = known.map V.str
  | [], _ => ⟨[], rfl⟩
  | y :: ys, h => by
    obtain ⟨x, rfl⟩ := h y (by simp)
    obtain ⟨k, rfl⟩ := vstr_of ys fun z hz => h z (List.mem_cons_of_mem _ hz)
    exact ⟨x :: k, rfl⟩
theorem vsome {ns : List Str} {ys zs : List V} (pm : (ys ++ zs).Perm (ns.map V.str)) (nnd : ns.Nodup) : ∃ known : List Str, ys = known.map V.str ∧ known.Nodup ∧ ∀ x ∈ known, x ∈ ns := by
  have yin : ∀ y ∈ ys, ∃ x, y = V.str x := fun y hy => by
    obtain ⟨x, _, rfl⟩ := List.mem_map.mp (pm.mem_iff.mp (List.mem_append_left zs hy))
    exact ⟨x, rfl⟩
  obtain ⟨known, rfl⟩ := vstr_of ys yin
  have all : (known.map V.str ++ zs).Nodup := pm.nodup_iff.mpr (List.Pairwise.map V.str (fun a b h e => h (V.str.inj e)) nnd)
  refine ⟨known, rfl, (List.pairwise_map.mp (List.nodup_append.mp all).1).imp fun h e => h (congrArg V.str e), fun x hx => ?_⟩
  obtain ⟨y, hy, e⟩ := List.mem_map.mp (pm.mem_iff.mp (List.mem_append_left zs (List.mem_map_of_mem hx)))
  exact V.str.inj e ▸ hy
def forB : Stmt → List Stmt
  | .For _ _ b _ _ => b
  | _ => []
abbrev NFr : List Str := ["stream", "view", "rows", "led", "names", "asked", "known", "inner", "due", "plan", "pair", "row", "given", "more", "within", "without", "name"]
theorem scFieldR : FnScope NFr ["stream", "view", "rows", "led", "names"] (defScope sFieldR) := ⟨rfl, rfl, rfl, by decide +kernel, rfl, by decide +kernel, by decide +kernel⟩
abbrev no0 : Stmt := .Pass ⟨0, 0, 0, 0⟩
abbrev bodyF : List Stmt := forB ((defBody sFieldR).getD 0 no0)
/-- what a turn rests upon -/
structure FrB (RF : Hp → Addr → Fd → Prop) (H : Hp) (l ls a r dl n : Addr) (as : List Addr) (D : Fd) (N : Int) : Prop where
  S : Strm H l ls N
  rel : RF H a D
  orr : H r = some (.lst (as.map V.ref))
  rows : RowsAt H l ls D.nb as D.tbl
  odl : H dl = some (.dK (vN D.ns D.φ))
  on : H n = some (.lst (D.ns.map V.str))
  rn : r ≠ l ∧ r ≠ ls ∧ n ≠ l ∧ n ≠ ls
theorem FrB.drows {RF : Hp → Addr → Fd → Prop} {H : Hp} {l ls a r dl n : Addr} {as : List Addr} {D : Fd} {N : Int} (B : FrB RF H l ls a r dl n as D N) : DRows H D.nb as D.tbl := Paired.mapP B.rows fun _ _ h => ⟨h.1, h.2.1⟩
theorem FrB.same {RF : Hp → Addr → Fd → Prop} {CF : Addr} (RL : FRel CF RF) {H H' : Hp} {l ls a r dl n : Addr} {as : List Addr} {D : Fd} {N : Int} (B : FrB RF H l ls a r dl n as D N) (s : Same H H') : FrB RF H' l ls a r dl n as D N :=
  ⟨B.S.same s, RL.same B.rel s, s _ _ B.orr, Paired.mapP B.rows fun _ _ h => ⟨s _ _ h.1, h.2⟩, s _ _ B.odl, s _ _ B.on, B.rn⟩
theorem FrB.dne {RF : Hp → Addr → Fd → Prop} {H : Hp} {l ls a r dl n : Addr} {as : List Addr} {D : Fd} {N : Int} (B : FrB RF H l ls a r dl n as D N) : dl ≠ l ∧ dl ≠ ls := by
  obtain ⟨cs, g, k, m, S⟩ := B.S
  have h := B.odl
  exact ⟨fun z => (by rw [z, S.o] at h; cases h), fun z => (by rw [z, S.c] at h; cases h)⟩
theorem FrB.but {RF : Hp → Addr → Fd → Prop} {CF : Addr} (RL : FRel CF RF) {H H' : Hp} {l ls a r dl n : Addr} {as : List Addr} {D : Fd} {N M : Int} (B : FrB RF H l ls a r dl n as D N) (b : But l ls H H') (S : Strm H' l ls M) : FrB RF H' l ls a r dl n as D M :=
  ⟨S, RL.but B.rel B.S b, b _ _ B.rn.1 B.rn.2.1 B.orr, B.rows.but b, b _ _ B.dne.1 B.dne.2 B.odl, b _ _ B.rn.2.2.1 B.rn.2.2.2 B.on, B.rn⟩
/-- the known ones of a turn -/
structure FrK (K : PySem.W.Frag) (RF : Hp → Addr → Fd → Prop) (H : Hp) (a c ip : Addr) (D : Fd) (known : List Str) (x : Str) : Prop where
  ask : AskF RF H a c D known x
  oi : H ip = some (.lst ((known.map D.φ).map V.str))
theorem FrK.same {K : PySem.W.Frag} {RF : Hp → Addr → Fd → Prop} {CF : Addr} (RL : FRel CF RF) {H H' : Hp} {a c ip : Addr} {D : Fd} {known : List Str} {x : Str} (h : FrK K RF H a c ip D known x) (s : Same H H') : FrK K RF H' a c ip D known x :=
  ⟨⟨RL.same h.ask.r s, s _ _ h.ask.k, h.ask.nd, h.ask.sub, h.ask.xin⟩, s _ _ h.oi⟩
section
variable {P : Program} {w : World} {K : PySem.W.Frag} {mg : Str → Option Value} {base : Heap} {f C fK fT fM fO : Addr} {fd fdK fdT fdM fdO : FuncData} {RF : Hp → Addr → Fd → Prop} {cdv : Value} {A : Around} {outer : List Env} {s : Shared} {H : Hp} {E : XK} {rest : List Stmt} {u : TS}
theorem fr_a (VW : Vws P w K mg base C RF) (hr : Room 9 (A.deeper (envOfC "_law_field_right" (defScope sFieldR) s.heap.objs.size f cdv))) (FO : Fun K "_law_t_some" "_law_t_some" sSome fO fdO) (gO : mg "_law_t_some" = some (.ref fO)) (GO : FnOk P w K mg base CX0 3 fO fdO ["stream", "names"] (spSome K))
    (FT : Fun K "_law_t_tells" "_law_t_tells" sTells fT fdT) (gTl : mg "_law_t_tells" = some (.ref fT)) (GT : FnOk P w K mg base CX0 2 fT fdT ["rows", "known", "asked"] (spTells K))
    (pr : PSs (cxOf CX0 P w K mg base NFr "_law_field_right" (defScope sFieldR) f cdv A outer s H E).nox rest u) :
    ∃ t, PSs (cxOf CX0 P w K mg base NFr "_law_field_right" (defScope sFieldR) f cdv A outer s H E).nox (bodyF.getD 0 no0 :: bodyF.getD 1 no0 :: bodyF.getD 2 no0 :: rest) t ∧
      ∀ (D : Ends) (H0 : Hp) (l ls a r dl n : Addr) (as : List Addr) (F : Fd) (N : Int) (x : Str) (s6 s7 s8 s9 s10 s11 s12 s13 s14 s15 s16 : Option V), FrB RF H0 l ls a r dl n as F N → N ≤ 800000 → x ∈ F.ns →
      (∀ H' c ip known, FrB RF H' l ls a r dl n as F (N + 200) → But l ls H0 H' → FrK K RF H' a c ip F known x →
        u D [some (.ref l), some (.ref a), some (.ref r), some (.ref dl), some (.ref n), some (.str x), some (.ref c), some (.ref ip), some (.bl (decide (TellsD F known x))), s9, s10, s11, s12, s13, s14, s15, s16] H') →
      t D [some (.ref l), some (.ref a), some (.ref r), some (.ref dl), some (.ref n), some (.str x), s6, s7, s8, s9, s10, s11, s12, s13, s14, s15, s16] H0 := by
  have bO := FO.binds (ps := ["stream", "names"]) fun _ _ _ _ _ _ us hl => match us, hl with | [_, _], _ => rfl
  have bT := FT.binds (ps := ["rows", "known", "asked"]) fun _ _ _ _ _ _ us hl => match us, hl with | [_, _, _], _ => rfl
  have nd := scFieldR.nd
  have hu := hu_of hr
  refine ⟨_, pss_cons (ps_set (i := 6) nd rfl (Or.inl rfl) (pe_call GO (hr.mono (by decide)) rfl gO FO.kp bO .nil pass0 (pa_cons (pv 0) (pa_cons (pv 4) pa_nil))))
    (pss_cons (ps_setLc (i := 7) (own := [("name", 16)]) (tt := tYes) (g := gName 16) (te := tDGet (tVar 3) (tVar 16)) rfl nd rfl rfl (sw_true rfl rfl rfl rfl) (pi_list (pv 6)) (blkOk_by (N := NFr) (sc := defScope sFieldR) (by decide +kernel)) (fun _ _ _ _ _ => pg_name (i := 16) nd rfl (Or.inl rfl)) (fun _ _ _ _ _ => pts_nil) (fun _ _ _ _ _ => pe_dget hu (pv 3) (pv 16) (fun _ _ => rfl)))
    (pss_cons (ps_set (i := 8) nd rfl (Or.inl rfl) (pe_call GT (hr.mono (by decide)) rfl gTl FT.kp bT .nil pass0 (pa_cons (pv 2) (pa_cons (pv 7) (pa_cons (pe_dget hu (pv 3) (pv 5) (fun _ _ => rfl)) pa_nil))))) pr)), ?_⟩
  intro D H0 l ls a r dl n as F N x s6 s7 s8 s9 s10 s11 s12 s13 s14 s15 s16 B hN xin fin
  have O := VW.rel.ok B.rel
  have lsh := O.sh
  refine ⟨_, rfl, _, rfl, l, ls, n, F.ns.map V.str, N, rfl, B.S, by omega, B.on, B.rn.2.2.1, B.rn.2.2.2, by rw [List.length_map]; exact O.sh, fun H1 c ys zs pm nc oc S1 B1 => ?_⟩
  obtain ⟨known, rfl, knd, ksub⟩ := vsome pm O.nd
  have b1 := B.but VW.rel B1 S1
  have klen := nodup_sub knd ksub
  have keyOk : ∀ y ∈ F.ns, y.cps.toList.length < 1000 := fun y hy => by have := (O.ok y hy).2.1; omega
  refine ⟨_, rfl, c, rfl, ⟨_, SqL.of oc⟩, lc_gen ((known.map F.φ).map V.str) (by rw [List.length_map, List.length_map]; omega) (fun j H' s lt => ⟨_, _, SqL.of (s _ _ oc), List.getElem?_eq_getElem (by rw [List.length_map, List.length_map] at lt; rw [List.length_map]; exact lt)⟩) (fun H' s => ⟨_, SqL.of (s _ _ oc), by rw [List.length_map, List.length_map, List.length_map]; exact Nat.le_refl _⟩) ?_ ?_⟩
  · rintro j v y H2 H3 Cn Nn ey s2 ⟨rfl, ev⟩ yes
    have ev := ev _ (SqL.of (s2 _ _ oc))
    rw [List.getElem?_map] at ev ey
    obtain ⟨z, ez, rfl⟩ := Option.map_eq_some_iff.mp ev
    rw [List.getElem?_map, ez] at ey
    obtain rfl : V.str (F.φ z) = y := Option.some.inj ey
    have dg : DGet H3 dl (kV (Sum.inr z)) (valV (vN F.ns F.φ) (Sum.inr z)) := DGet.k (k := Sum.inr z) (s2 _ _ b1.odl)
    unfold vN at dg
    rw [dkv_val O.nd (ksub z (List.mem_of_getElem? ez))] at dg
    exact ⟨rfl, _, rfl, _, rfl, dl, _, rfl, dg, yes H3 (Same.refl _)⟩
  · intro H2 ip nip oip s2
    have b2 := b1.same VW.rel s2
    have dg : DGet H2 dl (kV (Sum.inr x)) (valV (vN F.ns F.φ) (Sum.inr x)) := DGet.k (k := Sum.inr x) b2.odl
    unfold vN at dg
    rw [dkv_val O.nd xin] at dg
    have fsub : ∀ y ∈ known.map F.φ, y ∈ F.nb := fun y hy => by
      obtain ⟨z, hz, rfl⟩ := List.mem_map.mp hy
      exact O.fi z (ksub z hz)
    refine ⟨_, rfl, _, rfl, _, rfl, _, rfl, dl, _, rfl, dg, r, ip, as, F.nb, known.map F.φ, F.φ x, F.tbl, rfl, ⟨b2.orr, b2.drows.rd, .inl oip, fsub, by rw [List.length_map]; omega, O.ndb⟩, O.fi x xin, fun H3 s3 => ?_⟩
    exact fin H3 c ip known (b2.same VW.rel s3) (B1.trans (But.of (s2.trans s3))) ⟨⟨VW.rel.same b1.rel (s2.trans s3), (s2.trans s3) _ _ oc, knd, ksub, xin⟩, s3 _ _ oip⟩
end
end L2.TB
/-! _law_field_right: plan, pair, and whether they are as due -/
namespace L2.TB
open PySem PySem.Spec PyProof.Rows LamX MK
inductive PPv (w : World) (H : Hp) (F : Fd) (known : List Str) (x : Str) : V → V → Prop
  | yes {d : Addr} {es : List En} (t : TellsD F known x) (LA : LotAt w H d es (lotD F known x)) : PPv w H F known x (.ref d) .non
  | no {t p q : Addr} {u v : List Int} (nt : ¬ TellsD F known x) (PA : PairAt H t F.nb (F.κ known) F.tbl (F.φ x) p q u v) : PPv w H F known x .non (.ref t)
theorem pair_same {H H' : Hp} {t : Addr} {ns known : List Str} {tbl : List (List Int)} {x : Str} {p q : Addr} {u v : List Int} (h : PairAt H t ns known tbl x p q u v) (s : Same H H') : PairAt H' t ns known tbl x p q u v :=
  ⟨s _ _ h.o, s _ _ h.op, s _ _ h.oq, h.mu, h.mv, h.lu, h.lv, h.k, h.ne⟩
theorem PPv.same {w : World} {H H' : Hp} {F : Fd} {known : List Str} {x : Str} {y z : V} (h : PPv w H F known x y z) (s : Same H H') : PPv w H' F known x y z := by
  cases h with
  | yes t LA => exact .yes t (LA.same s)
  | no nt PA => exact .no nt (pair_same PA s)
theorem alk_3 {w : World} {H : Hp} {a b : Addr} {t : Bool} (ha : H a = some (.lst [.bl t, .bl t, .bl t])) (hb : H b = some (.lst [.bl t, .bl t, .bl t])) : AlkF w H 1 (.ref a) (.ref b) := by
  refine .lst ha hb rfl (by show 3 < 1000; decide) fun i x y ex ey => ?_
  rw [ex] at ey
  obtain rfl := Option.some.inj ey
  have m := List.mem_of_getElem? ex
  simp only [List.mem_cons, List.not_mem_nil, or_false, or_self] at m
  subst m
  exact .one (.bl _)
section
variable {P : Program} {w : World} {K : PySem.W.Frag} {mg : Str → Option Value} {base : Heap} {f C fS : Addr} {fd fdS : FuncData} {RF : Hp → Addr → Fd → Prop} {cdv : Value} {A : Around} {outer : List Env} {s : Shared} {H : Hp} {E : XK} {rest : List Stmt} {u : TS}
theorem fr_b (VW : Vws P w K mg base C RF) (hr : Room 9 (A.deeper (envOfC "_law_field_right" (defScope sFieldR) s.heap.objs.size f cdv))) 
    (pr : PSs (cxOf CX0 P w K mg base NFr "_law_field_right" (defScope sFieldR) f cdv A outer s H E).nox rest u) :
    ∃ t, PSs (cxOf CX0 P w K mg base NFr "_law_field_right" (defScope sFieldR) f cdv A outer s H E).nox (bodyF.getD 3 no0 :: rest) t ∧
      ∀ (D : Ends) (H0 : Hp) (l ls a r dl n c ip : Addr) (as : List Addr) (F : Fd) (N : Int) (x : Str) (known : List Str) (s9 s10 s11 s12 s13 s14 s15 s16 : Option V), FrB RF H0 l ls a r dl n as F N → FrK K RF H0 a c ip F known x → 
      (∀ H' y z, Same H0 H' → PPv w H' F known x y z →
        u D [some (.ref l), some (.ref a), some (.ref r), some (.ref dl), some (.ref n), some (.str x), some (.ref c), some (.ref ip), some (.bl (decide (TellsD F known x))), some y, some z, s11, s12, s13, s14, s15, s16] H') →
      t D [some (.ref l), some (.ref a), some (.ref r), some (.ref dl), some (.ref n), some (.str x), some (.ref c), some (.ref ip), some (.bl (decide (TellsD F known x))), s9, s10, s11, s12, s13, s14, s15, s16] H0 := by
  obtain ⟨fP, fdP, mP, bP, GP⟩ := VW.plan
  obtain ⟨fA, fdA, mA, bA, GA⟩ := VW.apart
  have nd := scFieldR.nd
  have hu := hu_of hr
  refine ⟨_, pss_cons (ps_par (i := 9) (j := 10) rfl nd rfl rfl (by decide) rfl rfl (pa_cons (pe_meth (pv 1) VW.cl mP GP (hr.mono (by decide)) bP .nil passL (pa_cons (pv 6) (pa_cons (pv 5) pa_nil))) (pa_cons (pe_meth (pv 1) VW.cl mA GA (hr.mono (by decide)) bA .nil passL (pa_cons (pv 6) (pa_cons (pv 5) pa_nil))) pa_nil)) (by rfl)) pr, ?_⟩
  intro D H0 l ls a r dl n c ip as F N x known s9 s10 s11 s12 s13 s14 s15 s16 B Kn fin
  obtain ⟨dx, fs, ha, no⟩ := VW.rel.ins B.rel
  refine ⟨_, rfl, a, dx, fs, rfl, ha, no _ (by simp [mths]), _, rfl, _, rfl, a, c, F, known, x, rfl, Kn.ask, fun tl H1 d es nd1 LA s1 => ?_, fun nt H1 s1 => ?_⟩
  · exact ⟨_, rfl, a, dx, fs, rfl, s1 _ _ ha, no _ (by simp [mths]), _, rfl, _, rfl, a, c, F, known, x, rfl, (Kn.same VW.rel s1).ask, fun _ H2 s2 => ⟨_, _, rfl, fin H2 _ _ (s1.trans s2) (.yes tl (LA.same s2))⟩, fun nt => absurd tl nt⟩
  · exact ⟨_, rfl, a, dx, fs, rfl, s1 _ _ ha, no _ (by simp [mths]), _, rfl, _, rfl, a, c, F, known, x, rfl, (Kn.same VW.rel s1).ask, fun tl => absurd tl nt, fun _ H2 t p q u v _ PA s2 => ⟨_, _, rfl, fin H2 _ _ (s1.trans s2) (.no nt PA)⟩⟩
theorem fr_c (VW : Vws P w K mg base C RF) (hr : Room 9 (A.deeper (envOfC "_law_field_right" (defScope sFieldR) s.heap.objs.size f cdv))) (FS : Fun K "_law_same" "_law_same" sSame fS fdS) (gS : mg "_law_same" = some (.ref fS)) (GS : FnOk P w K mg base CX0 2 fS fdS ["found", "due"] (spSameF w 1))
    (pr : PSs (cxOf CX0 P w K mg base NFr "_law_field_right" (defScope sFieldR) f cdv A outer s H E).nox rest u) :
    ∃ t, PSs (cxOf CX0 P w K mg base NFr "_law_field_right" (defScope sFieldR) f cdv A outer s H E).nox (bodyF.getD 4 no0 :: rest) t ∧
      ∀ (D : Ends) (H0 : Hp) (l ls a r dl n c ip : Addr) (as : List Addr) (F : Fd) (N : Int) (x : Str) (known : List Str) (y z : V) (s11 s12 s13 s14 s15 s16 : Option V), FrB RF H0 l ls a r dl n as F N → FrK K RF H0 a c ip F known x → PPv w H0 F known x y z →
      (∀ H', Same H0 H' →
        u D [some (.ref l), some (.ref a), some (.ref r), some (.ref dl), some (.ref n), some (.str x), some (.ref c), some (.ref ip), some (.bl (decide (TellsD F known x))), some y, some z, s11, s12, s13, s14, s15, s16] H') →
      t D [some (.ref l), some (.ref a), some (.ref r), some (.ref dl), some (.ref n), some (.str x), some (.ref c), some (.ref ip), some (.bl (decide (TellsD F known x))), some y, some z, s11, s12, s13, s14, s15, s16] H0 := by
  have bS := FS.binds (ps := ["found", "due"]) fun _ _ _ _ _ _ us hl => match us, hl with | [_, _], _ => rfl
  obtain ⟨fT, fdT, mT, bT, GT⟩ := VW.told
  have nd := scFieldR.nd
  have hu := hu_of hr
  refine ⟨_, pss_cons (ps_if (pt_not (pt_val (pe_call GS (hr.mono (by decide)) rfl gS FS.kp bS .nil pass0 (pa_cons (pe_lst (pa_cons (pe_meth (pv 1) VW.cl mT GT (hr.mono (by decide)) bT .nil passL (pa_cons (pv 6) (pa_cons (pv 5) pa_nil))) (pa_cons (pe_cmp (pc_notN (pv 9))) (pa_cons (pe_cmp (pc_isN (pv 10))) pa_nil)))) (pa_cons (pe_op op_rep (pe_lst (pa_cons (pv 8) pa_nil)) pe_int) pa_nil))))) (pss_one ps_never) pss_nil) pr, ?_⟩
  intro D H0 l ls a r dl n c ip as F N x known y z s11 s12 s13 s14 s15 s16 B Kn pp fin
  obtain ⟨dx, fs, ha, no⟩ := VW.rel.ins B.rel
  refine ⟨_, rfl, a, dx, fs, rfl, ha, no _ (by simp [mths]), _, rfl, _, rfl, a, c, F, known, x, rfl, Kn.ask, fun H1 s1 => ?_⟩
  have e1 : (!decide (y = .non)) = decide (TellsD F known x) := by
    cases pp with
    | yes t _ => rw [decide_eq_true t]; rfl
    | no nt _ => rw [decide_eq_false nt]; rfl
  have e2 : decide (z = .non) = decide (TellsD F known x) := by
    cases pp with
    | yes t _ => rw [decide_eq_true t]; rfl
    | no nt _ => rw [decide_eq_false nt]; rfl
  refine ⟨_, rfl, _, rfl, (by show 3 ≤ sizeLine; decide), fun p np => ?_⟩
  rw [e1, e2]
  have sp := same_new (o := .lst [.bl (decide (TellsD F known x)), .bl (decide (TellsD F known x)), .bl (decide (TellsD F known x))]) np
  have op : upd H1 p (.lst [.bl (decide (TellsD F known x)), .bl (decide (TellsD F known x)), .bl (decide (TellsD F known x))]) p = some (.lst [.bl (decide (TellsD F known x)), .bl (decide (TellsD F known x)), .bl (decide (TellsD F known x))]) := upd_same
  generalize upd H1 p (.lst [.bl (decide (TellsD F known x)), .bl (decide (TellsD F known x)), .bl (decide (TellsD F known x))]) = H2 at sp op
  refine ⟨_, rfl, (by show 1 ≤ sizeLine; decide), fun q nq => ?_⟩
  have sq := same_new (o := .lst [.bl (decide (TellsD F known x))]) nq
  have oq : upd H2 q (.lst [.bl (decide (TellsD F known x))]) q = some (.lst [.bl (decide (TellsD F known x))]) := upd_same
  generalize upd H2 q (.lst [.bl (decide (TellsD F known x))]) = H3 at sq oq
  refine ⟨q, 3, _, rfl, rfl, oq, (by decide), (by decide), (by show 1 * 3 ≤ sizeLine; decide), fun b nb => ?_⟩
  have sb := same_new (o := .lst [.bl (decide (TellsD F known x)), .bl (decide (TellsD F known x)), .bl (decide (TellsD F known x))]) nb
  refine ⟨_, _, rfl, alk_3 ((sq.trans sb) _ _ op) upd_same, fun H4 s4 => ⟨_, rfl, iteF ?_⟩⟩
  exact fin H4 (s1.trans (sp.trans (sq.trans (sb.trans s4))))
end
end L2.TB
/-! _law_field_right: the walk over the rows -/
namespace L2.TB
open PySem PySem.Spec PyProof.Rows LamX MK
section
variable {P : Program} {w : World} {K : PySem.W.Frag} {mg : Str → Option Value} {base : Heap} {f C fS : Addr} {fd fdS : FuncData} {RF : Hp → Addr → Fd → Prop} {cdv : Value} {A : Around} {outer : List Env} {s : Shared} {H : Hp} {E : XK} {rest : List Stmt} {u : TS}
theorem fr_d (VW : Vws P w K mg base C RF) (hr : Room 9 (A.deeper (envOfC "_law_field_right" (defScope sFieldR) s.heap.objs.size f cdv))) (nD : mg "dict" = none)
    (pr : PSs (cxOf CX0 P w K mg base NFr "_law_field_right" (defScope sFieldR) f cdv A outer s H E).nox rest u) :
    ∃ t, PSs (cxOf CX0 P w K mg base NFr "_law_field_right" (defScope sFieldR) f cdv A outer s H E).nox (bodyF.getD 5 no0 :: rest) t ∧
      ∀ (D : Ends) (H0 : Hp) (l ls a r dl n c ip : Addr) (as : List Addr) (F : Fd) (N : Int) (x : Str) (known : List Str) (y z : V) (s11 s12 s13 s14 s15 s16 : Option V), FrB RF H0 l ls a r dl n as F N → FrK K RF H0 a c ip F known x → PPv w H0 F known x y z →
      (∀ H' s11 s12, Same H0 H' →
        u D [some (.ref l), some (.ref a), some (.ref r), some (.ref dl), some (.ref n), some (.str x), some (.ref c), some (.ref ip), some (.bl (decide (TellsD F known x))), some y, some z, s11, s12, s13, s14, s15, s16] H') →
      t D [some (.ref l), some (.ref a), some (.ref r), some (.ref dl), some (.ref n), some (.str x), some (.ref c), some (.ref ip), some (.bl (decide (TellsD F known x))), some y, some z, s11, s12, s13, s14, s15, s16] H0 := by
  obtain ⟨fA, fdA, mA, bA, GA⟩ := VW.ans
  obtain ⟨fF, fdF, mF, bF, GF⟩ := VW.found
  have nd := scFieldR.nd
  have hu := hu_of hr
  have hu1 : (A.deeper (envOfC "_law_field_right" (defScope sFieldR) s.heap.objs.size f cdv)).units < cLine := by have := hr.un; omega
  refine ⟨_, pss_cons (ps_for PassesOwn.never rfl (pi_list (pv 2)) (pg_name (i := 11) nd rfl (Or.inr rfl))
      (pss_cons (ps_set (i := 12) nd rfl (Or.inl rfl) (pe_callTy (r := rDk K) (call_dk rfl) rfl nD boot_dict' (pa_cons (pe_lc (own := [("name", 16)]) (tt := tYes) (g := gName 16) (te := tTup (tCons (tVar 16) (tCons (tDGet (tVar 11) (tDGet (tVar 3) (tVar 16))) tNil))) rfl nd (pi_list (pv 4)) (blkOk_by (N := NFr) (sc := defScope sFieldR) (by decide +kernel)) (fun _ _ _ _ _ => pg_name (i := 16) nd rfl (Or.inl rfl)) (fun _ _ _ _ _ => pts_nil)
        (fun _ _ _ _ _ => pe_tup (pa_cons (pv 16) (pa_cons (pe_dget hu (pv 11) (pe_dget hu (pv 3) (pv 16) (fun _ _ => rfl)) (fun _ _ => rfl)) pa_nil)))) pa_nil)))
      (pss_cons (ps_if (pt_cmpR (op_ne_dictA hu1) (pe_meth (pv 1) VW.cl mA GA (hr.mono (by decide)) bA .nil passL (pa_cons (pv 11) pa_nil)) (pv 12) (nomark _)) (pss_one ps_never) pss_nil)
      (pss_one (ps_if (PW.pt (pw_and (pt_val (pv 8)) (pw_and1 (pt_cmpR op_ne (pe_meth (pv 1) VW.cl mF GF (hr.mono (by decide)) bF .nil passL (pa_cons (pv 6) (pa_cons (pv 5) (pa_cons (pv 9) (pa_cons (pv 12) pa_nil))))) (pe_dget hu (pv 12) (pv 5) (fun _ _ => rfl)) (nomark _))))) (pss_one ps_never) pss_nil))))) pr, ?_⟩
  intro D H0 l ls a r dl n c ip as F N x known y z s11 s12 s13 s14 s15 s16 B Kn pp fin
  have O := VW.rel.ok B.rel
  have lsh := O.sh
  obtain ⟨dx, fs, ha, no⟩ := VW.rel.ins B.rel
  refine ⟨_, rfl, r, rfl, ⟨_, SqL.of B.orr⟩, for_list (xs := as.map V.ref) (fun i σ H' => Same H0 H' ∧ ∃ s11 s12, σ = [some (.ref l), some (.ref a), some (.ref r), some (.ref dl), some (.ref n), some (.str x), some (.ref c), some (.ref ip), some (.bl (decide (TellsD F known x))), some y, some z, s11, s12, s13, s14, s15, s16])
    ⟨Same.refl _, _, _, rfl⟩ (fun i σ H' _ h => SqL.of (h.1 _ _ B.orr)) ?_ ?_⟩
  · rintro i v σ H1 ev ⟨s1, t11, t12, rfl⟩
    rw [List.getElem?_map] at ev
    obtain ⟨q, eq, rfl⟩ := Option.map_eq_some_iff.mp ev
    have B1 := B.same VW.rel s1
    have K1 := Kn.same VW.rel s1
    obtain ⟨us, eu, oq, lu⟩ := paired_get B1.drows eq
    have um := List.mem_of_getElem? eu
    refine dict_names (ns := F.ns) (g := fun x => .int (av F.nb us (F.φ x))) (fun R h => ⟨_, rfl, n, rfl, ⟨_, SqL.of B1.on⟩, h n H1 (Same.refl _) B1.on⟩) (by omega) O.nd (fun _ => rfl) (fun _ => rfl) (fun y hy H2 Q2 s2 q2 => ?_) fun H2 g s2 ng => ?_
    · have dg : DGet H2 dl (kV (Sum.inr y)) (valV (vN F.ns F.φ) (Sum.inr y)) := DGet.k (k := Sum.inr y) (s2 _ _ B1.odl)
      unfold vN at dg
      rw [dkv_val O.nd hy] at dg
      exact ⟨_, rfl, _, rfl, _, rfl, dl, _, rfl, dg, q, _, rfl, dk_av O.ndb lu (O.fi y hy) ▸ DGet.k (k := Sum.inr (F.φ y)) (s2 _ _ oq), q2 H2 (Same.refl _)⟩
    · have sg := same_new (o := .dK (dkv F.ns fun x => .int (av F.nb us (F.φ x)))) ng
      have og : upd H2 g (.dK (dkv F.ns fun x => .int (av F.nb us (F.φ x)))) g = some (.dK (dkv F.ns fun x => .int (av F.nb us (F.φ x)))) := upd_same
      have s13 := s2.trans sg
      generalize upd H2 g (.dK (dkv F.ns fun x => .int (av F.nb us (F.φ x)))) = H3 at og s13
      have s03 := s1.trans s13
      refine ⟨_, rfl, a, dx, fs, rfl, s03 _ _ ha, no _ (by simp [mths]), _, rfl, a, F, q, _, us, rfl, VW.rel.same B.rel s03, s13 _ _ oq, rowD_dk O.ndb lu, um, fun H4 d4 nd4 od4 s4 => ?_⟩
      refine ⟨_, rfl, d4, g, _, _, rfl, rfl, od4, s4 _ _ og, rfl, fun p hp => ?_, _, rfl, iteF ?_⟩
      · obtain ⟨k, hk, rfl⟩ := List.mem_map.mp hp
        exact ⟨dkv_val O.nd hk, rfl⟩
      · have s04 := s03.trans s4
        by_cases tl : TellsD F known x
        · rw [decide_eq_true tl]
          cases pp with
          | no nt _ => exact absurd tl nt
          | @yes d es _ LA =>
            have klen := nodup_sub Kn.ask.nd Kn.ask.sub
            refine ⟨_, rfl, _, rfl, iteT ?_⟩
            refine ⟨_, rfl, a, dx, fs, rfl, s04 _ _ ha, no _ (by simp [mths]), _, rfl, _, rfl, _, rfl, _, rfl, a, c, d, g, F, known, x, es, _, fun y => av F.nb us (F.φ y), rfl, (Kn.same VW.rel s04).ask, tl, LA.same s04,
              ⟨s4 _ _ og, by rw [dkv_len]; omega, dkv_nd O.nd, fun kv hk => ?_, fun y hy => ?_, fun y hy => dkv_val O.nd (Kn.ask.sub y hy)⟩, us, um, fun _ _ => rfl, fun H5 s5 => ?_⟩
            · obtain ⟨k, _, rfl⟩ := List.mem_map.mp hk
              exact .int _
            · rw [dkv_keys] at hy
              obtain ⟨k, hk, e⟩ := List.mem_map.mp hy
              cases e
              have := (O.ok y hk).2.1
              omega
            · refine ⟨_, rfl, _, rfl, g, _, rfl, dkv_val (g := fun x => V.int (av F.nb us (F.φ x))) O.nd Kn.ask.xin ▸ DGet.k (k := Sum.inr x) ((s4.trans s5) _ _ og), rfl, ?_⟩
              rw [decide_eq_true rfl]
              exact ⟨_, rfl, iteF ⟨s04.trans s5, _, _, rfl⟩⟩
        · rw [decide_eq_false tl]
          exact ⟨_, rfl, _, rfl, iteF (iteF ⟨s04, _, _, rfl⟩)⟩
  · rintro σ H1 ⟨s1, t11, t12, rfl⟩
    exact fin H1 _ _ s1
end
end L2.TB
/-! _law_field_right: what is no plan, the pair; the whole -/
namespace L2.TB
open PySem PySem.Spec PyProof.Rows LamX MK
section
variable {P : Program} {w : World} {K : PySem.W.Frag} {mg : Str → Option Value} {base : Heap} {f C fR : Addr} {fd fdR : FuncData} {RF : Hp → Addr → Fd → Prop} {cdv : Value} {A : Around} {outer : List Env} {s : Shared} {H : Hp} {E : XK} {rest : List Stmt} {u : TS}
theorem lot_ok {w : World} {K : PySem.W.Frag} {F : Fd} (O : FdOk F) {H : Hp} {d : Addr} {es : List En} {known : List Str} {x : Str} (sub : ∀ y ∈ known, y ∈ F.ns) (nd : known.Nodup) (LA : LotAt w H d es (lotD F known x)) :
    PlTh w K H (.ref d) (some (es, List.replicate es.length (true, true))) ∧ planB (lotD F known x) (some (es, List.replicate es.length (true, true))) = true ∧ (∀ p ∈ lotD F known x, p.1.length < 1000) ∧ (lotD F known x).length < 900 := by
  have few : (lotD F known x).length ≤ F.tbl.length := lot_len (ns := F.nb) (known := F.κ known) (x := F.φ x) F.tbl
  have ts := O.ts
  have kb : (F.κ known).length < 1000 := by
    have z := nodup_sub (O.kn _ sub nd) (ns := F.nb) fun y hy => by
      obtain ⟨z, hz, rfl⟩ := (O.ki _ sub y).mp hy
      exact O.fi z (sub z hz)
    have := O.shb
    omega
  obtain ⟨h1, h2⟩ := lot_plan (K := K) LA (lot_nd F.tbl) (lot_short kb) (by omega)
  exact ⟨h1, h2, lot_short kb, by omega⟩
theorem fr_e (VW : Vws P w K mg base C RF) (hr : Room 9 (A.deeper (envOfC "_law_field_right" (defScope sFieldR) s.heap.objs.size f cdv))) (nD : mg "dict" = none) (nL : mg "list" = none)
    (pr : PSs (cxOf CX0 P w K mg base NFr "_law_field_right" (defScope sFieldR) f cdv A outer s H E).nox rest u) :
    ∃ t, PSs (cxOf CX0 P w K mg base NFr "_law_field_right" (defScope sFieldR) f cdv A outer s H E).nox (bodyF.getD 6 no0 :: bodyF.getD 7 no0 :: bodyF.getD 8 no0 :: rest) t ∧
      ∀ (D : Ends) (H0 : Hp) (l ls a r dl n c ip : Addr) (as : List Addr) (F : Fd) (N : Int) (x : Str) (known : List Str) (y z : V) (s11 s12 s13 s14 s15 s16 : Option V), FrB RF H0 l ls a r dl n as F N → FrK K RF H0 a c ip F known x → PPv w H0 F known x y z → 
      (∀ H' s13, Same H0 H' →
        u D [some (.ref l), some (.ref a), some (.ref r), some (.ref dl), some (.ref n), some (.str x), some (.ref c), some (.ref ip), some (.bl (decide (TellsD F known x))), some y, some z, s11, s12, s13, s14, s15, s16] H') →
      t D [some (.ref l), some (.ref a), some (.ref r), some (.ref dl), some (.ref n), some (.str x), some (.ref c), some (.ref ip), some (.bl (decide (TellsD F known x))), some y, some z, s11, s12, s13, s14, s15, s16] H0 := by
  obtain ⟨fP, fdP, mP, bP, GP⟩ := VW.isPlan
  have nd := scFieldR.nd
  have hu := hu_of hr
  refine ⟨_, pss_cons (ps_if (PW.pt (pw_and (pt_val (pv 8)) (pw_and1 (pt_cmpR op_notBl (pe_meth (pv 1) VW.cl mP GP (hr.mono (by decide)) bP .nil passL (pa_cons (pv 6) (pa_cons (pv 5) (pa_cons (pv 9) pa_nil)))) pe_bl (nomark _))))) (pss_one ps_never) pss_nil)
    (pss_cons (ps_set (i := 13) nd rfl (Or.inl rfl) (pe_ifExp (pt_val (pv 8)) (pe_callTy (call_dictPXw (w := w) rfl rfl (hu_in2 hr)) rfl nD boot_dict' (pa_cons (pe_op op_cat (pe_itemsX rfl rfl (pv 9) rfl nL (by decide +kernel)) (pe_lst (pa_cons (pe_tup (pa_cons pe_str (pa_cons pe_int pa_nil))) pa_nil))) pa_nil)) pe_non))
    (pss_cons (ps_if (pt_cmpR op_notBl (pe_meth (pv 1) VW.cl mP GP (hr.mono (by decide)) bP .nil passL (pa_cons (pv 6) (pa_cons (pv 5) (pa_cons (pv 13) pa_nil)))) pe_bl (nomark _)) (pss_one ps_never) pss_nil) pr)), ?_⟩
  intro D H0 l ls a r dl n c ip as F N x known y z s11 s12 s13 s14 s15 s16 B Kn pp fin
  have O := VW.rel.ok B.rel
  obtain ⟨dx, fs, ha, no⟩ := VW.rel.ins B.rel
  cases pp with
  | @yes d es tl LA =>
    obtain ⟨pt, pb, lsh, few⟩ := lot_ok (K := K) O Kn.ask.sub Kn.ask.nd LA
    rw [decide_eq_true tl] at fin ⊢
    refine ⟨_, rfl, _, rfl, iteT ?_⟩
    refine ⟨_, rfl, a, dx, fs, rfl, ha, no _ (by simp [mths]), _, rfl, _, rfl, _, rfl, a, c, F, known, x, .ref d, _, rfl, Kn.ask, pt, fun H1 s1 => ?_⟩
    rw [pb, decide_eq_true tl]
    refine ⟨true, true, rfl, rfl, _, rfl, iteF ?_⟩
    refine ⟨_, rfl, _, rfl, iteT (plan_more rfl (LA.same s1) (lot_nd F.tbl) lsh few fun H2 g ng npl s2 => ?_)⟩
    have s02 := s1.trans s2
    obtain ⟨o, po, pf⟩ := npl.th (K := K)
    refine ⟨_, rfl, a, dx, fs, rfl, s02 _ _ ha, no _ (by simp [mths]), _, rfl, _, rfl, _, rfl, a, c, F, known, x, .ref g, o, rfl, (Kn.same VW.rel s02).ask, po, fun H3 s3 => ?_⟩
    have pf' : planB (lotD F known x) o = false := pf
    rw [pf', Bool.and_false]
    exact ⟨false, false, rfl, rfl, _, rfl, iteF (fin H3 _ (s02.trans s3))⟩
  | @no t p q u' v' nt PA =>
    rw [decide_eq_false nt] at fin ⊢
    refine ⟨_, rfl, _, rfl, iteF (iteF ?_)⟩
    refine ⟨_, rfl, _, rfl, iteF ?_⟩
    refine ⟨_, rfl, a, dx, fs, rfl, ha, no _ (by simp [mths]), _, rfl, _, rfl, _, rfl, a, c, F, known, x, .non, none, rfl, Kn.ask, .odd (.base .non) (by decide +kernel), fun H3 s3 => ?_⟩
    rw [decide_eq_false nt, Bool.false_and]
    exact ⟨false, false, rfl, rfl, _, rfl, iteF (fin H3 _ s3)⟩
theorem fr_f (VW : Vws P w K mg base C RF) (hr : Room 9 (A.deeper (envOfC "_law_field_right" (defScope sFieldR) s.heap.objs.size f cdv))) (FR : Fun K "_law_pair_right" "_law_pair_right" sPairR fR fdR) (gR : mg "_law_pair_right" = some (.ref fR)) (GR : FnOk P w K mg base CX0 9 fR fdR ["view", "rows", "inner", "outer", "pair"] (spPairR K RF))
    (pr : PSs (cxOf CX0 P w K mg base NFr "_law_field_right" (defScope sFieldR) f cdv A outer s H E).nox rest u) :
    ∃ t, PSs (cxOf CX0 P w K mg base NFr "_law_field_right" (defScope sFieldR) f cdv A outer s H E).nox (bodyF.getD 9 no0 :: bodyF.getD 10 no0 :: rest) t ∧
      ∀ (D : Ends) (H0 : Hp) (l ls a r dl n c ip : Addr) (as : List Addr) (F : Fd) (N : Int) (x : Str) (known : List Str) (y z : V) (s11 s12 s13 s14 s15 s16 : Option V), FrB RF H0 l ls a r dl n as F N → FrK K RF H0 a c ip F known x → PPv w H0 F known x y z → 
      (∀ H' s14 s15, Same H0 H' →
        u D [some (.ref l), some (.ref a), some (.ref r), some (.ref dl), some (.ref n), some (.str x), some (.ref c), some (.ref ip), some (.bl (decide (TellsD F known x))), some y, some z, s11, s12, s13, s14, s15, s16] H') →
      t D [some (.ref l), some (.ref a), some (.ref r), some (.ref dl), some (.ref n), some (.str x), some (.ref c), some (.ref ip), some (.bl (decide (TellsD F known x))), some y, some z, s11, s12, s13, s14, s15, s16] H0 := by
  have bR := FR.binds (ps := ["view", "rows", "inner", "outer", "pair"]) fun _ _ _ _ _ _ us hl => match us, hl with | [_, _, _, _, _], _ => rfl
  have nd := scFieldR.nd
  have hu := hu_of hr
  refine ⟨_, pss_cons (ps_par (i := 14) (j := 15) rfl nd rfl rfl (by decide) rfl rfl (pa_cons (pe_lst (pa_cons (pv 7) (pa_cons (pe_dget hu (pv 3) (pv 5) (fun _ _ => rfl)) pa_nil))) (pa_cons (pe_lst (pa_cons (pv 6) (pa_cons (pv 5) pa_nil))) pa_nil)) (by rfl))
    (pss_cons (ps_if (PW.pt (pw_and (pt_not (pt_val (pv 8))) (pw_and1 (pt_not (pt_val (pe_call GR hr rfl gR FR.kp bR .nil pass0 (pa_cons (pv 1) (pa_cons (pv 2) (pa_cons (pv 14) (pa_cons (pv 15) (pa_cons (pv 10) pa_nil))))))))))) (pss_one ps_never) pss_nil) pr), ?_⟩
  intro D H0 l ls a r dl n c ip as F N x known y z s11 s12 s13 s14 s15 s16 B Kn pp fin
  have O := VW.rel.ok B.rel
  have dg : ∀ {H' : Hp}, Same H0 H' → DGet H' dl (kV (Sum.inr x)) (some (.str (F.φ x))) := fun {H'} s => by
    have z : DGet H' dl (kV (Sum.inr x)) (valV (vN F.ns F.φ) (Sum.inr x)) := DGet.k (k := Sum.inr x) (s _ _ B.odl)
    unfold vN at z
    rw [dkv_val O.nd Kn.ask.xin] at z
    exact z
  refine ⟨_, rfl, _, rfl, _, rfl, dl, _, rfl, dg (Same.refl _), (by show 2 ≤ sizeLine; decide), fun i ni => ?_⟩
  have si := same_new (o := .lst [.ref ip, .str (F.φ x)]) ni
  have oi : upd H0 i (.lst [.ref ip, .str (F.φ x)]) i = some (.lst [.ref ip, .str (F.φ x)]) := upd_same
  generalize upd H0 i (.lst [.ref ip, .str (F.φ x)]) = H1 at si oi
  refine ⟨_, rfl, _, rfl, (by show 2 ≤ sizeLine; decide), fun o no => ?_⟩
  have so := same_new (o := .lst [.ref c, .str x]) no
  have oo : upd H1 o (.lst [.ref c, .str x]) o = some (.lst [.ref c, .str x]) := upd_same
  generalize upd H1 o (.lst [.ref c, .str x]) = H2 at so oo
  have s02 := si.trans so
  refine ⟨_, _, rfl, ?_⟩
  cases pp with
  | @yes d es tl LA =>
    rw [decide_eq_true tl] at fin
    show _
    refine ⟨_, rfl, _, rfl, ?_⟩
    rw [decide_eq_true tl]
    exact iteF (iteF (fin H2 _ _ s02))
  | @no t p q u' v' nt PA =>
    rw [decide_eq_false nt] at fin
    refine ⟨_, rfl, _, rfl, ?_⟩
    rw [decide_eq_false nt]
    have B2 := B.same VW.rel s02
    have K2 := Kn.same VW.rel s02
    refine iteT ⟨_, rfl, _, rfl, _, rfl, _, rfl, _, rfl, a, r, i, o, t, ip, c, p, q, as, F, known, x, u', v', rfl, K2.ask, nt, B2.orr, B2.drows, so _ _ oi, .inl K2.oi, oo, pair_same PA s02, fun H3 s3 => ⟨_, rfl, iteF (fin H3 _ _ (s02.trans s3))⟩⟩
end
end L2.TB
/-! _law_field_right, whole -/
namespace L2.TB
open PySem PySem.Spec PyProof.Rows LamX MK
def spFieldR (RF : Hp → Addr → Fd → Prop) : Sp := fun vs H Q _ => ∃ (l ls a r dl n : Addr) (as : List Addr) (F : Fd) (N : Int), vs = [.ref l, .ref a, .ref r, .ref dl, .ref n] ∧ FrB RF H l ls a r dl n as F N ∧ N ≤ 700000 ∧ ∀ H', But l ls H H' → Strm H' l ls (N + 200 * (F.ns.length : Nat)) → Q (.bl true) H'
section
variable {P : Program} {w : World} {K : PySem.W.Frag} {mg : Str → Option Value} {base : Heap} {f C fR fO fT fS : Addr} {fd fdR fdO fdT fdS : FuncData} {RF : Hp → Addr → Fd → Prop}
theorem ok_fieldR (FF : Fun K "_law_field_right" "_law_field_right" sFieldR f fd) (VW : Vws P w K mg base C RF) (FO : Fun K "_law_t_some" "_law_t_some" sSome fO fdO) (gO : mg "_law_t_some" = some (.ref fO)) (GO : FnOk P w K mg base CX0 3 fO fdO ["stream", "names"] (spSome K))
    (FT : Fun K "_law_t_tells" "_law_t_tells" sTells fT fdT) (gTl : mg "_law_t_tells" = some (.ref fT)) (GT : FnOk P w K mg base CX0 2 fT fdT ["rows", "known", "asked"] (spTells K))
    (FS : Fun K "_law_same" "_law_same" sSame fS fdS) (gS : mg "_law_same" = some (.ref fS)) (GS : FnOk P w K mg base CX0 2 fS fdS ["found", "due"] (spSameF w 1))
    (FR : Fun K "_law_pair_right" "_law_pair_right" sPairR fR fdR) (gR : mg "_law_pair_right" = some (.ref fR)) (GR : FnOk P w K mg base CX0 9 fR fdR ["view", "rows", "inner", "outer", "pair"] (spPairR K RF)) (nD : mg "dict" = none) (nL : mg "list" = none) :
    FnOk P w K mg base CX0 10 f fd ["stream", "view", "rows", "led", "names"] (spFieldR RF) := by
  obtain ⟨fH, fdH, mH, bH, GH⟩ := VW.home
  refine FF.ok scFieldR (fun vs H Q E h => by obtain ⟨l, ls, a, r, dl, n, as, F, N, e, _⟩ := h; rw [e]; rfl) fun cdv A outer s H vs Q E hr hsp => ?_
  obtain ⟨l, ls, a, r, dl, n, as, F, N, rfl, B, hN, hq⟩ := hsp
  have nd := scFieldR.nd
  have hu64 := hr.units
  obtain ⟨tF, pF, rF⟩ := fr_f (outer := outer) (H := H) (E := E) VW hr FR gR GR pss_nil
  obtain ⟨tE, pE, rE⟩ := fr_e (outer := outer) (H := H) (E := E) VW hr nD nL pF
  obtain ⟨tD, pD, rD⟩ := fr_d (outer := outer) (H := H) (E := E) VW hr nD pE
  obtain ⟨tC, pC, rC⟩ := fr_c (outer := outer) (H := H) (E := E) VW hr FS gS GS pD
  obtain ⟨tB, pB, rB⟩ := fr_b (outer := outer) (H := H) (E := E) VW hr pC
  obtain ⟨tA, pA, rA⟩ := fr_a (outer := outer) (H := H) (E := E) VW hr FO gO GO FT gTl GT pB
  refine ⟨_, pss_cons (ps_for PassesOwn.never rfl (pi_list (pv 4)) (pg_name (i := 5) nd rfl (Or.inl rfl)) pA)
    (pss_one (ps_ret (pe_cmpR (r := rInRows w) (op_inRows rfl hu64) (pe_meth0 (pv 1) VW.cl mH GH (hr.mono (by decide)) bH .nil passL) (pv 2) rfl))), ?_⟩
  have O := VW.rel.ok B.rel
  have lsh := O.sh
  refine ⟨_, rfl, n, rfl, ⟨_, SqL.of B.on⟩, for_list (xs := F.ns.map V.str) (fun i σ H' => FrB RF H' l ls a r dl n as F (N + 200 * (i : Nat)) ∧ But l ls H H' ∧ ∃ s5 s6 s7 s8 s9 s10 s11 s12 s13 s14 s15 s16, σ = [some (.ref l), some (.ref a), some (.ref r), some (.ref dl), some (.ref n), s5, s6, s7, s8, s9, s10, s11, s12, s13, s14, s15, s16])
    ⟨by simpa using B, But.of (Same.refl _), _, _, _, _, _, _, _, _, _, _, _, _, rfl⟩ (fun i σ H' _ h => SqL.of h.1.on) ?_ ?_⟩
  · rintro i v σ H1 ev ⟨B1, b1, t5, t6, t7, t8, t9, t10, t11, t12, t13, t14, t15, t16, rfl⟩
    rw [List.getElem?_map] at ev
    obtain ⟨x, ex, rfl⟩ := Option.map_eq_some_iff.mp ev
    have hi : i < F.ns.length := (List.getElem?_eq_some_iff.mp ex).1
    refine rA _ H1 l ls a r dl n as F _ x _ _ _ _ _ _ _ _ _ _ _ B1 (by omega) (List.mem_of_getElem? ex) fun H2 c ip known B2 b2 K2 => ?_
    refine rB _ H2 l ls a r dl n c ip as F _ x known _ _ _ _ _ _ _ _ B2 K2 fun H3 y z s3 p3 => ?_
    have B3 := B2.same VW.rel s3
    have K3 := K2.same VW.rel s3
    refine rC _ H3 l ls a r dl n c ip as F _ x known y z _ _ _ _ _ _ B3 K3 p3 fun H4 s4 => ?_
    have B4 := B3.same VW.rel s4
    have K4 := K3.same VW.rel s4
    refine rD _ H4 l ls a r dl n c ip as F _ x known y z _ _ _ _ _ _ B4 K4 (p3.same s4) fun H5 _ _ s5 => ?_
    have B5 := B4.same VW.rel s5
    have K5 := K4.same VW.rel s5
    refine rE _ H5 l ls a r dl n c ip as F _ x known y z _ _ _ _ _ _ B5 K5 (p3.same (s4.trans s5)) fun H6 _ s6 => ?_
    have B6 := B5.same VW.rel s6
    refine rF _ H6 l ls a r dl n c ip as F _ x known y z _ _ _ _ _ _ B6 (K5.same VW.rel s6) (p3.same (s4.trans (s5.trans s6))) fun H7 _ _ s7 => ?_
    have B7 := B6.same VW.rel s7
    have e : N + 200 * ((i + 1 : Nat) : Int) = N + 200 * (i : Nat) + 200 := by omega
    exact ⟨by rw [e]; exact B7, b1.trans (b2.trans (But.of (s3.trans (s4.trans (s5.trans (s6.trans s7)))))), _, _, _, _, _, _, _, _, _, _, _, _, rfl⟩
  · rintro σ H1 ⟨B1, b1, t5, t6, t7, t8, t9, t10, t11, t12, t13, t14, t15, t16, rfl⟩
    rw [List.length_map] at B1
    obtain ⟨dx, fs, ha, no⟩ := VW.rel.ins B1.rel
    obtain ⟨u, hu⟩ : ∃ u, F.tbl[0]? = some u := by
      cases h : F.tbl with
      | nil => exact absurd h O.tn
      | cons u _ => exact ⟨u, rfl⟩
    have um := List.mem_of_getElem? hu
    refine ⟨_, rfl, a, dx, fs, rfl, ha, no _ (by simp [mths]), a, F, rfl, B1.rel, fun u2 hu2 H2 q nq oq s2 => ?_⟩
    rw [hu] at hu2
    obtain rfl := Option.some.inj hu2
    have B2 := B1.same VW.rel s2
    refine ⟨_, rfl, r, as, F.nb, F.tbl, rfl, B2.orr, B2.drows, O.ndb, .inl ⟨q, u, rfl, oq, O.ls u um, ?_⟩⟩
    rw [decide_eq_true um]
    exact hq H2 (b1.trans (But.of s2)) B2.S
end
end L2.TB
/-! == of lists, tuples and dicts within one another, alike ones -/
namespace L2.TB
open PySem PySem.Spec PyProof.Rows
/-- alike, of nesting below n -/
def EqW (K : PySem.W.Frag) (H : Hp) : Nat → V → V → Prop
  | 0 => fun _ _ => False
  | n + 1 => fun x y => (x = y ∧ flatB x = true) ∨ (∃ a, x = .ref a ∧ y = .ref a) ∨ EqR K H (EqW K H n) x y ∨ ∃ a b xs ys, x = .ref a ∧ y = .ref b ∧ SqT K H a xs ∧ SqT K H b ys ∧ Paired (EqW K H n) xs ys
section
variable {X : Cx} {pins : List (Addr × Obj)} {σ : L2.St} {H : Hp} {s : Shared}
theorem tups_run (I : Inv X pins σ H s) {A : Around} {F : V → V → Prop} (hu : A.units < cLine) (ih : ∀ x y v u, F x y → RelV x v → RelV y u → SeqAt.EqP X.prog X.w A.in1 s v u true) {a b : Addr} {xs ys : List V} (ha : SqT X.K H a xs) (hb : SqT X.K H b ys) (hp : Paired F xs ys)
    (E Q : Value → Shared → Prop) (q : Q (.bool true) s) : wpAny (model X.prog X.w) A (richCompare .Eq (.ref a) (.ref b)) Q E s := by
  obtain ⟨us, r1, p1, _⟩ := I.tuple ha
  obtain ⟨ws, r2, p2, _⟩ := I.tuple hb
  have hsz : us.toArray.size = ws.toArray.size := by
    rw [List.size_toArray, List.size_toArray, ← r1.length, ← r2.length]
    exact Paired.length hp
  refine SeqAt.rcIn_tuples (e := fun _ => true) p1 p2 hu (fun j h1 h2 => ?_) ?_
  · have k := items_run ih hp r1 r2 j (by simpa using h1) (by simpa using h2)
    show SeqAt.EqP _ _ _ _ _ _ _
    simpa using k
  · rw [show ((List.range (min us.toArray.size ws.toArray.size)).all fun _ => true) = true from List.all_eq_true.mpr fun _ _ => rfl, hsz]
    simpa using q
theorem eqW_run (I : Inv X pins σ H s) : ∀ (n : Nat) (A : Around), A.units + n < cLine → ∀ (x y : V) (v u : Value), EqW X.K H n x y → RelV x v → RelV y u → SeqAt.EqP X.prog X.w A s v u true
  | 0, _, _, _, _, _, _, h, _, _ => (show False from h).elim
  | n + 1, A, hu, x, y, v, u, h, rx, ry => by
    have more := eqW_run I n A.in1 (by show A.units + 1 + n < cLine; omega)
    have two : ∀ a b : Addr, v = Value.ref a → u = Value.ref b → (∀ (E Q : Value → Shared → Prop), Q (.bool true) s → wpAny (model X.prog X.w) A (richCompare .Eq v u) Q E s) → SeqAt.EqP X.prog X.w A s v u true := fun a b ev eu step => by
      subst ev eu
      by_cases e : a = b
      · subst e
        exact (SeqAt.EqAt.same _).eqP
      · exact SeqAt.eqP_refs e step
    rcases h with ⟨rfl, f⟩ | ⟨a, rfl, rfl⟩ | h | ⟨a, b, xs, ys, rfl, rfl, ha, hb, hp⟩
    · exact (eqAt_same rx ry f).eqP
    · cases (show v = Value.ref a from rx)
      cases (show u = Value.ref a from ry)
      exact (SeqAt.EqAt.same _).eqP
    · have step := eqR_run I (A := A) (by omega) more h rx ry
      obtain ⟨a, b, rfl, rfl⟩ : ∃ a b, x = .ref a ∧ y = .ref b := by
        rcases h with ⟨a, b, _, _, e1, e2, _⟩ | ⟨a, b, _, _, e1, e2, _⟩
        · exact ⟨a, b, e1, e2⟩
        · exact ⟨a, b, e1, e2⟩
      exact two a b rx ry step
    · cases (show v = Value.ref a from rx)
      cases (show u = Value.ref b from ry)
      exact two a b rfl rfl (tups_run I (A := A) (by omega) more ha hb hp)
end
section
variable {X : Cx}
/-- two lists of alike things -/
def rEqW (K : PySem.W.Frag) : R2 := fun x y H Q => ∃ n, n ≤ 60 ∧ EqR K H (EqW K H n) x y ∧ Q (.bl true) H
theorem op_eqW (hu : X.A.units + 64 < cLine) : OpR X (compareOp .Eq) (rEqW X.K) := by
  intro pins s σ H x y v u Q I rx ry h
  obtain ⟨n, hn, h, q⟩ := h
  exact eqR_run I (A := X.A) (by omega) (eqW_run I n X.A.in1 (by show X.A.units + 1 + n < cLine; omega)) h rx ry _ _ ⟨.bl true, H, I, rfl, q⟩
end
end L2.TB
/-! _law_refused_right: the three walks -/
namespace L2.TB
open PySem PySem.Spec PyProof.Rows LamX MK
theorem fz_dpA {w : World} {K : PySem.W.Frag} {H : Hp} {s : Str} {v : V} {dv : PyData} {u : V} (hd : Dp K H v dv) (h : FzAt w H (.tu [.one (.str s), .one v]) u) : Dp K H u (.tuple [.str s, dv]) := by
  generalize e : Tr.tu [.one (.str s), .one v] = t at h
  cases h with
  | one h => cases e
  | di h a => cases e
  | dx h m a => cases e
  | @tu a us ts h len sh al =>
    cases e
    match us, len with
    | [x, y], _ =>
      have h0 := al 0 x _ rfl rfl
      have h1 := al 1 y _ rfl rfl
      cases h0
      cases h1
      exact .tup (SqT.of h) (.cons (.str s) (.cons hd .nil))
section
variable {w : World} {K : PySem.W.Frag} {cs : List Clz} {CU : Addr} {T : List (Addr × Str)} {t : XK → TE} {te : TE} {σ : L2.St} {H : Hp} {c : Clz} {v : V} {dv : PyData} {B : Bool → Hp → Prop}
/-- _law_tried(lambda: ..) != (word, v) -/
theorem ne_readA (at_ : Atom v) (hd : ∀ H, Dp K H v dv) (sh : SeqAt.shaped (.tuple [.str c.tag, dv]) = true) (TH : Tabs T H) (hc : c ∈ cs) (hte : ∀ H2 (Q : VK), Q v H2 → te σ H2 Q)
    (call : ∀ (H1 : Hp) (E : XK) (R : VK), ExtN H H1 → Tabs T H1 → Flies c.C c.fld v H1 E → t E σ H1 R) (next : ∀ H', ExtN H H' → Tabs T H' → B false H') :
    tTest (tOp (rNeD K) (tLam T (TTr cs CU (spFrozen w 1)) t) (tTup (tCons (tC (.str c.tag)) (tCons te tNil)))) σ H B := by
  refine ⟨TH, fun H1 eN T1 E R hE => call H1 E R eN T1 (tried_by hc (n := 0) (tr := .one v) (.one at_) (fun H2 u s2 f2 => ?_) E hE)⟩
  refine hte _ _ ⟨(by show 2 ≤ sizeLine; decide), fun p np => ?_⟩
  have sp := same_new (o := .tup [.str c.tag, v]) np
  have d1 := fz_dpA (K := K) (hd _) (f2.same sp)
  have d2 : Dp K (upd H2 p (.tup [.str c.tag, v])) (.ref p) (.tuple [.str c.tag, dv]) := .tup (SqT.of upd_same) (.cons (.str _) (.cons (hd _) .nil))
  refine ⟨_, _, d1, d2, sh, sh, ?_⟩
  have e : PyData.eqv (.tuple [.str c.tag, dv]) (.tuple [.str c.tag, dv]) = true := SeqAt.eqv_refl _ (Bool.and_eq_true_iff.mp sh).1
  refine ⟨_, rfl, ?_⟩
  show B (!PyData.eqv (.tuple [.str c.tag, dv]) (.tuple [.str c.tag, dv])) _
  rw [e]
  exact next _ (eN.trans (ExtN.of (s2.trans sp))) (T1.ext (s2.trans sp))
end
theorem NoStr.ext {K : PySem.W.Frag} {H H' : Hp} {v : V} (h : NoStr K H v) (s : ExtN H H') : NoStr K H' v := let ⟨t, a, b⟩ := h; ⟨t, ty_ext a s, b⟩
theorem EnV.ext {K : PySem.W.Frag} {H H' : Hp} {ns : List Str} {kv : Key × V} {b : Bool} (h : EnV K H ns kv b) (s : ExtN H H') : EnV K H' ns kv b := by
  cases h with
  | key h => exact .key h
  | str h => exact .str h
  | no h n => exact .no h (n.ext s)
theorem VwBad.ext {K : PySem.W.Frag} {H H' : Hp} {ns : List Str} {d : Addr} {kvs : List (Key × V)} {j : Nat} (h : VwBad K H ns d kvs j) (s : ExtN H H') : VwBad K H' ns d kvs j :=
  ⟨s _ _ h.o (fun _ z => by cases z), h.nd, h.sh, h.few, fun i kv lt e => (h.good i kv lt e).ext s⟩
/-- a dict of names that is refused at k -/
def NmBad (K : PySem.W.Frag) (ns : List Str) (d : Addr) (k : Key) (H : Hp) : Prop := ∃ kvs j x, VwBad K H ns d kvs j ∧ kvs[j]? = some (k, x) ∧ EnV K H ns (k, x) false
theorem NmBad.ext {K : PySem.W.Frag} {ns : List Str} {d : Addr} {k : Key} {H H' : Hp} (h : NmBad K ns d k H) (s : ExtN H H') : NmBad K ns d k H' := let ⟨kvs, j, x, b, e, n⟩ := h; ⟨kvs, j, x, b.ext s, e, n.ext s⟩
/-- what is no dict, or an empty one -/
def NoDict (K : PySem.W.Frag) (v : V) (H : Hp) : Prop := (∃ t : String, TyX K H v (.type t) ∧ kitB t "dict" = some false) ∨ ∃ d, v = .ref d ∧ H d = some (.dK [])
theorem NoDict.ext {K : PySem.W.Frag} {v : V} {H H' : Hp} (h : NoDict K v H) (s : ExtN H H') : NoDict K v H' := by
  rcases h with ⟨t, a, b⟩ | ⟨d, e, o⟩
  · exact .inl ⟨t, ty_ext a s, b⟩
  · exact .inr ⟨d, e, s _ _ o (fun _ z => by cases z)⟩
abbrev NRr : List Str := ["table", "view", "rows", "names", "first", "odd", "due", "found", "plan", "twin", "odd_two", "one", "k", "name"]
theorem scRr : FnScope NRr ["table", "view", "rows", "names"] (defScope sRefR) := ⟨rfl, rfl, rfl, by decide +kernel, rfl, by decide +kernel, by decide +kernel⟩
/-- what the view's class is made with -/
structure VwK (P : Program) (w : World) (K : PySem.W.Frag) (mg : Str → Option Value) (base : Heap) (C CT CV : Addr) : Prop where
  g : mg "View" = some (.ref C)
  ini : ∃ f fd, Mk K C f ∧ Binds K fd ["self", "field", "names"] [] ∧ FnOk P w K mg base (L2.CX P w) 3 f fd ["self", "field", "names"] (spVI K C CV (RT CT)) ∧ FnOk P w K mg base (L2.CX P w) 3 f fd ["self", "field", "names"] (spVI K C CV (RV C (RT CT)))
section
variable {P : Program} {w : World} {K : PySem.W.Frag} {mg : Str → Option Value} {base : Heap} {f C CT c Pt : Addr} {EA : ErrA} {T : List (Addr × Str)} {A : Around} {outer : List Env} {s : Shared} {H : Hp} {E : XK}
theorem rf_1 (R : Trd P w K mg EA) (VK : VwK P w K mg base C CT EA.CV) (TB : TabB base mg c Pt) (hm : (Pt, (envOfC "_law_refused_right" (defScope sRefR) s.heap.objs.size f (.ref c)).qual ++ "<lambda>") ∈ T) (hu : ∀ p ∈ T, p.1 = Pt → p.2 = (envOfC "_law_refused_right" (defScope sRefR) s.heap.objs.size f (.ref c)).qual ++ "<lambda>")
    (hr : Room 10 (A.deeper (envOfC "_law_refused_right" (defScope sRefR) s.heap.objs.size f (.ref c)))) :
    ∃ t, PS (cxOf CX0 P w K mg base NRr "_law_refused_right" (defScope sRefR) f (.ref c) A outer s H E).nox ((defBody sRefR).getD 1 no0) t ∧ ∀ (D : Ends) (H0 : Hp) (tb : Addr) (F : Fd) (o1 o2 o3 o4 o5 o6 o7 o8 o9 o10 o11 o12 o13 : Option V),
      RT CT H0 tb F → Tabs T H0 → (∀ H' o5, ExtN H0 H' → Tabs T H' → D.nx [some (.ref tb), o1, o2, o3, o4, o5, o6, o7, o8, o9, o10, o11, o12, o13] H') → t D [some (.ref tb), o1, o2, o3, o4, o5, o6, o7, o8, o9, o10, o11, o12, o13] H0 := by
  obtain ⟨fI, fdI, M, bI, GI, _⟩ := VK.ini
  have nd := scRr.nd
  have hu64 := hr.units
  refine ⟨_, ps_for PassesOwn.never rfl (pi_list (pe_lst (pa_cons pe_non (pa_cons pe_int (pa_cons (pe_lst pa_nil) (pa_cons pe_dnewK (pa_cons pe_str pa_nil))))))) (pg_name (i := 5) nd rfl (Or.inr rfl))
    (pss_one (ps_if (pt_cmpR (r := rNeD K) (op_neD hu64) (pe_tried R 1 rfl TB rfl hm hu hr (by decide) (lamS_by (by show lamSB (defScope sRefR) _ = true; decide +kernel)) rfl (fun _ _ _ _ _ => rfl) (fun A outer s H E f c' hr => pe_make M GI (hr.mono (by decide)) rfl VK.g bI .nil (passes (takes_of rfl rfl rfl rfl)) (pa_cons (pv 0) (pa_cons (pv 5) pa_nil))))
      (pe_tup (pa_cons pe_str (pa_cons pe_non pa_nil))) (nomark _)) (pss_one ps_never) pss_nil)), ?_⟩
  intro D H0 tb F o1 o2 o3 o4 o5 o6 o7 o8 o9 o10 o11 o12 o13 rt T0 fin
  have sI : ∀ H H' : Hp, Same H H' → (fun _ : Hp => True) H → (fun _ : Hp => True) H' := fun _ _ _ _ => trivial
  have sR : ∀ v H H', Same H H' → NoDict K v H → NoDict K v H' := fun v H H' s h => h.ext (ExtN.of s)
  refine odd_for (n := 5) (I := fun _ => True) (R := NoDict K) (Sh := fun σ => ∃ o5, σ = [some (.ref tb), o1, o2, o3, o4, o5, o6, o7, o8, o9, o10, o11, o12, o13]) (by omega) sR ?_ trivial T0 ⟨_, rfl⟩ ?_ ?_
  · exact (gvA_cons sI sR (gv_c fun H _ => .inl ⟨_, .base .non, by decide +kernel⟩) (gvA_cons sI sR (gv_c fun H _ => .inl ⟨_, .base (.int 5), by decide +kernel⟩)
      (gvA_cons sI sR (gv_new sI (.lst []) (fun H Q _ h => ⟨(by show 0 ≤ sizeLine; decide), h⟩) (fun H p _ o => .inl ⟨_, .base (.lst o), by decide +kernel⟩))
      (gvA_cons sI sR (gv_new sI (.dK []) (fun H Q _ h => h) (fun H p _ o => .inr ⟨p, rfl, o⟩))
      (gvA_cons sI sR (gv_c fun H _ => .inl ⟨_, .base (.str _), by decide +kernel⟩) gvA_nil)))))
  · rintro C' HL x σ' H' k0L O e TH ⟨o5, rfl⟩ next
    have e0 := (ExtN.of k0L).trans e
    have O' := O.ext e
    have hc : (⟨"BadView", EA.CV, "view", "name"⟩ : Clz) ∈ clz6 EA := by simp [clz6]
    dsimp only [gName, List.set]
    unfold tIfS
    refine ne_readA (w := w) (c := ⟨"BadView", EA.CV, "view", "name"⟩) (v := .non) (dv := .none) .non (fun _ => .non) (show SeqAt.shaped (.tuple [.str "view", .none]) = true by decide +kernel) TH hc (fun H2 Q q => q) (fun H2 E R e2 T2 hf => ?_) (fun H2 e2 T2 => iteF (next _ _ e2 T2 ⟨_, rfl⟩))
    have r2 := (rt_rel CT).ext rt (e0.trans e2)
    refine ⟨_, rfl, _, rfl, fun y dx nx ndx nex => ?_⟩
    have qx : Same H2 (upd (upd H2 dx (.own y)) y (.ins C dx [])) := fun b o e => by rw [upd_ne (ne_of_none e nx), upd_ne (ne_of_none e ndx)]; exact e
    refine ⟨y, tb, dx, F, x, rfl, upd_same, (rt_rel CT).same r2 qx, ?_⟩
    rcases (O'.ext e2).ext (ExtN.of qx) with h | ⟨d, rfl, h⟩
    · exact .inl ⟨h, hf.same qx⟩
    · exact .inr (.inl ⟨d, rfl, h, hf.same qx⟩)
  · rintro σ' H' e TH ⟨o5, rfl⟩
    exact fin H' _ e TH
end
end L2.TB
/-! _law_refused_right: the second and the third walk -/
namespace L2.TB
open PySem PySem.Spec PyProof.Rows LamX MK
section
variable {P : Program} {w : World} {K : PySem.W.Frag} {mg : Str → Option Value} {base : Heap} {f C CT c Pt : Addr} {EA : ErrA} {T : List (Addr × Str)} {A : Around} {outer : List Env} {s : Shared} {H : Hp} {E : XK}
theorem lit_short {x : Str} {ks : List Str} (h : ks.all (fun y => decide (y.cps.toList.length < 1000)) = true) (m : x ∈ ks) : x.cps.toList.length < 1000 := of_decide_eq_true (List.all_eq_true.mp h x m)
/-- a dict of one name, which is none -/
theorem bad_one {K : PySem.W.Frag} {H : Hp} {ns : List Str} {d : Addr} {k : Key} {v : V} (o : H d = some (.dK [(k, v)])) (no : keyNm k = false) (sh : ∀ x, k = Sum.inr x → x.cps.toList.length < 1000) : NmBad K ns d k H :=
  ⟨[(k, v)], 0, v, ⟨o, by simp, by show 1 < 1000; omega, fun kv h x e => sh x (by rw [List.mem_singleton.mp h] at e; exact e), fun i kv lt => absurd lt (Nat.not_lt_zero i)⟩, rfl, .key no⟩
/-- the second of the names is none -/
theorem bad_two {K : PySem.W.Frag} {H : Hp} {ns : List Str} {d : Addr} {x0 : Str} {v : V} {more : List (Key × V)} (o : H d = some (.dK ((Sum.inr "v1", .str x0) :: (Sum.inr "v2", v) :: more))) (x0n : x0 ∈ ns) (nd : (((Sum.inr "v1" : Key), V.str x0) :: (Sum.inr "v2", v) :: more).map (·.1) |>.Nodup)
    (sh : more.length < 900) (ks : ∀ kv ∈ more, ∀ x, kv.1 = Sum.inr x → x.cps.toList.length < 1000) (n : EnV K H ns (Sum.inr "v2", v) false) : NmBad K ns d (Sum.inr "v2") H := by
  have z : EnV K H ns ((Sum.inr "v1" : Key), V.str x0) (decide (x0 ∈ ns)) := .str (by decide +kernel)
  rw [decide_eq_true x0n] at z
  refine ⟨_, 1, v, ⟨o, nd, by rw [List.length_cons, List.length_cons]; omega, fun kv h x e => ?_, fun i kv lt ei => ?_⟩, rfl, n⟩
  · rcases List.mem_cons.mp h with rfl | h
    · cases e; decide +kernel
    · rcases List.mem_cons.mp h with rfl | h
      · cases e; decide +kernel
      · exact ks kv h x e
  · obtain rfl : i = 0 := by omega
    obtain rfl := Option.some.inj ei
    exact z
theorem rf_2 (R : Trd P w K mg EA) (VK : VwK P w K mg base C CT EA.CV) (TB : TabB base mg c Pt) (hm : (Pt, (envOfC "_law_refused_right" (defScope sRefR) s.heap.objs.size f (.ref c)).qual ++ "<lambda>") ∈ T) (hu : ∀ p ∈ T, p.1 = Pt → p.2 = (envOfC "_law_refused_right" (defScope sRefR) s.heap.objs.size f (.ref c)).qual ++ "<lambda>")
    (hr : Room 10 (A.deeper (envOfC "_law_refused_right" (defScope sRefR) s.heap.objs.size f (.ref c)))) :
    ∃ t, PS (cxOf CX0 P w K mg base NRr "_law_refused_right" (defScope sRefR) f (.ref c) A outer s H E).nox ((defBody sRefR).getD 2 no0) t ∧ ∀ (D : Ends) (H0 : Hp) (tb : Addr) (F : Fd) (x0 : Str) (o1 o2 o3 o5 o6 o7 o8 o9 o10 o11 o12 o13 : Option V),
      RT CT H0 tb F → x0 ∈ F.ns → Tabs T H0 → (∀ H' o5 o6, ExtN H0 H' → Tabs T H' → D.nx [some (.ref tb), o1, o2, o3, some (.str x0), o5, o6, o7, o8, o9, o10, o11, o12, o13] H') → t D [some (.ref tb), o1, o2, o3, some (.str x0), o5, o6, o7, o8, o9, o10, o11, o12, o13] H0 := by
  obtain ⟨fI, fdI, M, bI, GI, _⟩ := VK.ini
  have nd := scRr.nd
  have hu64 := hr.units
  refine ⟨_, ps_for PassesOwn.never rfl (pi_list (pe_lst (pa_cons (pe_tup (pa_cons (pe_disp (pps_cons pe_str (pv 4) (pps_cons pe_str pe_str (pps_cons pe_str pe_non pps_nil))) rfl rfl (by decide) (by decide)) (pa_cons pe_str pa_nil))) (pa_cons (pe_tup (pa_cons (pe_disp (pps_cons pe_str (pv 4) pps_nil) rfl rfl (by decide) (by decide)) (pa_cons pe_str pa_nil)))
      (pa_cons (pe_tup (pa_cons (pe_disp (pps_cons pe_int (pv 4) pps_nil) rfl rfl (by decide) (by decide)) (pa_cons pe_int pa_nil))) pa_nil))))) (pg_tup rfl (pgs_cons (pg_name (i := 5) nd rfl (Or.inr rfl)) (pgs_cons (pg_name (i := 6) nd rfl (Or.inl rfl)) pgs_nil)))
    (pss_one (ps_if (pt_cmpR (r := rNeD K) (op_neD hu64) (pe_tried R 1 rfl TB rfl hm hu hr (by decide) (lamS_by (by show lamSB (defScope sRefR) _ = true; decide +kernel)) rfl (fun _ _ _ _ _ => rfl) (fun A outer s H E f c' hr => pe_make M GI (hr.mono (by decide)) rfl VK.g bI .nil (passes (takes_of rfl rfl rfl rfl)) (pa_cons (pv 0) (pa_cons (pv 5) pa_nil))))
      (pe_tup (pa_cons pe_str (pa_cons (pv 6) pa_nil))) (nomark _)) (pss_one ps_never) pss_nil)), ?_⟩
  intro D H0 tb F x0 o1 o2 o3 o5 o6 o7 o8 o9 o10 o11 o12 o13 rt x0n T0 fin
  have O := (rt_rel CT).ok rt
  let R1 : V → Hp → Prop := fun v H => ∃ t d k dv, v = .ref t ∧ H t = some (.tup [.ref d, kV k]) ∧ NmBad K F.ns d k H ∧ Atom (kV k) ∧ (∀ H2, Dp K H2 (kV k) dv) ∧ SeqAt.shaped (.tuple [.str "view", dv]) = true
  have sI : ∀ H H' : Hp, Same H H' → (fun _ : Hp => True) H → (fun _ : Hp => True) H' := fun _ _ _ _ => trivial
  have sR : ∀ v H H', Same H H' → R1 v H → R1 v H' := fun v H H' s ⟨t, d, k, dv, e, o, b, r⟩ => ⟨t, d, k, dv, e, s _ _ o, b.ext (ExtN.of s), r⟩
  refine odd_for (n := 3) (I := fun _ => True) (R := R1) (Sh := fun σ => ∃ o5 o6, σ = [some (.ref tb), o1, o2, o3, some (.str x0), o5, o6, o7, o8, o9, o10, o11, o12, o13]) (by omega) sR ?_ trivial T0 ⟨_, _, rfl⟩ ?_ ?_
  · refine gvA_cons sI sR ?_ (gvA_cons sI sR ?_ (gvA_cons sI sR ?_ gvA_nil))
    · intro H Q _ k p np
      have nk : ((((Sum.inr "v1" : Key), V.str x0) :: (Sum.inr "v2", V.str "no one") :: [(Sum.inr "v3", V.non)]).map (·.1)).Nodup := by
        show ([(Sum.inr "v1" : Key), Sum.inr "v2", Sum.inr "v3"]).Nodup
        decide +kernel
      refine ⟨_, rfl, upd_same, [(Sum.inr "v1", .str x0), (Sum.inr "v2", .str "no one"), (Sum.inr "v3", .non)], rfl, (by show 3 ≤ 15; decide), ?_⟩
      rw [merge_nd nk]
      have s1 : Same H (upd (upd H p (.dK [])) p (.dK [(Sum.inr "v1", .str x0), (Sum.inr "v2", .str "no one"), (Sum.inr "v3", .non)])) := fun b o e => by rw [upd_ne (ne_of_none e np), upd_ne (ne_of_none e np)]; exact e
      have o1 : upd (upd H p (.dK [])) p (.dK [(Sum.inr "v1", .str x0), (Sum.inr "v2", .str "no one"), (Sum.inr "v3", .non)]) p = some (.dK [(Sum.inr "v1", .str x0), (Sum.inr "v2", .str "no one"), (Sum.inr "v3", .non)]) := upd_same
      generalize upd (upd H p (.dK [])) p (.dK [(Sum.inr "v1", .str x0), (Sum.inr "v2", .str "no one"), (Sum.inr "v3", .non)]) = H1 at s1 o1
      refine ⟨(by show 2 ≤ sizeLine; decide), fun t nt => ?_⟩
      have st := same_new (o := .tup [.ref p, .str "v2"]) nt
      refine k _ _ (s1.trans st) ⟨t, p, Sum.inr "v2", .str "v2", rfl, upd_same, bad_two (st _ _ o1) x0n nk (by decide) (fun kv h x e => ?_) ?_, .str _, fun _ => .str _, by decide +kernel⟩
      · rw [List.mem_singleton.mp h] at e
        cases e
        decide +kernel
      · have z : EnV K (upd H1 t (.tup [.ref p, .str "v2"])) F.ns ((Sum.inr "v2" : Key), V.str "no one") (decide (("no one" : Str) ∈ F.ns)) := .str (by decide +kernel)
        rw [decide_eq_false (fun m => no_one (O.ok _ m))] at z
        exact z
    · intro H Q _ k p np
      refine ⟨_, rfl, upd_same, [(Sum.inr "A", .str x0)], rfl, (by show 1 ≤ 15; decide), ?_⟩
      rw [merge_nd (kvs := [(Sum.inr "A", .str x0)]) (by simp)]
      have s1 : Same H (upd (upd H p (.dK [])) p (.dK [(Sum.inr "A", .str x0)])) := fun b o e => by rw [upd_ne (ne_of_none e np), upd_ne (ne_of_none e np)]; exact e
      have o1 : upd (upd H p (.dK [])) p (.dK [(Sum.inr "A", .str x0)]) p = some (.dK [(Sum.inr "A", .str x0)]) := upd_same
      generalize upd (upd H p (.dK [])) p (.dK [(Sum.inr "A", .str x0)]) = H1 at s1 o1
      refine ⟨(by show 2 ≤ sizeLine; decide), fun t nt => ?_⟩
      have st := same_new (o := .tup [.ref p, .str "A"]) nt
      exact k _ _ (s1.trans st) ⟨t, p, Sum.inr "A", .str "A", rfl, upd_same, bad_one (st _ _ o1) (by decide +kernel) (fun x e => by cases e; decide +kernel), .str _, fun _ => .str _, by decide +kernel⟩
    · intro H Q _ k p np
      refine ⟨_, rfl, upd_same, [(Sum.inl 5, .str x0)], rfl, (by show 1 ≤ 15; decide), ?_⟩
      rw [merge_nd (kvs := [(Sum.inl 5, .str x0)]) (by simp)]
      have s1 : Same H (upd (upd H p (.dK [])) p (.dK [(Sum.inl 5, .str x0)])) := fun b o e => by rw [upd_ne (ne_of_none e np), upd_ne (ne_of_none e np)]; exact e
      have o1 : upd (upd H p (.dK [])) p (.dK [(Sum.inl 5, .str x0)]) p = some (.dK [(Sum.inl 5, .str x0)]) := upd_same
      generalize upd (upd H p (.dK [])) p (.dK [(Sum.inl 5, .str x0)]) = H1 at s1 o1
      refine ⟨(by show 2 ≤ sizeLine; decide), fun t nt => ?_⟩
      have st := same_new (o := .tup [.ref p, .int 5]) nt
      exact k _ _ (s1.trans st) ⟨t, p, Sum.inl 5, .int 5, rfl, upd_same, bad_one (st _ _ o1) rfl (fun x e => by cases e), .int _, fun _ => .int _, by decide +kernel⟩
  · rintro C' HL x σ' H' k0L ⟨t, d, k, dv, rfl, ot, b, ak, dk, sh⟩ e TH ⟨o5, o6, rfl⟩ next
    have e0 := (ExtN.of k0L).trans e
    have ot' := e _ _ ot (fun _ z => by cases z)
    have b' := b.ext e
    have hc : (⟨"BadView", EA.CV, "view", "name"⟩ : Clz) ∈ clz6 EA := by simp [clz6]
    refine ⟨t, _, rfl, SqT.of ot', rfl, _, _, rfl, _, _, rfl, rfl, ?_⟩
    unfold tIfS
    refine ne_readA (w := w) (c := ⟨"BadView", EA.CV, "view", "name"⟩) (v := kV k) (dv := dv) ak dk sh TH hc (fun H2 Q q => ⟨_, rfl, q⟩) (fun H2 E R e2 T2 hf => ?_) (fun H2 e2 T2 => iteF (next _ _ e2 T2 ⟨_, _, rfl⟩))
    have r2 := (rt_rel CT).ext rt (e0.trans e2)
    refine ⟨_, rfl, _, rfl, fun y dx nx ndx nex => ?_⟩
    have qx : Same H2 (upd (upd H2 dx (.own y)) y (.ins C dx [])) := fun b o e => by rw [upd_ne (ne_of_none e nx), upd_ne (ne_of_none e ndx)]; exact e
    obtain ⟨kvs, j, x', vb, ek, en⟩ := (b'.ext e2).ext (ExtN.of qx)
    exact ⟨y, tb, dx, F, .ref d, rfl, upd_same, (rt_rel CT).same r2 qx, .inr (.inr (.inl ⟨d, kvs, j, k, x', rfl, vb, ek, en, hf.same qx⟩))⟩
  · rintro σ' H' e TH ⟨o5, o6, rfl⟩
    exact fin H' _ _ e TH
theorem rf_3 (R : Trd P w K mg EA) (VK : VwK P w K mg base C CT EA.CV) (TB : TabB base mg c Pt) (hm : (Pt, (envOfC "_law_refused_right" (defScope sRefR) s.heap.objs.size f (.ref c)).qual ++ "<lambda>") ∈ T) (hu : ∀ p ∈ T, p.1 = Pt → p.2 = (envOfC "_law_refused_right" (defScope sRefR) s.heap.objs.size f (.ref c)).qual ++ "<lambda>")
    (hr : Room 10 (A.deeper (envOfC "_law_refused_right" (defScope sRefR) s.heap.objs.size f (.ref c)))) :
    ∃ t, PS (cxOf CX0 P w K mg base NRr "_law_refused_right" (defScope sRefR) f (.ref c) A outer s H E).nox ((defBody sRefR).getD 3 no0) t ∧ ∀ (D : Ends) (H0 : Hp) (tb : Addr) (F : Fd) (x0 : Str) (o1 o2 o3 o5 o6 o7 o8 o9 o10 o11 o12 o13 : Option V),
      RT CT H0 tb F → x0 ∈ F.ns → Tabs T H0 → (∀ H' o5, ExtN H0 H' → Tabs T H' → D.nx [some (.ref tb), o1, o2, o3, some (.str x0), o5, o6, o7, o8, o9, o10, o11, o12, o13] H') → t D [some (.ref tb), o1, o2, o3, some (.str x0), o5, o6, o7, o8, o9, o10, o11, o12, o13] H0 := by
  obtain ⟨fI, fdI, M, bI, GI, _⟩ := VK.ini
  have nd := scRr.nd
  have hu64 := hr.units
  refine ⟨_, ps_for PassesOwn.never rfl (pi_list (pe_lst (pa_cons pe_non (pa_cons pe_bl (pa_cons (pe_lst (pa_cons (pv 4) pa_nil)) (pa_cons pe_dnewK (pa_cons pe_int pa_nil))))))) (pg_name (i := 5) nd rfl (Or.inr rfl))
    (pss_one (ps_if (pt_cmpR (r := rNeD K) (op_neD hu64) (pe_tried R 1 rfl TB rfl hm hu hr (by decide) (lamS_by (by show lamSB (defScope sRefR) _ = true; decide +kernel)) rfl (fun _ _ _ _ _ => rfl) (fun A outer s H E f c' hr => pe_make M GI (hr.mono (by decide)) rfl VK.g bI .nil (passes (takes_of rfl rfl rfl rfl))
        (pa_cons (pv 0) (pa_cons (pe_disp (pps_cons pe_str (pv 4) (pps_cons pe_str (pv 5) pps_nil)) rfl rfl (by decide) (by decide)) pa_nil))))
      (pe_tup (pa_cons pe_str (pa_cons pe_str pa_nil))) (nomark _)) (pss_one ps_never) pss_nil)), ?_⟩
  intro D H0 tb F x0 o1 o2 o3 o5 o6 o7 o8 o9 o10 o11 o12 o13 rt x0n T0 fin
  have sI : ∀ H H' : Hp, Same H H' → (fun _ : Hp => True) H → (fun _ : Hp => True) H' := fun _ _ _ _ => trivial
  have sR : ∀ v H H', Same H H' → (fun v H => NoStr K H v) v H → (fun v H => NoStr K H v) v H' := fun v H H' s h => NoStr.same h s
  refine odd_for (n := 5) (I := fun _ => True) (R := fun v H => NoStr K H v) (Sh := fun σ => ∃ o5, σ = [some (.ref tb), o1, o2, o3, some (.str x0), o5, o6, o7, o8, o9, o10, o11, o12, o13]) (by omega) sR ?_ trivial T0 ⟨_, rfl⟩ ?_ ?_
  · exact (gvA_cons sI sR (gv_c fun H _ => ⟨_, .base .non, by decide +kernel⟩) (gvA_cons sI sR (gv_c fun H _ => ⟨_, .base (.bl _), by decide +kernel⟩)
      (gvA_cons sI sR (gv_new sI (.lst [.str x0]) (fun H Q _ h => ⟨_, rfl, (by show 1 ≤ sizeLine; decide), h⟩) (fun H p _ o => ⟨_, .base (.lst o), by decide +kernel⟩))
      (gvA_cons sI sR (gv_new sI (.dK []) (fun H Q _ h => h) (fun H p _ o => ⟨_, .base (.dK o), by decide +kernel⟩))
      (gvA_cons sI sR (gv_c fun H _ => ⟨_, .base (.int 5), by decide +kernel⟩) gvA_nil)))))
  · rintro C' HL x σ' H' k0L O e TH ⟨o5, rfl⟩ next
    have e0 := (ExtN.of k0L).trans e
    have O' := NoStr.ext O e
    have hc : (⟨"BadView", EA.CV, "view", "name"⟩ : Clz) ∈ clz6 EA := by simp [clz6]
    dsimp only [gName, List.set]
    unfold tIfS
    refine ne_readA (w := w) (c := ⟨"BadView", EA.CV, "view", "name"⟩) (v := .str "v2") (dv := .str "v2") (.str _) (fun _ => .str _) (show SeqAt.shaped (.tuple [.str "view", .str "v2"]) = true by decide +kernel) TH hc (fun H2 Q q => q) (fun H2 E R e2 T2 hf => ?_) (fun H2 e2 T2 => iteF (next _ _ e2 T2 ⟨_, rfl⟩))
    have r2 := (rt_rel CT).ext rt (e0.trans e2)
    have O2 := NoStr.ext O' e2
    refine ⟨_, rfl, fun p np => ?_⟩
    have nk : ((((Sum.inr "v1" : Key), V.str x0) :: (Sum.inr "v2", x) :: []).map (·.1)).Nodup := by
      show ([(Sum.inr "v1" : Key), Sum.inr "v2"]).Nodup
      decide +kernel
    refine ⟨_, rfl, _, rfl, upd_same, [(Sum.inr "v1", .str x0), (Sum.inr "v2", x)], rfl, (by show 2 ≤ 15; decide), ?_⟩
    rw [merge_nd nk]
    have s1 : Same H2 (upd (upd H2 p (.dK [])) p (.dK [(Sum.inr "v1", .str x0), (Sum.inr "v2", x)])) := fun b o e => by rw [upd_ne (ne_of_none e np), upd_ne (ne_of_none e np)]; exact e
    have o1 : upd (upd H2 p (.dK [])) p (.dK [(Sum.inr "v1", .str x0), (Sum.inr "v2", x)]) p = some (.dK [(Sum.inr "v1", .str x0), (Sum.inr "v2", x)]) := upd_same
    generalize upd (upd H2 p (.dK [])) p (.dK [(Sum.inr "v1", .str x0), (Sum.inr "v2", x)]) = H3 at s1 o1
    refine fun y dx nx ndx nex => ?_
    have qx : Same H3 (upd (upd H3 dx (.own y)) y (.ins C dx [])) := fun b o e => by rw [upd_ne (ne_of_none e nx), upd_ne (ne_of_none e ndx)]; exact e
    have s2 := s1.trans qx
    obtain ⟨kvs, j, x', vb, ek, en⟩ : NmBad K F.ns p (Sum.inr "v2") (upd (upd H3 dx (.own y)) y (.ins C dx [])) := bad_two (more := []) (qx _ _ o1) x0n nk (by decide) (fun kv h => by cases h) (.no (by decide +kernel) (NoStr.same O2 s2))
    exact ⟨y, tb, dx, F, .ref p, rfl, upd_same, (rt_rel CT).same r2 s2, .inr (.inr (.inl ⟨p, kvs, j, _, x', rfl, vb, ek, en, hf.same s2⟩))⟩
  · rintro σ' H' e TH ⟨o5, rfl⟩
    exact fin H' _ e TH
end
end L2.TB
/-! _law_refused_right: what is gathered; the first five calls -/
namespace L2.TB
open PySem PySem.Spec PyProof.Rows LamX MK
/-- the list at q holds what is frozen, one after the other -/
def FoundL (w : World) (H : Hp) (q : Addr) (trs : List Tr) : Prop := ∃ us : List V, H q = some (.lst us) ∧ Paired (fun u tr => FzAt w H tr u) us trs
theorem FoundL.ext {w : World} {H H' : Hp} {q : Addr} {trs : List Tr} (h : FoundL w H q trs) (s : ExtN H H') : FoundL w H' q trs := let ⟨us, o, p⟩ := h; ⟨us, s _ _ o (fun _ z => by cases z), Paired.mapP p fun _ _ f => f.ext s⟩
section
variable {w : World} {K : PySem.W.Frag} {cs : List Clz} {CU : Addr} {n m j : Nat} {T : List (Addr × Str)} {t : XK → TE} {D : Ends} {σ : L2.St} {H : Hp} {q : Addr} {tr : Tr} {trs : List Tr} {c : Clz} {v : V}
theorem app_readL (hσ : σ[j]? = some (some (.ref q))) (FA : FoundL w H q trs) (hm : trs.length < 100) (TH : Tabs T H) (hc : c ∈ cs) (th : ∀ H1, ExtN H H1 → Thg w H1 n v tr)
    (call : ∀ (H1 : Hp) (E : XK) (R : VK), ExtN H H1 → Tabs T H1 → Flies c.C c.fld v H1 E → t E σ H1 R) (next : ∀ H', GrowQ q H H' → Tabs T H' → FoundL w H' q (trs ++ [.tu [.one (.str c.tag), tr]]) → D.nx σ H') :
    tDrop (tBM K "list" rAppend (tVar j) (tCons (tLam T (TTr cs CU (spFrozen w (n + 1))) t) tNil)) D σ H := by
  obtain ⟨us, hq, fu⟩ := FA
  have lu := Paired.length fu
  refine ⟨_, hσ, .inl ⟨rfl, _, SqL.of hq⟩, TH, fun H1 eN T1 E R hE => call H1 E R eN T1 (tried_by hc (th H1 eN) (fun H2 u s2 f2 => ?_) E hE)⟩
  have q1 : H1 q = some (.lst us) := eN _ _ hq (fun _ z => by cases z)
  have q2 : H2 q = some (.lst us) := s2 _ _ q1
  have keep : ∀ b o, b ≠ q → H2 b = some o → upd H2 q (.lst (us ++ [u])) b = some o := fun b o nb e => by rw [upd_ne nb]; exact e
  refine ⟨q, us, u, rfl, rfl, q2, by rw [sizeLine_eq]; omega, next _ (fun b o nb e no => by rw [upd_ne nb]; exact s2 _ _ (eN _ _ e no)) (Tabs.list (T1.ext s2) q2) ⟨us ++ [u], upd_same, paired_snoc (F := fun u' tr => FzAt w (upd H2 q (.lst (us ++ [u]))) tr u') (f2.but q2 keep) (Paired.mapP fu fun x tr f => ((FzAt.ext f eN).same s2).but q2 keep)⟩⟩
theorem set_readL {i : Nat} (TH : Tabs T H) (hc : c ∈ cs) (th : ∀ H1, ExtN H H1 → Thg w H1 n v tr)
    (call : ∀ (H1 : Hp) (E : XK) (R : VK), ExtN H H1 → Tabs T H1 → Flies c.C c.fld v H1 E → t E σ H1 R) (next : ∀ H' q, Fresh H q → ExtN H H' → Tabs T H' → FoundL w H' q [.tu [.one (.str c.tag), tr]] → gName i (.ref q) σ H' D.nx) :
    tAsg (tLst (tCons (tLam T (TTr cs CU (spFrozen w (n + 1))) t) tNil)) (gName i) D σ H := by
  refine ⟨TH, fun H1 eN T1 E R hE => call H1 E R eN T1 (tried_by hc (th H1 eN) (fun H2 u s2 f2 => ?_) E hE)⟩
  refine ⟨(by show 1 ≤ sizeLine; decide), fun q nq => ?_⟩
  have st := same_new (o := .lst [u]) nq
  have e2 : ExtN H (upd H2 q (.lst [u])) := eN.trans (ExtN.of (s2.trans st))
  refine next _ q ?_ e2 (T1.ext (s2.trans st)) ⟨[u], upd_same, .cons (f2.same st) .nil⟩
  intro o e
  by_cases no : ∀ ps, o ≠ .tbl ps
  · rw [s2 _ _ (eN _ _ e no)] at nq; cases nq
  · exact Classical.byContradiction fun z => no fun ps y => z ⟨ps, y⟩
end
/-- what is passed stays -/
structure RfI (CT C : Addr) (H : Hp) (tb vw r nm : Addr) (as : List Addr) (ns : List Str) (tbl : List (List Int)) (ks : List Str) (led : Str → Str) : Prop where
  rt : RT CT H tb (tabD ns tbl)
  rv : RV C (RT CT) H vw (viewD (tabD ns tbl) ks led)
  orr : H r = some (.lst (as.map V.ref))
  rows : DRows H ns as tbl
  on : H nm = some (.lst (ks.map V.str))
  bd : ∀ u ∈ tbl, ∀ z ∈ u, z ≤ 10
theorem RfI.ext {CT C : Addr} {H H' : Hp} {tb vw r nm : Addr} {as : List Addr} {ns : List Str} {tbl : List (List Int)} {ks : List Str} {led : Str → Str} (h : RfI CT C H tb vw r nm as ns tbl ks led) (s : ExtN H H') : RfI CT C H' tb vw r nm as ns tbl ks led :=
  ⟨(rt_rel CT).ext h.rt s, (rv_rel (C := C) (rt_rel CT)).ext h.rv s, s _ _ h.orr (fun _ z => by cases z), Paired.mapP h.rows fun _ _ q => ⟨s _ _ q.1 (fun _ z => by cases z), q.2⟩, s _ _ h.on (fun _ z => by cases z), h.bd⟩
theorem rv_names {C CT : Addr} {H : Hp} {a : Addr} {D : Fd} (h : RV C (RT CT) H a D) : ∃ dx fa da, H a = some (.ins C dx (vF fa da)) ∧ NmD H da D.ns := by
  obtain ⟨dx, fa, da, D0, ks, led, rfl, ha, hd, _, nd, _⟩ := h
  exact ⟨dx, fa, da, ha, led, hd, nd⟩
/-- the view's methods, refusing -/
structure VwR (P : Program) (w : World) (K : PySem.W.Frag) (mg : Str → Option Value) (base : Heap) (C CT : Addr) (EA : ErrA) : Prop where
  cl : Cls K C
  told : HasM P w K mg base C "is_told" ["self", "known", "asked"] (spRefV 0 K C EA.CK EA.CQ)
  plan : HasM P w K mg base C "plan" ["self", "known", "asked"] (spRefV 0 K C EA.CK EA.CQ)
  apart : HasM P w K mg base C "apart" ["self", "known", "asked"] (spRefV 0 K C EA.CK EA.CQ)
  ans : HasM P w K mg base C "answers" ["self", "world"] (spAnF (RV C (RT CT)) EA.CW)
  foR : HasM P w K mg base C "found" ["self", "known", "asked", "plan", "answers"] (spFoR w K (RV C (RT CT)) EA.CP EA.CA)
  fo : HasM P w K mg base C "found" ["self", "known", "asked", "plan", "answers"] (spFo w K (RV C (RT CT)) EA.CA)
  planA : HasM P w K mg base C "plan" ["self", "known", "asked"] (spPl w (RV C (RT CT)))
abbrev trE (s : Str) (v : V) : Tr := .tu [.one (.str s), .one v]
abbrev trs5 : List Tr := [trE "known" (.int 1), trE "question" (.str "no one"), trE "known" (.int 0), trE "world" .non, trE "plan" (.int 5)]
section
variable {P : Program} {w : World} {K : PySem.W.Frag} {mg : Str → Option Value} {base : Heap} {f C CT c Pt : Addr} {EA : ErrA} {T : List (Addr × Str)} {A : Around} {outer : List Env} {s : Shared} {H : Hp} {E : XK} {rest : List Stmt} {u : TS}
theorem rf_4 (R : Trd P w K mg EA) (VR : VwR P w K mg base C CT EA) (TB : TabB base mg c Pt) (hm : (Pt, (envOfC "_law_refused_right" (defScope sRefR) s.heap.objs.size f (.ref c)).qual ++ "<lambda>") ∈ T) (hu : ∀ p ∈ T, p.1 = Pt → p.2 = (envOfC "_law_refused_right" (defScope sRefR) s.heap.objs.size f (.ref c)).qual ++ "<lambda>")
    (hr : Room 10 (A.deeper (envOfC "_law_refused_right" (defScope sRefR) s.heap.objs.size f (.ref c)))) (pr : PSs (cxOf CX0 P w K mg base NRr "_law_refused_right" (defScope sRefR) f (.ref c) A outer s H E).nox rest u) :
    ∃ t, PSs (cxOf CX0 P w K mg base NRr "_law_refused_right" (defScope sRefR) f (.ref c) A outer s H E).nox ((defBody sRefR).getD 4 no0 :: (defBody sRefR).getD 5 no0 :: (defBody sRefR).getD 6 no0 :: (defBody sRefR).getD 7 no0 :: (defBody sRefR).getD 8 no0 :: rest) t ∧ ∀ (D : Ends) (H0 : Hp) (tb vw r nm : Addr) (as : List Addr) (ns : List Str) (tbl : List (List Int)) (ks : List Str) (led : Str → Str) (n0 : Str) (o4 o5 o6 o7 o8 o9 o10 o11 o12 o13 : Option V),
      RfI CT C H0 tb vw r nm as ns tbl ks led → ks[0]? = some n0 → Tabs T H0 →
      (∀ H' q, Fresh H0 q → ExtN H0 H' → Tabs T H' → FoundL w H' q trs5 → u D [some (.ref tb), some (.ref vw), some (.ref r), some (.ref nm), o4, o5, o6, some (.ref q), o8, o9, o10, o11, o12, o13] H') →
      t D [some (.ref tb), some (.ref vw), some (.ref r), some (.ref nm), o4, o5, o6, o7, o8, o9, o10, o11, o12, o13] H0 := by
  obtain ⟨f1, d1, m1, b1, G1⟩ := VR.told
  obtain ⟨f2, d2, m2, b2, G2⟩ := VR.plan
  obtain ⟨f3, d3, m3, b3, G3⟩ := VR.apart
  obtain ⟨f4, d4, m4, b4, G4⟩ := VR.ans
  obtain ⟨f5, d5, m5, b5, G5⟩ := VR.foR
  have nd := scRr.nd
  refine ⟨_, pss_cons (ps_asg (pe_lst (pa_cons (pe_tried R 2 rfl TB rfl hm hu hr (by decide) (lamS_by (by show lamSB (defScope sRefR) _ = true; decide +kernel)) rfl (fun _ _ _ _ _ => rfl) (fun A outer s H E f c' hr => pe_meth (pv 1) VR.cl m1 G1 hr b1 .nil (passes (takes_of rfl rfl rfl rfl)) (pa_cons (pe_lst (pa_cons (pe_ix (r := rIxL K) ix_list (pv 3) pe_int (fun _ _ => rfl)) (pa_cons pe_str pa_nil))) (pa_cons pe_non pa_nil)))) pa_nil)) (pg_name (i := 7) nd rfl (Or.inl rfl)))
    (pss_cons (ps_expr (pe_bm PySem.F.plainAttrs_list PySem.F.slot_list_append PySem.F.type_list_append mt_append (pv 7) (pa_cons (pe_tried R 2 rfl TB rfl hm hu hr (by decide) (lamS_by (by show lamSB (defScope sRefR) _ = true; decide +kernel)) rfl (fun _ _ _ _ _ => rfl) (fun A outer s H E f c' hr => pe_meth (pv 1) VR.cl m2 G2 hr b2 .nil (passes (takes_of rfl rfl rfl rfl)) (pa_cons (pe_lst pa_nil) (pa_cons pe_str pa_nil)))) pa_nil)))
    (pss_cons (ps_expr (pe_bm PySem.F.plainAttrs_list PySem.F.slot_list_append PySem.F.type_list_append mt_append (pv 7) (pa_cons (pe_tried R 2 rfl TB rfl hm hu hr (by decide) (lamS_by (by show lamSB (defScope sRefR) _ = true; decide +kernel)) rfl (fun _ _ _ _ _ => rfl) (fun A outer s H E f c' hr => pe_meth (pv 1) VR.cl m3 G3 hr b3 .nil (passes (takes_of rfl rfl rfl rfl)) (pa_cons pe_non (pa_cons pe_non pa_nil)))) pa_nil)))
    (pss_cons (ps_expr (pe_bm PySem.F.plainAttrs_list PySem.F.slot_list_append PySem.F.type_list_append mt_append (pv 7) (pa_cons (pe_tried R 2 rfl TB rfl hm hu hr (by decide) (lamS_by (by show lamSB (defScope sRefR) _ = true; decide +kernel)) rfl (fun _ _ _ _ _ => rfl) (fun A outer s H E f c' hr => pe_meth (pv 1) VR.cl m4 G4 hr b4 .nil (passes (takes_of rfl rfl rfl rfl)) (pa_cons pe_non pa_nil))) pa_nil)))
    (pss_cons (ps_expr (pe_bm PySem.F.plainAttrs_list PySem.F.slot_list_append PySem.F.type_list_append mt_append (pv 7) (pa_cons (pe_tried R 2 rfl TB rfl hm hu hr (by decide) (lamS_by (by show lamSB (defScope sRefR) _ = true; decide +kernel)) rfl (fun _ _ _ _ _ => rfl) (fun A outer s H E f c' hr => pe_meth (pv 1) VR.cl m5 G5 hr b5 .nil (passes (takes_of rfl rfl rfl rfl)) (pa_cons (pe_lst pa_nil) (pa_cons (pe_ix (r := rIxL K) ix_list (pv 3) pe_int (fun _ _ => rfl)) (pa_cons pe_int (pa_cons pe_non pa_nil)))))) pa_nil)))
    pr)))), ?_⟩
  intro D H0 tb vw r nm as ns tbl ks led n0 o4 o5 o6 o7 o8 o9 o10 o11 o12 o13 I en T0 fin
  have n0in : n0 ∈ ks := List.mem_of_getElem? en
  have O := (rv_rel (C := C) (rt_rel CT)).ok I.rv
  have at0' : atI (ks.map V.str) ((0 : Nat) : Int) = some (.str n0) := atI_nat (by rw [List.getElem?_map, en]; rfl)
  have noin : ("no one" : Str) ∉ ks := fun m => no_one (O.ok _ m)
  have hcK : (⟨"BadKnown", EA.CK, "known", "index"⟩ : Clz) ∈ clz6 EA := by simp [clz6]
  have hcQ : (⟨"NoQuestion", EA.CQ, "question", "name"⟩ : Clz) ∈ clz6 EA := by simp [clz6]
  have hcW : (⟨"BadWorld", EA.CW, "world", "thing"⟩ : Clz) ∈ clz6 EA := by simp [clz6]
  have hcP : (⟨"BadPlan", EA.CP, "plan", "thing"⟩ : Clz) ∈ clz6 EA := by simp [clz6]
  refine set_readL (w := w) (n := 1) (c := ⟨"BadKnown", EA.CK, "known", "index"⟩) (v := .int 1) (tr := .one (.int 1)) T0 hcK (fun H1 e1 => .up (.one (.int 1))) (fun H1 E R e1 T1 hf => ?_) fun H1 q fq e1 T1 F1 => ?_
  · have I1 := I.ext e1
    obtain ⟨dx, fa, da, ha, nmd⟩ := rv_names I1.rv
    refine ⟨_, rfl, vw, dx, _, rfl, ha, rfl, _, rfl, nm, _, (0 : Int), _, rfl, rfl, SqL.of I1.on, at0', (by show 2 ≤ sizeLine; decide), fun p np => ?_⟩
    have sp := same_new (o := .lst [.str n0, .str "no one"]) np
    have bad : Bad K (upd H1 p (.lst [.str n0, .str "no one"])) ks (.ref p) (badAt ks [.str n0, .str "no one"] [] 0) := .seq (.inl upd_same) (fun x hx e => by
      simp only [List.mem_cons, List.not_mem_nil, or_false] at hx
      rcases hx with rfl | rfl <;> cases e) (by show 2 < 1000; omega)
    have eb : badAt ks [V.str n0, .str "no one"] [] 0 = some 1 := by
      show (if n0 ∈ ks ∧ n0 ∉ [] then (if ("no one" : Str) ∈ ks ∧ ("no one" : Str) ∉ [n0] then none else some 1) else some 0) = some 1
      rw [if_pos ⟨n0in, by simp⟩, if_neg (fun z => noin z.1)]
    rw [eb] at bad
    exact ⟨vw, dx, fa, da, ks, .ref p, .non, some 1, [], rfl, rfl, sp _ _ ha, nmd.same sp, bad, .inl ⟨1, rfl, hf.same sp⟩⟩
  refine app_readL (w := w) (n := 1) (c := ⟨"NoQuestion", EA.CQ, "question", "name"⟩) (v := .str "no one") (tr := .one (.str "no one")) rfl F1 (by show 1 < 100; omega) T1 hcQ (fun H1 e1 => .up (.one (.str _))) (fun H9 E R e9 T9 hf => ?_) fun H2 g2 T2 F2 => ?_
  · have I1 := I.ext (e1.trans e9)
    obtain ⟨dx, fa, da, ha, nmd⟩ := rv_names I1.rv
    refine ⟨_, rfl, vw, dx, _, rfl, ha, rfl, (by show 0 ≤ sizeLine; decide), fun p np => ?_⟩
    have sp := same_new (o := .lst []) np
    have bad : Bad K (upd H9 p (.lst [])) ks (.ref p) (badAt ks [] [] 0) := .seq (.inl upd_same) (fun x hx => by cases hx) (by show 0 < 1000; omega)
    exact ⟨vw, dx, fa, da, ks, .ref p, .str "no one", none, [], rfl, rfl, sp _ _ ha, nmd.same sp, bad, .inr ⟨rfl, .inl ⟨_, rfl, noin⟩, hf.same sp⟩⟩
  have e2 := grow_on fq e1 g2
  refine app_readL (w := w) (n := 1) (c := ⟨"BadKnown", EA.CK, "known", "index"⟩) (v := .int 0) (tr := .one (.int 0)) rfl F2 (by show 2 < 100; omega) T2 hcK (fun H1 e1 => .up (.one (.int _))) (fun H9 E R e9 T9 hf => ?_) fun H3 g3 T3 F3 => ?_
  · have I1 := I.ext (e2.trans e9)
    obtain ⟨dx, fa, da, ha, nmd⟩ := rv_names I1.rv
    exact ⟨_, rfl, vw, dx, _, rfl, ha, rfl, vw, dx, fa, da, ks, .non, .non, some 0, [], rfl, rfl, ha, nmd, .no ⟨_, .base .non, by decide +kernel, by decide +kernel⟩, .inl ⟨0, rfl, hf⟩⟩
  have e3 := grow_on fq e2 g3
  refine app_readL (w := w) (n := 1) (c := ⟨"BadWorld", EA.CW, "world", "thing"⟩) (v := .non) (tr := .one .non) rfl F3 (by show 3 < 100; omega) T3 hcW (fun H1 e1 => .up (.one .non)) (fun H9 E R e9 T9 hf => ?_) fun H4 g4 T4 F4 => ?_
  · have I1 := I.ext (e3.trans e9)
    obtain ⟨dx, fa, da, ha, nmd⟩ := rv_names I1.rv
    exact ⟨_, rfl, vw, dx, _, rfl, ha, rfl, vw, _, .non, rfl, I1.rv, .inr ⟨rfl, hf⟩⟩
  have e4 := grow_on fq e3 g4
  refine app_readL (w := w) (n := 1) (c := ⟨"BadPlan", EA.CP, "plan", "thing"⟩) (v := .int 5) (tr := .one (.int 5)) rfl F4 (by show 4 < 100; omega) T4 hcP (fun H1 e1 => .up (.one (.int _))) (fun H9 E R e9 T9 hf => ?_) fun H5 g5 T5 F5 => ?_
  · have I1 := I.ext (e4.trans e9)
    obtain ⟨dx, fa, da, ha, nmd⟩ := rv_names I1.rv
    refine ⟨_, rfl, vw, dx, _, rfl, ha, rfl, (by show 0 ≤ sizeLine; decide), fun p np => ?_⟩
    have sp := same_new (o := .lst []) np
    refine ⟨_, rfl, nm, _, (0 : Int), _, rfl, rfl, SqL.of (sp _ _ I1.on), at0', vw, p, _, [], n0, .int 5, .non, none, rfl, ⟨(rv_rel (C := C) (rt_rel CT)).same I1.rv sp, upd_same, .nil, fun y hy => (by cases hy), n0in⟩, .odd (.base (.int 5)) (by decide +kernel), .inl ⟨?_, hf.same sp⟩⟩
    rw [Bool.and_comm]
    rfl
  exact fin H5 q fq (grow_on fq e4 g5) T5 F5
end
end L2.TB
/-! _law_refused_right: answers that lack something, and odd ones -/
namespace L2.TB
open PySem PySem.Spec PyProof.Rows LamX MK
section
variable {w : World} {K : PySem.W.Frag} {cs : List Clz} {CU : Addr} {n m j : Nat} {T : List (Addr × Str)} {t : XK → TE} {D : Ends} {σ : L2.St} {H : Hp} {q : Addr} {tr : Tr} {trs : List Tr} {c : Clz}
/-- .. where what is refused is made in the call -/
theorem app_readM (hσ : σ[j]? = some (some (.ref q))) (FA : FoundL w H q trs) (hm : trs.length < 100) (TH : Tabs T H) (hc : c ∈ cs)
    (call : ∀ (H1 : Hp) (E : XK) (R : VK), ExtN H H1 → Tabs T H1 → (∀ H2 v, Same H1 H2 → Thg w H2 n v tr → Flies c.C c.fld v H2 E) → t E σ H1 R) (next : ∀ H', GrowQ q H H' → Tabs T H' → FoundL w H' q (trs ++ [.tu [.one (.str c.tag), tr]]) → D.nx σ H') :
    tDrop (tBM K "list" rAppend (tVar j) (tCons (tLam T (TTr cs CU (spFrozen w (n + 1))) t) tNil)) D σ H := by
  obtain ⟨us, hq, fu⟩ := FA
  have lu := Paired.length fu
  refine ⟨_, hσ, .inl ⟨rfl, _, SqL.of hq⟩, TH, fun H1 eN T1 E R hE => call H1 E R eN T1 fun H5 v s5 th => tried_by hc th (fun H2 u s2 f2 => ?_) E hE⟩
  have q1 : H1 q = some (.lst us) := eN _ _ hq (fun _ z => by cases z)
  have s52 := s5.trans s2
  have q2 : H2 q = some (.lst us) := s52 _ _ q1
  have keep : ∀ b o, b ≠ q → H2 b = some o → upd H2 q (.lst (us ++ [u])) b = some o := fun b o nb e => by rw [upd_ne nb]; exact e
  refine ⟨q, us, u, rfl, rfl, q2, by rw [sizeLine_eq]; omega, next _ (fun b o nb e no => by rw [upd_ne nb]; exact s52 _ _ (eN _ _ e no)) (Tabs.list (T1.ext s52) q2) ⟨us ++ [u], upd_same, paired_snoc (F := fun u' tr => FzAt w (upd H2 q (.lst (us ++ [u]))) tr u') (f2.but q2 keep) (Paired.mapP fu fun x tr f => ((FzAt.ext f eN).same s52).but q2 keep)⟩⟩
end
/-- the odd answers -/
def oddG (ks : List Str) (x : Str) : Int := 77 + (ks.idxOf x : Nat)
abbrev oddK (ks : List Str) : List (Key × V) := dkv ks fun x => .int (oddG ks x)
theorem avx_mem {ns : List Str} {u : List Int} {x : Str} (hx : x ∈ ns) (l : u.length = ns.length) : av ns u x ∈ u := by
  have lt : idx ns x < u.length := by rw [l]; exact List.idxOf_lt_length_of_mem hx
  unfold av
  rw [List.getD_eq_getElem?_getD, List.getElem?_eq_getElem lt]
  exact List.getElem_mem _
theorem idxOf_at {ks : List Str} (nd : ks.Nodup) {i : Nat} {x : Str} (e : ks[i]? = some x) : ks.idxOf x = i := by
  obtain ⟨h, e⟩ := List.getElem?_eq_some_iff.mp e
  have lt := List.idxOf_lt_length_of_mem (a := x) (l := ks) (e ▸ List.getElem_mem h)
  have p := List.pairwise_iff_getElem.mp nd
  have e2 : ks[ks.idxOf x] = x := List.getElem_idxOf lt
  rcases Nat.lt_trichotomy (ks.idxOf x) i with h1 | h1 | h1
  · exact absurd (e2.trans e.symm) (p _ _ lt h h1)
  · exact h1
  · exact absurd (e.trans e2.symm) (p _ _ h lt h1)
abbrev trsA (ks : List Str) : List Tr := trs5 ++ [.tu [.one (.str "answers"), .di []]] ++ [.tu [.one (.str "answers"), .di (oddK ks)]]
section
variable {P : Program} {w : World} {K : PySem.W.Frag} {mg : Str → Option Value} {base : Heap} {f C CT c Pt : Addr} {EA : ErrA} {T : List (Addr × Str)} {A : Around} {outer : List Env} {s : Shared} {H : Hp} {E : XK} {rest : List Stmt} {u : TS}
theorem rf_5 (R : Trd P w K mg EA) (VR : VwR P w K mg base C CT EA) (TB : TabB base mg c Pt) (hm : (Pt, (envOfC "_law_refused_right" (defScope sRefR) s.heap.objs.size f (.ref c)).qual ++ "<lambda>") ∈ T) (hu : ∀ p ∈ T, p.1 = Pt → p.2 = (envOfC "_law_refused_right" (defScope sRefR) s.heap.objs.size f (.ref c)).qual ++ "<lambda>")
    (hr : Room 10 (A.deeper (envOfC "_law_refused_right" (defScope sRefR) s.heap.objs.size f (.ref c)))) (nD : mg "dict" = none) (nE : mg "enumerate" = none) (pr : PSs (cxOf CX0 P w K mg base NRr "_law_refused_right" (defScope sRefR) f (.ref c) A outer s H E).nox rest u) :
    ∃ t, PSs (cxOf CX0 P w K mg base NRr "_law_refused_right" (defScope sRefR) f (.ref c) A outer s H E).nox ((defBody sRefR).getD 9 no0 :: (defBody sRefR).getD 10 no0 :: (defBody sRefR).getD 11 no0 :: (defBody sRefR).getD 12 no0 :: rest) t ∧ ∀ (D : Ends) (H00 H0 : Hp) (tb vw r nm q : Addr) (as : List Addr) (ns : List Str) (tbl : List (List Int)) (ks : List Str) (led : Str → Str) (n0 : Str) (o4 o5 o6 o8 o9 o10 o11 o12 o13 : Option V),
      RfI CT C H00 tb vw r nm as ns tbl ks led → ks[0]? = some n0 → Tabs T H0 → Fresh H00 q → ExtN H00 H0 → FoundL w H0 q trs5 → 
      (∀ H' g o8, ExtN H00 H' → Tabs T H' → FoundL w H' q (trsA ks) → H' g = some (.dK (oddK ks)) → u D [some (.ref tb), some (.ref vw), some (.ref r), some (.ref nm), o4, some (.ref g), o6, some (.ref q), o8, o9, o10, o11, o12, o13] H') →
      t D [some (.ref tb), some (.ref vw), some (.ref r), some (.ref nm), o4, o5, o6, some (.ref q), o8, o9, o10, o11, o12, o13] H0 := by
  obtain ⟨f1, d1, m1, b1, G1⟩ := VR.planA
  obtain ⟨f2, d2, m2, b2, G2⟩ := VR.foR
  obtain ⟨f3, d3, m3, b3, G3⟩ := VR.fo
  have nd := scRr.nd
  refine ⟨_, pss_cons (ps_set (i := 8) nd rfl (Or.inr rfl) (pe_meth (pv 1) VR.cl m1 G1 (hr.mono (by decide)) b1 .nil passL (pa_cons (pv 3) (pa_cons (pe_ix (r := rIxL K) ix_list (pv 3) pe_int (fun _ _ => rfl)) pa_nil))))
    (pss_cons (ps_expr (pe_bm PySem.F.plainAttrs_list PySem.F.slot_list_append PySem.F.type_list_append mt_append (pv 7) (pa_cons (pe_tried R 2 rfl TB rfl hm hu hr (by decide) (lamS_by (by show lamSB (defScope sRefR) _ = true; decide +kernel)) rfl (fun _ _ _ _ _ => rfl) (fun A outer s H E f c' hr => pe_meth (pv 1) VR.cl m2 G2 hr b2 .nil (passes (takes_of rfl rfl rfl rfl)) (pa_cons (pv 3) (pa_cons (pe_ix (r := rIxL K) ix_list (pv 3) pe_int (fun _ _ => rfl)) (pa_cons (pv 8) (pa_cons pe_dnewK pa_nil)))))) pa_nil)))
    (pss_cons (ps_set (i := 5) nd rfl (Or.inr rfl) (pe_callTy (r := rDk K) (call_dk rfl) rfl nD boot_dict' (pa_cons (pe_lc (own := [("k", 12), ("name", 13)]) (tt := tYes) (g := gTup K 2 (gCons (gName 12) (gCons (gName 13) gNil))) rfl nd (pi_enum rfl nE (pa_cons (pv 3) pa_nil)) (blkOk_by (N := NRr) (sc := defScope sRefR) (by decide +kernel)) (fun _ _ _ _ _ => pg_tup rfl (pgs_cons (pg_name (i := 12) nd rfl (Or.inl rfl)) (pgs_cons (pg_name (i := 13) nd rfl (Or.inl rfl)) pgs_nil))) (fun _ _ _ _ _ => pts_nil)
        (fun _ _ _ _ _ => pe_tup (pa_cons (pv 13) (pa_cons (pe_op op_add pe_int (pv 12)) pa_nil)))) pa_nil)))
    (pss_cons (ps_expr (pe_bm PySem.F.plainAttrs_list PySem.F.slot_list_append PySem.F.type_list_append mt_append (pv 7) (pa_cons (pe_tried R 2 rfl TB rfl hm hu hr (by decide) (lamS_by (by show lamSB (defScope sRefR) _ = true; decide +kernel)) rfl (fun _ _ _ _ _ => rfl) (fun A outer s H E f c' hr => pe_meth (pv 1) VR.cl m3 G3 hr b3 .nil (passes (takes_of rfl rfl rfl rfl)) (pa_cons (pv 3) (pa_cons (pe_ix (r := rIxL K) ix_list (pv 3) pe_int (fun _ _ => rfl)) (pa_cons (pv 8) (pa_cons (pv 5) pa_nil)))))) pa_nil)))
    pr))), ?_⟩
  intro D H00 H0 tb vw r nm q as ns tbl ks led n0 o4 o5 o6 o8 o9 o10 o11 o12 o13 I00 en T0 fq e0 F0 fin
  have I := I00.ext e0
  have n0in : n0 ∈ ks := List.mem_of_getElem? en
  have RL := rv_rel (C := C) (rt_rel CT)
  have O := RL.ok I.rv
  have lsh : ks.length < 100 := O.sh
  have knd : ks.Nodup := O.nd
  have at0' : atI (ks.map V.str) ((0 : Nat) : Int) = some (.str n0) := atI_nat (by rw [List.getElem?_map, en]; rfl)
  have hcA : (⟨"BadAnswers", EA.CA, "answers", "thing"⟩ : Clz) ∈ clz6 EA := by simp [clz6]
  have ask : ∀ {H' : Hp}, RfI CT C H' tb vw r nm as ns tbl ks led → AskF (RV C (RT CT)) H' vw nm (viewD (tabD ns tbl) ks led) ks n0 := fun I' => ⟨I'.rv, I'.on, O.nd, fun y hy => hy, n0in⟩
  have tl : TellsD (viewD (tabD ns tbl) ks led) ks n0 := fun u _ v _ e => key_eq.mp e _ (List.mem_map_of_mem n0in)
  obtain ⟨dx, fs, ha, no⟩ := RL.ins I.rv
  refine ⟨_, rfl, vw, dx, fs, rfl, ha, no _ (by simp [mths]), _, rfl, _, rfl, nm, _, (0 : Int), _, rfl, rfl, SqL.of I.on, at0', vw, nm, _, ks, n0, rfl, ask I, fun _ H1 d es nd1 LA s1 => ?_, fun nt => absurd tl nt⟩
  have I1 := I.ext (ExtN.of s1)
  have F1 := F0.ext (ExtN.of s1)
  have e1 := e0.trans (ExtN.of s1)
  have lotx : ∀ {H' : Hp}, ExtN H1 H' → LotAt w H' d es (lotD (viewD (tabD ns tbl) ks led) ks n0) := fun s => ⟨s _ _ LA.o (fun _ z => by unfold DE DX at z; cases z), LA.e.mono fun a vs h => s _ _ h (fun _ z => by cases z)⟩
  refine app_readM (w := w) (n := 1) (tr := .di []) (c := ⟨"BadAnswers", EA.CA, "answers", "thing"⟩) rfl F1 (by show 5 < 100; omega) (T0.ext s1) hcA (fun H9 E R e9 T9 hf => ?_) fun H2 g2 T2 F2 => ?_
  · have I9 := I1.ext e9
    obtain ⟨dx, fs, ha, no⟩ := RL.ins I9.rv
    refine ⟨_, rfl, vw, dx, fs, rfl, ha, no _ (by simp [mths]), _, rfl, _, rfl, nm, _, (0 : Int), _, rfl, rfl, SqL.of I9.on, at0', _, rfl, fun p np => ?_⟩
    have sp := same_new (o := .dK []) np
    have op : upd H9 p (.dK []) p = some (.dK []) := upd_same
    obtain ⟨pt, pb, _, _⟩ := lot_ok (K := K) O (fun y hy => hy) O.nd ((lotx e9).same sp)
    refine ⟨vw, nm, _, ks, n0, .ref d, .ref p, _, rfl, ask (I9.ext (ExtN.of sp)), pt, .inr ⟨?_, some [], .dict op (by show 0 < 1000; omega) .nil (fun _ h => by cases h) (fun _ h => by cases h), ?_, hf _ _ sp (.dic op (by show 0 < 1000; omega) .nil (fun _ h => by cases h))⟩⟩
    · have pb' : planB (lotD (viewD (tabD ns tbl) ks led) ks n0) (some (es, List.replicate es.length (true, true))) = true := pb
      rw [pb', decide_eq_true tl]; rfl
    · rw [lackB_some]
      have z : (ks.all fun x => (valV ([] : List (Key × V)) (Sum.inr x)).isSome) = false := List.all_eq_false.mpr ⟨n0, n0in, by show ¬ (valV ([] : List (Key × V)) (Sum.inr n0)).isSome = true; rw [show valV ([] : List (Key × V)) (Sum.inr n0) = none from rfl]; decide⟩
      rw [z]; rfl
  have e12 : ExtN H00 H2 := grow_on fq e1 g2
  obtain ⟨us1, qo, _⟩ := id F1
  have L2 : LotAt w H2 d es (lotD (viewD (tabD ns tbl) ks led) ks n0) := ⟨g2 _ _ (fun z => by have h := LA.o; rw [z, qo] at h; unfold DE DX at h; cases h) LA.o (fun _ z => by unfold DE DX at z; cases z), LA.e.mono fun a vs h => g2 _ _ (fun z => by rw [z, qo] at h; cases h) h (fun _ z => by cases z)⟩
  have I2 := I00.ext e12
  refine ⟨_, rfl, nm, _, rfl, SqL.of I2.on, pairs_lc (oddK ks) (by rw [dkv_len]; omega) (fun j H' s lt => ⟨_, _, SqL.of (s _ _ I2.on), List.getElem?_eq_getElem (by rw [List.length_map]; rw [dkv_len] at lt; exact lt)⟩) (fun H' s => ⟨_, SqL.of (s _ _ I2.on), by rw [List.length_map, dkv_len]; exact Nat.le_refl _⟩) ?_ ?_⟩
  · rintro j v k x H3 H4 Cn Nn ek s3 ⟨t, y, rfl, nt, rfl, ev⟩ yes
    have ev := ev _ (SqL.of (s3 _ _ I2.on))
    obtain ⟨z, ez, rfl, rfl⟩ := dkv_at ek
    rw [List.getElem?_map, ez] at ev
    obtain rfl : V.str z = y := Option.some.inj ev
    have st := same_new (o := .tup [V.int (j : Nat), V.str z]) nt
    refine ⟨t, _, rfl, SqT.of upd_same, rfl, _, _, rfl, _, _, rfl, rfl, rfl, ?_⟩
    refine ⟨_, rfl, _, rfl, _, _, rfl, rfl, (by show 2 ≤ sizeLine; decide), fun p np => yes p _ ?_ (st.trans (same_new np))⟩
    rw [upd_same]
    show some (HO.tup [V.str z, .int (77 + (j : Nat))]) = some (.tup [kV (Sum.inr z), .int (oddG ks z)])
    unfold oddG
    rw [idxOf_at knd ez]
    rfl
  · intro H3 D3 ps nD oD pr s3
    refine ⟨D3, ps, oddK ks, rfl, SqL.of oD, Paired.mapP pr fun p kv e => SqT.of e, fun g ng => ?_⟩
    rw [merge_nd (dkv_nd knd)]
    have sg := same_new (o := .dK (oddK ks)) ng
    have og : upd H3 g (.dK (oddK ks)) g = some (.dK (oddK ks)) := upd_same
    generalize upd H3 g (.dK (oddK ks)) = H4 at sg og
    have s24 := s3.trans sg
    have F4 := F2.ext (ExtN.of s24)
    have e4 := e12.trans (ExtN.of s24)
    have I4 := I00.ext e4
    have L4 := L2.same s24
    have atm : ∀ kv ∈ oddK ks, Atom kv.2 := fun kv h => by
      obtain ⟨z, _, rfl⟩ := List.mem_map.mp h
      exact .int _
    have th : ∀ {H' : Hp}, ExtN H4 H' → Thg w H' 1 (.ref g) (.di (oddK ks)) := fun e => .dic (e _ _ og (fun _ z => by cases z)) (by rw [dkv_len]; omega) (dkv_nd O.nd) atm
    refine app_readL (w := w) (n := 1) (c := ⟨"BadAnswers", EA.CA, "answers", "thing"⟩) (v := .ref g) (tr := .di (oddK ks)) rfl F4 (by show 6 < 100; omega) (T2.ext s24) hcA (fun H9 e9 => th e9) (fun H9 E R e9 T9 hf => ?_) fun H5 g5 T5 F5 => ?_
    · have I9 := I4.ext e9
      obtain ⟨dx, fs, ha, no⟩ := RL.ins I9.rv
      refine ⟨_, rfl, vw, dx, fs, rfl, ha, no _ (by simp [mths]), _, rfl, _, rfl, nm, _, (0 : Int), _, rfl, rfl, SqL.of I9.on, at0', _, rfl, _, rfl, ?_⟩
      have L9 : LotAt w H9 d es (lotD (viewD (tabD ns tbl) ks led) ks n0) := ⟨e9 _ _ L4.o (fun _ z => by unfold DE DX at z; cases z), L4.e.mono fun a vs h => e9 _ _ h (fun _ z => by cases z)⟩
      refine ⟨vw, nm, d, g, _, ks, n0, es, oddK ks, oddG ks, rfl, ask I9, tl, L9, ⟨e9 _ _ og (fun _ z => by cases z), by rw [dkv_len]; omega, dkv_nd O.nd, atm, fun z hz => ?_, fun y hy => dkv_val O.nd hy⟩, .inr ⟨⟨n0, n0in, fun u hu he => ?_⟩, hf⟩⟩
      · rw [dkv_keys] at hz
        obtain ⟨y, hy, e⟩ := List.mem_map.mp hz
        cases e
        have := (O.ok z hy).2.1
        omega
      · have b := I00.bd u hu _ (avx_mem (O.fi n0 n0in) (O.ls u hu))
        rw [← he] at b
        unfold oddG at b
        omega
    · have e5 := grow_on fq e4 g5
      have ng : g ≠ q := fun z => by
        obtain ⟨us4, qo4, _⟩ := id F4
        rw [z, qo4] at og
        cases og
      exact fin H5 g _ e5 T5 F5 (g5 _ _ ng og (fun _ z => by cases z))
end
end L2.TB
/-! _law_refused_right: the twin -/
namespace L2.TB
open PySem PySem.Spec PyProof.Rows LamX MK
abbrev twoN : List Str := ["v1", "v2"]
def twoG (i : Int) (x : Str) : Int := if x = "v1" then i else 88
abbrev twoK (i : Int) : List (Key × V) := dkv twoN fun x => .int (twoG i x)
abbrev trsB (ks : List Str) (i : Int) : List Tr := trsA ks ++ [.tu [.one (.str "answers"), .di (twoK i)]]
theorem two_ok : ∀ x ∈ twoN, NmOk x := by
  unfold NmOk
  decide +kernel
theorem two_nd : twoN.Nodup := by decide +kernel
section
variable {P : Program} {w : World} {K : PySem.W.Frag} {mg : Str → Option Value} {base : Heap} {f C CT c Pt : Addr} {EA : ErrA} {T : List (Addr × Str)} {A : Around} {outer : List Env} {s : Shared} {H : Hp} {E : XK} {rest : List Stmt} {u : TS}
theorem rf_6 (R : Trd P w K mg EA) (VR : VwR P w K mg base C CT EA) (VK : VwK P w K mg base C CT EA.CV) (TB : TabB base mg c Pt) (hm : (Pt, (envOfC "_law_refused_right" (defScope sRefR) s.heap.objs.size f (.ref c)).qual ++ "<lambda>") ∈ T) (hu : ∀ p ∈ T, p.1 = Pt → p.2 = (envOfC "_law_refused_right" (defScope sRefR) s.heap.objs.size f (.ref c)).qual ++ "<lambda>")
    (hr : Room 10 (A.deeper (envOfC "_law_refused_right" (defScope sRefR) s.heap.objs.size f (.ref c)))) (pr : PSs (cxOf CX0 P w K mg base NRr "_law_refused_right" (defScope sRefR) f (.ref c) A outer s H E).nox rest u) :
    ∃ t, PSs (cxOf CX0 P w K mg base NRr "_law_refused_right" (defScope sRefR) f (.ref c) A outer s H E).nox ((defBody sRefR).getD 13 no0 :: (defBody sRefR).getD 14 no0 :: (defBody sRefR).getD 15 no0 :: rest) t ∧ ∀ (D : Ends) (H00 H0 : Hp) (tb vw r nm q g a0 : Addr) (as : List Addr) (ns : List Str) (tbl : List (List Int)) (ks : List Str) (led : Str → Str) (x0 : Str) (us : List Int) (o6 o8 o9 o10 o11 o12 o13 : Option V),
      RfI CT C H00 tb vw r nm as ns tbl ks led → x0 ∈ ns → as[0]? = some a0 → H00 a0 = some (.dK (dk ns us)) → us ∈ tbl → Tabs T H0 → Fresh H00 q → ExtN H00 H0 → FoundL w H0 q (trsA ks) → H0 g = some (.dK (oddK ks)) →
      (∀ H' g2 o9, ExtN H00 H' → Tabs T H' → FoundL w H' q (trsB ks (av ns us x0)) → H' g = some (.dK (oddK ks)) → H' g2 = some (.dK (twoK (av ns us x0))) → u D [some (.ref tb), some (.ref vw), some (.ref r), some (.ref nm), some (.str x0), some (.ref g), o6, some (.ref q), o8, o9, some (.ref g2), o11, o12, o13] H') →
      t D [some (.ref tb), some (.ref vw), some (.ref r), some (.ref nm), some (.str x0), some (.ref g), o6, some (.ref q), o8, o9, o10, o11, o12, o13] H0 := by
  obtain ⟨f1, d1, m1, b1, G1⟩ := VR.planA
  obtain ⟨f3, d3, m3, b3, G3⟩ := VR.fo
  obtain ⟨fI, fdI, M, bI, GI, _⟩ := VK.ini
  have nd := scRr.nd
  have hdu := hu_of hr
  refine ⟨_, pss_cons (ps_set (i := 9) nd rfl (Or.inr rfl) (pe_make M GI (hr.mono (by decide)) rfl VK.g bI .nil passL (pa_cons (pv 0) (pa_cons (pe_disp (pps_cons pe_str (pv 4) (pps_cons pe_str (pv 4) pps_nil)) rfl rfl (by decide) (by decide)) pa_nil))))
    (pss_cons (ps_set (i := 10) nd rfl (Or.inr rfl) (pe_disp (pps_cons pe_str (pe_dget hdu (pe_ix (r := rIxL K) ix_list (pv 2) pe_int (fun _ _ => rfl)) (pv 4) (fun _ _ => rfl)) (pps_cons pe_str pe_int pps_nil)) rfl rfl (by decide) (by decide)))
    (pss_cons (ps_expr (pe_bm PySem.F.plainAttrs_list PySem.F.slot_list_append PySem.F.type_list_append mt_append (pv 7) (pa_cons (pe_tried R 2 rfl TB rfl hm hu hr (by decide) (lamS_by (by show lamSB (defScope sRefR) _ = true; decide +kernel)) rfl (fun _ _ _ _ _ => rfl) (fun A outer s H E f c' hr => pe_meth (pv 9) VR.cl m3 G3 hr b3 .nil (passes (takes_of rfl rfl rfl rfl)) (pa_cons (pe_lst (pa_cons pe_str (pa_cons pe_str pa_nil))) (pa_cons pe_str (pa_cons (pe_meth (pv 9) VR.cl m1 G1 hr b1 .nil passL (pa_cons (pe_lst (pa_cons pe_str (pa_cons pe_str pa_nil))) (pa_cons pe_str pa_nil))) (pa_cons (pv 10) pa_nil)))))) pa_nil)))
    pr)), ?_⟩
  intro D H00 H0 tb vw r nm q g a0 as ns tbl ks led x0 us o6 o8 o9 o10 o11 o12 o13 I00 x0n ea0 oa0 um T0 fq e0 F0 og fin
  have RL := rv_rel (C := C) (rt_rel CT)
  have OT := (rt_rel CT).ok I00.rt
  have hcA : (⟨"BadAnswers", EA.CA, "answers", "thing"⟩ : Clz) ∈ clz6 EA := by simp [clz6]
  refine ⟨_, rfl, fun p np => ?_⟩
  refine ⟨_, rfl, _, rfl, upd_same, [(Sum.inr "v1", .str x0), (Sum.inr "v2", .str x0)], rfl, (by show 2 ≤ 15; decide), ?_⟩
  rw [merge_nd (kvs := [(Sum.inr "v1", .str x0), (Sum.inr "v2", .str x0)]) (by show ([(Sum.inr "v1" : Key), Sum.inr "v2"]).Nodup; decide +kernel)]
  have s1 : Same H0 (upd (upd H0 p (.dK [])) p (.dK [(Sum.inr "v1", .str x0), (Sum.inr "v2", .str x0)])) := fun b o e => by rw [upd_ne (ne_of_none e np), upd_ne (ne_of_none e np)]; exact e
  have op : upd (upd H0 p (.dK [])) p (.dK [(Sum.inr "v1", .str x0), (Sum.inr "v2", .str x0)]) p = some (.dK (vN twoN fun _ => x0)) := upd_same
  generalize upd (upd H0 p (.dK [])) p (.dK [(Sum.inr "v1", .str x0), (Sum.inr "v2", .str x0)]) = H1 at s1 op
  refine fun y dx nx ndx nex => ?_
  have qx : Same H1 (upd (upd H1 dx (.own y)) y (.ins C dx [])) := fun b o e => by rw [upd_ne (ne_of_none e nx), upd_ne (ne_of_none e ndx)]; exact e
  have oy : upd (upd H1 dx (.own y)) y (.ins C dx []) y = some (.ins C dx []) := upd_same
  have ny : H1 y = none := nx
  generalize upd (upd H1 dx (.own y)) y (.ins C dx []) = H2 at qx oy
  have s2 := s1.trans qx
  have rt2 := (rt_rel CT).ext I00.rt (e0.trans (ExtN.of s2))
  refine ⟨y, tb, dx, _, .ref p, rfl, oy, rt2, .inr (.inr (.inr ⟨p, twoN, fun _ => x0, rfl, qx _ _ op, two_nd, (by decide), two_ok, fun x _ => x0n, (by show 2 < 100; omega), fun H3 da nda oy3 oda keep => ?_⟩))⟩
  have s13 : Same H0 H3 := fun b o e => keep b o (fun z => by rw [z] at e; have h := s1 _ _ e; rw [ny] at h; cases h) (s2 _ _ e)
  have e3 := e0.trans (ExtN.of s13)
  have rt3 := (rt_rel CT).ext I00.rt e3
  have rv3 : RV C (RT CT) H3 y (viewD (tabD ns tbl) twoN fun _ => x0) := ⟨dx, tb, da, tabD ns tbl, twoN, fun _ => x0, rfl, oy3, oda, rt3, two_nd, (by decide), two_ok, fun x _ => x0n, (by show 2 < 100; omega)⟩
  have ro := e3 _ _ I00.orr (fun _ z => by cases z)
  have a3 := e3 _ _ oa0 (fun _ z => by cases z)
  have at0' : atI (as.map V.ref) ((0 : Nat) : Int) = some (.ref a0) := atI_nat (by rw [List.getElem?_map, ea0]; rfl)
  have lus : us.length = ns.length := OT.ls us um
  refine ⟨rfl, fun g2 ng2 => ?_⟩
  have kp := same_new (o := .dK []) ng2
  refine ⟨_, rfl, r, _, (0 : Int), _, rfl, rfl, SqL.of (kp _ _ ro), at0', _, rfl, a0, _, rfl, dk_av OT.ndb lus x0n ▸ DGet.k (k := Sum.inr x0) (kp _ _ a3), upd_same, [(Sum.inr "v1", .int (av ns us x0)), (Sum.inr "v2", .int 88)], rfl, (by show 2 ≤ 15; decide), ?_⟩
  rw [merge_nd (kvs := [(Sum.inr "v1", .int (av ns us x0)), (Sum.inr "v2", .int 88)]) (by show ([(Sum.inr "v1" : Key), Sum.inr "v2"]).Nodup; decide +kernel)]
  have s4 : Same H3 (upd (upd H3 g2 (.dK [])) g2 (.dK [(Sum.inr "v1", .int (av ns us x0)), (Sum.inr "v2", .int 88)])) := fun b o e => by rw [upd_ne (ne_of_none e ng2), upd_ne (ne_of_none e ng2)]; exact e
  have e2k : twoK (av ns us x0) = [((Sum.inr "v1" : Key), V.int (av ns us x0)), (Sum.inr "v2", V.int 88)] := by
    show [((Sum.inr "v1" : Key), V.int (twoG _ "v1")), (Sum.inr "v2", V.int (twoG _ "v2"))] = _
    unfold twoG
    rw [if_pos rfl, if_neg (by decide)]
  have o4 : upd (upd H3 g2 (.dK [])) g2 (.dK [(Sum.inr "v1", .int (av ns us x0)), (Sum.inr "v2", .int 88)]) g2 = some (.dK (twoK (av ns us x0))) := by rw [e2k]; exact upd_same
  generalize upd (upd H3 g2 (.dK [])) g2 (.dK [(Sum.inr "v1", .int (av ns us x0)), (Sum.inr "v2", .int 88)]) = H4 at s4 o4
  have s14 := s13.trans s4
  have e4 := e0.trans (ExtN.of s14)
  have F4 := F0.ext (ExtN.of s14)
  have rv4 := RL.same rv3 s4
  have atm : ∀ kv ∈ twoK (av ns us x0), Atom kv.2 := fun kv h => by
    obtain ⟨z, _, rfl⟩ := List.mem_map.mp h
    exact .int _
  have O4 := RL.ok rv4
  have v1in : ("v1" : Str) ∈ twoN := by decide
  have v2in : ("v2" : Str) ∈ twoN := by decide
  have tl : TellsD (viewD (tabD ns tbl) twoN fun _ => x0) twoN "v1" := fun u _ v _ e => key_eq.mp e _ (List.mem_map_of_mem v1in)
  refine app_readL (w := w) (n := 1) (c := ⟨"BadAnswers", EA.CA, "answers", "thing"⟩) (v := .ref g2) (tr := .di (twoK (av ns us x0))) rfl F4 (by show 7 < 100; omega) (T0.ext s14) hcA (fun H9 e9 => .dic (e9 _ _ o4 (fun _ z => by cases z)) (by rw [dkv_len]; show 2 < 1000; omega) (dkv_nd two_nd) atm) (fun H9 E R e9 T9 hf => ?_) fun H5 g5 T5 F5 => ?_
  · have rv9 := RL.ext rv4 e9
    have oy9 := e9 _ _ (s4 _ _ oy3) (fun _ z => by cases z)
    refine ⟨_, rfl, y, dx, _, rfl, oy9, rfl, (by show 2 ≤ sizeLine; decide), fun l1 nl1 => ?_⟩
    have sl1 := same_new (o := .lst [.str "v1", .str "v2"]) nl1
    have ol1 : upd H9 l1 (.lst [.str "v1", .str "v2"]) l1 = some (.lst (twoN.map V.str)) := upd_same
    generalize upd H9 l1 (.lst [.str "v1", .str "v2"]) = H10 at sl1 ol1
    refine ⟨_, rfl, y, dx, _, rfl, sl1 _ _ oy9, rfl, (by show 2 ≤ sizeLine; decide), fun l2 nl2 => ?_⟩
    have sl2 := same_new (o := .lst [.str "v1", .str "v2"]) nl2
    have ol2 : upd H10 l2 (.lst [.str "v1", .str "v2"]) l2 = some (.lst (twoN.map V.str)) := upd_same
    generalize upd H10 l2 (.lst [.str "v1", .str "v2"]) = H11 at sl2 ol2
    have s911 := sl1.trans sl2
    refine ⟨y, l2, _, twoN, "v1", rfl, ⟨RL.same rv9 s911, ol2, two_nd, fun y hy => hy, v1in⟩, fun _ H12 d es nd1 LA s12 => ?_, fun nt => absurd tl nt⟩
    have s912 := s911.trans s12
    refine ⟨_, rfl, y, l1, d, g2, _, twoN, "v1", es, _, twoG (av ns us x0), rfl, ⟨RL.same rv9 s912, (sl2.trans s12) _ _ ol1, two_nd, fun y hy => hy, v1in⟩, tl, LA, ⟨s912 _ _ (e9 _ _ o4 (fun _ z => by cases z)), by rw [dkv_len]; show 2 < 1000; omega, dkv_nd two_nd, atm, fun z hz => ?_, fun y hy => dkv_val two_nd hy⟩, .inr ⟨⟨"v2", v2in, fun u hu he => ?_⟩, hf.same s912⟩⟩
    · rw [dkv_keys] at hz
      obtain ⟨y, hy, e⟩ := List.mem_map.mp hz
      cases e
      have := (two_ok z hy).2.1
      omega
    · have b := I00.bd u hu _ (avx_mem x0n (OT.ls u hu))
      have he : twoG (av ns us x0) "v2" = av ns u x0 := he
      rw [← he] at b
      unfold twoG at b
      rw [if_neg (by decide)] at b
      omega
  · obtain ⟨us4, qo4, _⟩ := id F4
    have n2 : g2 ≠ q := fun z => by rw [z, qo4] at o4; cases o4
    have og4 := s14 _ _ og
    have n1 : g ≠ q := fun z => by rw [z, qo4] at og4; cases og4
    exact fin H5 g2 _ (grow_on fq e4 g5) T5 F5 (g5 _ _ n1 og4 (fun _ z => by cases z)) (g5 _ _ n2 o4 (fun _ z => by cases z))
end
end L2.TB
/-! _law_refused_right, whole -/
namespace L2.TB
open PySem PySem.Spec PyProof.Rows LamX MK
theorem eqw_atom {w : World} {K : PySem.W.Frag} {H : Hp} {s : Str} {v u : V} {t : Addr} (f : FzAt w H (trE s v) u) (fl : Atom v) (ot : H t = some (.tup [.str s, v])) : EqW K H 3 u (.ref t) := by
  generalize e : trE s v = tr at f
  cases f with
  | one h => cases e
  | di h a => cases e
  | dx h m a => cases e
  | @tu a us ts h len sh al =>
    cases e
    match us, len with
    | [x, y], _ =>
      have h0 := al 0 x _ rfl rfl
      have h1 := al 1 y _ rfl rfl
      cases h0
      cases h1
      exact .inr (.inr (.inr ⟨a, t, _, _, rfl, rfl, SqT.of h, SqT.of ot, .cons (.inl ⟨rfl, rfl⟩) (.cons (.inl ⟨rfl, flat_atom fl⟩) .nil)⟩))
theorem eqw_ans {w : World} {K : PySem.W.Frag} {H : Hp} {s : Str} {u u' : V} {t : Addr} {kvs : List (Key × V)} (f : FzAt w H (.tu [.one (.str s), .di kvs]) u) (nd : (kvs.map (·.1)).Nodup) (at_ : ∀ kv ∈ kvs, Atom kv.2) (ot : H t = some (.tup [.str s, u'])) (f' : FzAt w H (.di kvs) u') : EqW K H 3 u (.ref t) := by
  generalize e : Tr.tu [.one (.str s), .di kvs] = tr at f
  cases f with
  | one h => cases e
  | di h a => cases e
  | dx h m a => cases e
  | @tu a us ts h len sh al =>
    cases e
    match us, len with
    | [x, y], _ =>
      have h0 := al 0 x _ rfl rfl
      have h1 := al 1 y _ rfl rfl
      cases h0
      cases h1 with
      | @di a2 _ o2 _ =>
      cases f' with
      | @di a3 _ o3 _ =>
      have dd : EqW K H 2 (.ref a2) (.ref a3) := .inr (.inr (.inl (.inr ⟨a2, a3, kvs, kvs, rfl, rfl, o2, o3, rfl, fun p hp => ⟨p.2, val_at _ _ _ nd hp, .inl ⟨rfl, flat_atom (at_ p hp)⟩⟩⟩)))
      exact .inr (.inr (.inr ⟨a, t, _, _, rfl, rfl, SqT.of h, SqT.of ot, .cons (.inl ⟨rfl, rfl⟩) (.cons dd .nil)⟩))
theorem eqw_all {w : World} {K : PySem.W.Frag} {H : Hp} : ∀ {us : List V} {trs : List Tr}, Paired (fun u tr => FzAt w H tr u) us trs → ∀ {zs : List V}, Paired (fun z tr => ∀ u, FzAt w H tr u → EqW K H 3 u z) zs trs → Paired (EqW K H 3) us zs
  | _, _, .nil, _, .nil => .nil
  | _, _, .cons h t, _, .cons g r => .cons (g _ h) (eqw_all t r)
/-- the answers that are refused, from the first on -/
def dsAt (ks : List Str) (i : Int) : List (List (Key × V)) := [[], oddK ks, twoK i]
def spRfR (CT C : Addr) (T : List (Addr × Str)) : Sp := fun vs H Q _ => ∃ (tb vw r nm : Addr) (as : List Addr) (ns : List Str) (tbl : List (List Int)) (ks : List Str) (led : Str → Str), vs = [.ref tb, .ref vw, .ref r, .ref nm] ∧ RfI CT C H tb vw r nm as ns tbl ks led ∧ Tabs T H ∧ ∀ H', ExtN H H' → Tabs T H' → Q (.bl true) H'
section
variable {P : Program} {w : World} {K : PySem.W.Frag} {mg : Str → Option Value} {base : Heap} {f C CT c Pt : Addr} {fd : FuncData} {EA : ErrA} {T : List (Addr × Str)}
theorem rf_7 {A : Around} {outer : List Env} {s : Shared} {H : Hp} {E : XK} (R : Trd P w K mg EA) (hr : Room 10 (A.deeper (envOfC "_law_refused_right" (defScope sRefR) s.heap.objs.size f (.ref c)))) :
    ∃ t, PSs (cxOf CX0 P w K mg base NRr "_law_refused_right" (defScope sRefR) f (.ref c) A outer s H E).nox [(defBody sRefR).getD 16 no0, (defBody sRefR).getD 17 no0] t ∧ ∀ (D : Ends) (H0 : Hp) (q g g2 : Addr) (ks : List Str) (i : Int) (o0 o1 o2 o3 o4 o6 o8 o9 o11 o12 o13 : Option V),
      ks.Nodup → ks.length < 100 → FoundL w H0 q (trsB ks i) → H0 g = some (.dK (oddK ks)) → H0 g2 = some (.dK (twoK i)) → (∀ H', Same H0 H' → D.rt (.bl true) H') →
      t D [o0, o1, o2, o3, o4, some (.ref g), o6, some (.ref q), o8, o9, some (.ref g2), o11, o12, o13] H0 := by
  obtain ⟨fz, fdz, gZ, FZ⟩ := R.Z
  have GZ : FnOk P w K mg base CX0 2 fz fdz ["thing"] (spFrozen w 1) := ok_frozen FZ gZ R.M 1
  have bZ := FZ.binds (ps := ["thing"]) fun _ _ _ _ _ _ us hl => match us, hl with | [_], _ => rfl
  have nd := scRr.nd
  have hu64 := hr.units
  refine ⟨_, pss_cons (ps_set (i := 6) nd rfl (Or.inl rfl) (pe_lst (pa_cons (pe_tup (pa_cons pe_str (pa_cons pe_int pa_nil))) (pa_cons (pe_tup (pa_cons pe_str (pa_cons pe_str pa_nil))) (pa_cons (pe_tup (pa_cons pe_str (pa_cons pe_int pa_nil))) (pa_cons (pe_tup (pa_cons pe_str (pa_cons pe_non pa_nil))) (pa_cons (pe_tup (pa_cons pe_str (pa_cons pe_int pa_nil))) pa_nil)))))))
    (pss_one (ps_ret (pe_cmpR (r := rEqW K) (op_eqW hu64) (pv 7) (pe_op op_cat (pv 6) (pe_lc (own := [("one", 11)]) (tt := tYes) (g := gName 11) (te := tTup (tCons (tC (.str "answers")) (tCons (tCall (spFrozen w 1) [] E0 (tCons (tVar 11) tNil)) tNil))) rfl nd (pi_seq (pe_tup (pa_cons pe_dnewK (pa_cons (pv 5) (pa_cons (pv 10) pa_nil))))) (blkOk_by (N := NRr) (sc := defScope sRefR) (by decide +kernel)) (fun _ _ _ _ _ => pg_name (i := 11) nd rfl (Or.inl rfl)) (fun _ _ _ _ _ => pts_nil)
      (fun _ _ _ _ _ => pe_tup (pa_cons pe_str (pa_cons (pe_call GZ (hr.mono (by decide)) rfl gZ FZ.kp bZ .nil pass0 (pa_cons (pv 11) pa_nil)) pa_nil))))) (nomark _)))), ?_⟩
  intro D H0 q g g2 ks i o0 o1 o2 o3 o4 o6 o8 o9 o11 o12 o13 knd ksh F0 og og2 fin
  obtain ⟨us, oq, F0⟩ := F0
  refine ⟨(by show 2 ≤ sizeLine; decide), fun t1 n1 => ?_⟩
  have s1 := same_new (o := .tup [.str "known", .int 1]) n1
  have p1 : upd H0 t1 (.tup [.str "known", .int 1]) t1 = some (.tup [.str "known", .int 1]) := upd_same
  generalize upd H0 t1 (.tup [.str "known", .int 1]) = H1 at s1 p1
  refine ⟨(by show 2 ≤ sizeLine; decide), fun t2 n2 => ?_⟩
  have s2 := same_new (o := .tup [.str "question", .str "no one"]) n2
  have p2 : upd H1 t2 (.tup [.str "question", .str "no one"]) t2 = some (.tup [.str "question", .str "no one"]) := upd_same
  generalize upd H1 t2 (.tup [.str "question", .str "no one"]) = H2 at s2 p2
  refine ⟨(by show 2 ≤ sizeLine; decide), fun t3 n3 => ?_⟩
  have s3 := same_new (o := .tup [.str "known", .int 0]) n3
  have p3 : upd H2 t3 (.tup [.str "known", .int 0]) t3 = some (.tup [.str "known", .int 0]) := upd_same
  generalize upd H2 t3 (.tup [.str "known", .int 0]) = H3 at s3 p3
  refine ⟨(by show 2 ≤ sizeLine; decide), fun t4 n4 => ?_⟩
  have s4 := same_new (o := .tup [.str "world", .non]) n4
  have p4 : upd H3 t4 (.tup [.str "world", .non]) t4 = some (.tup [.str "world", .non]) := upd_same
  generalize upd H3 t4 (.tup [.str "world", .non]) = H4 at s4 p4
  refine ⟨(by show 2 ≤ sizeLine; decide), fun t5 n5 => ?_⟩
  have s5 := same_new (o := .tup [.str "plan", .int 5]) n5
  have p5 : upd H4 t5 (.tup [.str "plan", .int 5]) t5 = some (.tup [.str "plan", .int 5]) := upd_same
  generalize upd H4 t5 (.tup [.str "plan", .int 5]) = H5 at s5 p5
  refine ⟨(by show 5 ≤ sizeLine; decide), fun dl nl => ?_⟩
  have s6 := same_new (o := .lst [.ref t1, .ref t2, .ref t3, .ref t4, .ref t5]) nl
  have p6 : upd H5 dl (.lst [.ref t1, .ref t2, .ref t3, .ref t4, .ref t5]) dl = some (.lst [.ref t1, .ref t2, .ref t3, .ref t4, .ref t5]) := upd_same
  generalize upd H5 dl (.lst [.ref t1, .ref t2, .ref t3, .ref t4, .ref t5]) = H6 at s6 p6
  have s06 := s1.trans (s2.trans (s3.trans (s4.trans (s5.trans s6))))
  refine ⟨_, rfl, _, rfl, fun e ne => ?_⟩
  have s7 := same_new (o := .dK []) ne
  have oe : upd H6 e (.dK []) e = some (.dK []) := upd_same
  generalize upd H6 e (.dK []) = H7 at s7 oe
  refine ⟨_, rfl, _, rfl, (by show 3 ≤ sizeLine; decide), fun tt ntt => ?_⟩
  have s8 := same_new (o := .tup [.ref e, .ref g, .ref g2]) ntt
  have ott : upd H7 tt (.tup [.ref e, .ref g, .ref g2]) tt = some (.tup [.ref e, .ref g, .ref g2]) := upd_same
  generalize upd H7 tt (.tup [.ref e, .ref g, .ref g2]) = H8 at s8 ott
  have s68 := s7.trans s8
  have s08 := s06.trans s68
  have dsa : ∀ (j : Nat) (kvs : List (Key × V)), (dsAt ks i)[j]? = some kvs → (kvs.map (·.1)).Nodup ∧ (∀ kv ∈ kvs, Atom kv.2) ∧ kvs.length < 1000 ∧ ∃ p, ([V.ref e, .ref g, .ref g2])[j]? = some (.ref p) ∧ H8 p = some (.dK kvs) := fun j kvs ej => by
    match j, ej with
    | 0, ej => obtain rfl := Option.some.inj ej; exact ⟨.nil, (fun _ h => by cases h), by show 0 < 1000; omega, e, rfl, s8 _ _ oe⟩
    | 1, ej =>
      obtain rfl := Option.some.inj ej
      exact ⟨dkv_nd knd, (fun kv h => by obtain ⟨z, _, rfl⟩ := List.mem_map.mp h; exact .int _), by rw [dkv_len]; omega, g, rfl, s08 _ _ og⟩
    | 2, ej =>
      obtain rfl := Option.some.inj ej
      exact ⟨dkv_nd two_nd, (fun kv h => by obtain ⟨z, _, rfl⟩ := List.mem_map.mp h; exact .int _), by rw [dkv_len]; show 2 < 1000; omega, g2, rfl, s08 _ _ og2⟩
    | n + 3, ej => cases ej
  refine lc_madeS (.inr ott) (by show 3 < 1000000; decide) (fun j y H' => ∃ p u kvs, y = V.ref p ∧ (dsAt ks i)[j]? = some kvs ∧ H' p = some (.tup [.str "answers", u]) ∧ FzAt w H' (.di kvs) u) ?_ ?_ ?_
  · rintro j y Ha Hb Dd l ⟨p, u, kvs, rfl, ej, op, fz⟩ oD keep
    exact ⟨p, u, kvs, rfl, ej, keep _ _ (ne_of op oD (by intro z; cases z)) op, fz.but oD keep⟩
  · rintro j v H9 Cn Nn ev s9 yes
    obtain ⟨kvs, ek⟩ : ∃ kvs, (dsAt ks i)[j]? = some kvs := by
      have lt : j < (dsAt ks i).length := (List.getElem?_eq_some_iff.mp ev).1
      exact ⟨(dsAt ks i)[j]'lt, List.getElem?_eq_getElem lt⟩
    obtain ⟨kn, ka, kl, p, ep, op⟩ := dsa j kvs ek
    rw [ev] at ep
    obtain rfl := Option.some.inj ep
    refine ⟨rfl, ?_⟩
    refine ⟨_, rfl, .ref p, .di kvs, rfl, .dic (s9 _ _ op) kl kn ka, fun H10 u s10 f10 => ⟨(by show 2 ≤ sizeLine; decide), fun b nb => ?_⟩⟩
    have sb := same_new (o := .tup [.str "answers", u]) nb
    exact yes _ _ ⟨b, u, kvs, rfl, ek, upd_same, f10.same sb⟩ (s10.trans sb)
  · intro H9 L ys nL oL ly ry s9
    have s69 := s68.trans s9
    have s09 := s06.trans s69
    refine ⟨dl, L, _, ys, rfl, rfl, s69 _ _ p6, oL, (by rw [ly]; show 8 ≤ sizeLine; decide), fun z nz => ?_⟩
    have sz := same_new (o := .lst ([.ref t1, .ref t2, .ref t3, .ref t4, .ref t5] ++ ys)) nz
    have oz : upd H9 z (.lst ([.ref t1, .ref t2, .ref t3, .ref t4, .ref t5] ++ ys)) z = some (.lst ([.ref t1, .ref t2, .ref t3, .ref t4, .ref t5] ++ ys)) := upd_same
    generalize upd H9 z (.lst ([.ref t1, .ref t2, .ref t3, .ref t4, .ref t5] ++ ys)) = H10 at sz oz
    have s6z := s69.trans sz
    have s0z := s09.trans sz
    match ys, ly with
    | [y1, y2, y3], _ =>
      have an : ∀ (j : Nat) (y : V) (kvs : List (Key × V)), ([y1, y2, y3])[j]? = some y → (dsAt ks i)[j]? = some kvs → ∀ u, FzAt w H10 (.tu [.one (.str "answers"), .di kvs]) u → EqW K H10 3 u y := fun j y kvs ey ek u fu => by
        obtain ⟨p, u', kvs', rfl, ek', op, fz⟩ := ry j y ey
        rw [ek] at ek'
        obtain rfl := Option.some.inj ek'
        obtain ⟨kn, ka, _⟩ := dsa j kvs ek
        exact eqw_ans fu kn ka (sz _ _ op) (fz.same sz)
      have Fz : Paired (fun u tr => FzAt w H10 tr u) us (trsB ks i) := Paired.mapP F0 fun _ _ f => f.same s0z
      refine ⟨3, by omega, .inl ⟨q, z, us, _, rfl, rfl, SqL.of (s0z _ _ oq), SqL.of oz, eqw_all Fz ?_⟩, fin H10 s0z⟩
      have k1 := (s2.trans (s3.trans (s4.trans (s5.trans s6)))).trans s6z
      have k2 := (s3.trans (s4.trans (s5.trans s6))).trans s6z
      have k3 := (s4.trans (s5.trans s6)).trans s6z
      have k4 := (s5.trans s6).trans s6z
      have k5 := s6.trans s6z
      exact .cons (fun u f => eqw_atom f (.int _) (k1 _ _ p1)) (.cons (fun u f => eqw_atom f (.str _) (k2 _ _ p2)) (.cons (fun u f => eqw_atom f (.int _) (k3 _ _ p3)) (.cons (fun u f => eqw_atom f .non (k4 _ _ p4)) (.cons (fun u f => eqw_atom f (.int _) (k5 _ _ p5))
        (.cons (an 0 y1 [] rfl rfl) (.cons (an 1 y2 (oddK ks) rfl rfl) (.cons (an 2 y3 (twoK i) rfl rfl) .nil)))))))
theorem ok_refR (FE : Fun K "_law_refused_right" "_law_refused_right" sRefR f fd) (hc : fd.code = .ref c) (R : Trd P w K mg EA) (VR : VwR P w K mg base C CT EA) (VK : VwK P w K mg base C CT EA.CV) (nD : mg "dict" = none) (nE : mg "enumerate" = none) (nL : mg "list" = none)
    (TB : TabB base mg c Pt) (hm : (Pt, ("_law_refused_right" : Str) ++ ".<locals>." ++ "<lambda>") ∈ T) (hu : ∀ p ∈ T, p.1 = Pt → p.2 = ("_law_refused_right" : Str) ++ ".<locals>." ++ "<lambda>") : FnOk P w K mg base CX0 11 f fd ["table", "view", "rows", "names"] (spRfR CT C T) := by
  obtain ⟨oc, od, kW, doc, pm, an, cdv, ct, osl, rfl, lk, hcd⟩ := FE.ex
  obtain rfl : cdv = .ref c := hc
  refine fn_of lk hcd scRr (fun vs H Q E h => by obtain ⟨tb, vw, r, nm, as, ns, tbl, ks, led, e, _⟩ := h; rw [e]; rfl) fun A outer s H vs Q E hr hsp => ?_
  obtain ⟨tb, vw, r, nm, as, ns, tbl, ks, led, rfl, I, T0, hq⟩ := hsp
  have nd := scRr.nd
  obtain ⟨t7, p7, r7⟩ := rf_7 (P := P) (w := w) (mg := mg) (base := base) (outer := outer) (H := H) (E := E) R hr
  obtain ⟨t6, p6, r6⟩ := rf_6 (outer := outer) (H := H) (E := E) R VR VK TB hm hu hr p7
  obtain ⟨t5, p5, r5⟩ := rf_5 (outer := outer) (H := H) (E := E) R VR TB hm hu hr nD nE p6
  obtain ⟨t4, p4, r4⟩ := rf_4 (outer := outer) (H := H) (E := E) R VR TB hm hu hr p5
  obtain ⟨t3, p3, r3⟩ := rf_3 (P := P) (w := w) (outer := outer) (H := H) (E := E) R VK TB hm hu hr
  obtain ⟨t2, p2, r2⟩ := rf_2 (P := P) (w := w) (outer := outer) (H := H) (E := E) R VK TB hm hu hr
  obtain ⟨t1, p1, r1⟩ := rf_1 (P := P) (w := w) (outer := outer) (H := H) (E := E) R VK TB hm hu hr
  have pall : PSs (cxOf CX0 P w K mg base NRr "_law_refused_right" (defScope sRefR) f (.ref c) A outer s H E).nox (defBody sRefR) _ :=
    pss_cons (ps_set (i := 4) nd rfl (Or.inr rfl) (pe_ix (r := rIxL K) ix_list (pe_callTy (r := rLd) (call_ld rfl) rfl nL boot_list' (pa_cons (pe_ix (r := rIxL K) ix_list (pv 2) pe_int (fun _ _ => rfl)) pa_nil)) pe_int (fun _ _ => rfl))) (pss_cons p1 (pss_cons p2 (pss_cons p3 p4)))
  refine ⟨_, PSs.nox (st := defBody sRefR) pall, ?_⟩
  have OT := (rt_rel CT).ok I.rt
  have OV := (rv_rel (C := C) (rt_rel CT)).ok I.rv
  obtain ⟨u0, tr, et⟩ : ∃ u r, tbl = u :: r := by
    cases tbl with
    | nil => exact absurd rfl OT.tn
    | cons u r => exact ⟨u, r, rfl⟩
  obtain ⟨x0, nr, en⟩ : ∃ x r, ns = x :: r := by
    cases ns with
    | nil => exact absurd rfl OT.ne
    | cons u r => exact ⟨u, r, rfl⟩
  obtain ⟨n0, kr, ek⟩ : ∃ x r, ks = x :: r := by
    cases ks with
    | nil => exact absurd rfl OV.ne
    | cons u r => exact ⟨u, r, rfl⟩
  obtain ⟨a0, ar, ea⟩ : ∃ a r, as = a :: r := by
    cases as with
    | nil => have z := Paired.length I.rows; rw [et] at z; cases z
    | cons u r => exact ⟨u, r, rfl⟩
  have ea0 : as[0]? = some a0 := by rw [ea]; rfl
  have et0 : tbl[0]? = some u0 := by rw [et]; rfl
  obtain ⟨us, eu, oa0, lu⟩ := paired_get I.rows ea0
  have um := List.mem_of_getElem? eu
  have x0n : x0 ∈ ns := by rw [en]; exact List.mem_cons_self
  have at0' : atI (as.map V.ref) ((0 : Nat) : Int) = some (.ref a0) := atI_nat (by rw [List.getElem?_map, ea0]; rfl)
  refine ⟨_, rfl, r, _, (0 : Int), _, rfl, rfl, SqL.of I.orr, at0', a0, _, rfl, .inl oa0, fun p np => ?_⟩
  have sp := same_new (o := .lst ((dk ns us).map fun kv => kV kv.1)) np
  have op : upd H p (.lst ((dk ns us).map fun kv => kV kv.1)) p = some (.lst ((dk ns us).map fun kv => kV kv.1)) := upd_same
  generalize upd H p (.lst ((dk ns us).map fun kv => kV kv.1)) = H1 at sp op
  have keys : (dk ns us).map (fun kv => kV kv.1) = ns.map V.str := by
    have z := congrArg (List.map kV) (dk_keys (ns := ns) (vs := us) lu.symm)
    rw [List.map_map, List.map_map] at z
    exact z
  rw [keys] at op
  have atx : atI (ns.map V.str) ((0 : Nat) : Int) = some (.str x0) := atI_nat (by rw [List.getElem?_map, en]; rfl)
  refine ⟨p, _, (0 : Int), _, rfl, rfl, SqL.of op, atx, ?_⟩
  have e1 := ExtN.of sp
  have T1 := T0.ext sp
  have rt1 : ∀ {H' : Hp}, ExtN H H' → RT CT H' tb (tabD ns tbl) := fun e => (rt_rel CT).ext I.rt e
  refine r1 _ H1 tb _ _ _ _ _ _ _ _ _ _ _ _ _ _ (rt1 e1) T1 fun H2 _ e2 T2 => ?_
  have e02 := e1.trans e2
  refine r2 _ H2 tb _ x0 _ _ _ _ _ _ _ _ _ _ _ _ (rt1 e02) x0n T2 fun H3 _ _ e3 T3 => ?_
  have e03 := e02.trans e3
  refine r3 _ H3 tb _ x0 _ _ _ _ _ _ _ _ _ _ _ _ (rt1 e03) x0n T3 fun H4 _ e4 T4 => ?_
  have e04 := e03.trans e4
  have I4 := I.ext e04
  have ek0 : ks[0]? = some n0 := by rw [ek]; rfl
  refine r4 _ H4 tb vw r nm as ns tbl ks led n0 _ _ _ _ _ _ _ _ _ _ I4 ek0 T4 fun H5 q fq e5 T5 F5 => ?_
  refine r5 _ H4 H5 tb vw r nm q as ns tbl ks led n0 _ _ _ _ _ _ _ _ _ I4 ek0 T5 fq e5 F5 fun H6 g _ e6 T6 F6 og => ?_
  refine r6 _ H4 H6 tb vw r nm q g a0 as ns tbl ks led x0 us _ _ _ _ _ _ _ I4 x0n ea0 (e04 _ _ oa0 (fun _ z => by cases z)) um T6 fq e6 F6 og fun H7 g2 _ e7 T7 F7 og7 og2 => ?_
  exact r7 _ H7 q g g2 ks _ _ _ _ _ _ _ _ _ _ _ _ OV.nd OV.sh F7 og7 og2 fun H8 s8 => hq H8 (e04.trans (e7.trans (ExtN.of s8))) (T7.ext s8)
end
end L2.TB
/-! the law: names that are drawn -/
namespace L2.TB
open PySem PySem.Spec PyProof.Rows LamX MK
abbrev rAddS : R2 := fun x y H Q => ∃ i j, x = .str i ∧ y = .str j ∧ i.length + j.length ≤ sizeLine ∧ Q (.str (i ++ j)) H
def rSt : List V → Hp → VK → Prop := fun vs H Q => ∃ n : Int, vs = [.int n] ∧ n.natAbs.log2 < 1920 ∧ Q (.str (toString n)) H
theorem call_st {X : Cx} : CallR X (.type "str") rSt := call_str_int
def numS (k : Nat) : Str := (toString ((0 : Int) + (k : Int)) : String)
def pnm (pre : Str) (k : Nat) : Str := pre ++ numS k
def pks (pre : Str) (n : Nat) : List Str := (List.range n).map (pnm pre)
def ledP (pre : Str) (n : Nat) (picks : List Str) (x : Str) : Str := picks.getD ((pks pre n).idxOf x) ""
theorem pks_len (pre : Str) (n : Nat) : (pks pre n).length = n := by unfold pks; rw [List.length_map, List.length_range]
theorem pks_at {pre : Str} {n i : Nat} (h : i < n) : (pks pre n)[i]? = some (pnm pre i) := by unfold pks; rw [List.getElem?_map, List.getElem?_range h]; rfl
theorem pks_succ (pre : Str) (n : Nat) : pks pre (n + 1) = pks pre n ++ [pnm pre n] := by unfold pks; rw [List.range_succ, List.map_append]; rfl
theorem led_vN {pre : Str} {n : Nat} {picks : List Str} (nd : (pks pre n).Nodup) (l : picks.length = n) : vN (pks pre n) (ledP pre n picks) = ((pks pre n).zip picks).map fun q => ((Sum.inr q.1 : Key), V.str q.2) := by
  unfold vN dkv
  refine List.ext_getElem? fun i => ?_
  rw [List.getElem?_map, List.getElem?_map]
  by_cases h : i < n
  · have e1 := pks_at (pre := pre) h
    have e2 : picks[i]? = some picks[i] := List.getElem?_eq_getElem (by omega)
    have e3 : ((pks pre n).zip picks)[i]? = some (pnm pre i, picks[i]) := List.getElem?_zip_eq_some.mpr ⟨e1, e2⟩
    rw [e1, e3]
    show some ((Sum.inr (pnm pre i) : Key), V.str (ledP pre n picks (pnm pre i))) = some (Sum.inr (pnm pre i), V.str picks[i])
    unfold ledP
    rw [idxOf_at nd e1, List.getD_eq_getElem?_getD, e2]
    rfl
  · rw [List.getElem?_eq_none (by rw [pks_len]; omega), List.getElem?_eq_none (by rw [List.length_zip, pks_len]; omega)]
    rfl
theorem led_in {pre : Str} {n : Nat} {picks ns : List Str} (l : picks.length = n) (sub : ∀ x ∈ picks, x ∈ ns) {x : Str} (hx : x ∈ pks pre n) : ledP pre n picks x ∈ ns := by
  have lt := List.idxOf_lt_length_of_mem hx
  rw [pks_len] at lt
  unfold ledP
  rw [List.getD_eq_getElem?_getD, List.getElem?_eq_getElem (by omega)]
  exact sub _ (List.getElem_mem _)
section
variable {w : World} {K : PySem.W.Frag} {σ : L2.St} {H1 : Hp} {te : TE} {Q : Addr → Hp → Prop}
theorem draw_lc (pre : Str) {n : Nat} {l ls : Addr} {N : Int} {ns : List Str} (hS : Strm H1 l ls N) (hN : N + n ≤ 900000) (hn : n ≤ 10) (lp : pre.length ≤ 100) (ll : ∀ k, k < n → (numS k).length ≤ 100) (nd : (pks pre n).Nodup) (ne : ns ≠ []) (sh : ns.length < 1000)
    (h1 : ∀ x : V, ((wipe σ [13]).set 13 (some x))[1]? = some (some (.ref l))) (h13 : ∀ x : V, ((wipe σ [13]).set 13 (some x))[13]? = some (some x)) (hp : ∀ x : V, wipe ((wipe σ [13]).set 13 (some x)) [13] = wipe σ [13])
    (hte : ∀ (H' : Hp) (x : V) (R : VK), But l ls H1 H' → (∃ M, Strm H' l ls M) → (∀ c H2, Same H' H2 → H2 c = some (.lst (ns.map V.str)) → c ≠ l → c ≠ ls → R (.ref c) H2) → te ((wipe σ [13]).set 13 (some x)) H' R)
    (fin : ∀ H' D ps picks, H' D = some (.lst ((ps : List Addr).map V.ref)) → Paired (fun p (kv : Key × V) => H' p = some (.tup [kV kv.1, kv.2])) ps (vN (pks pre n) (ledP pre n picks)) → picks.length = n → (∀ x ∈ picks, x ∈ ns) → Strm H' l ls (N + n) → But l ls H1 H' → Q D H') :
    LcW (Itr 0 n) (gName 13) tYes (tTup (tCons (tOp rAddS (tC (.str pre)) (tCB rSt (tCons (tVar 13) tNil))) (tCons (tCall (spPick K) [] E0 (tCons (tVar 1) (tCons te tNil))) tNil))) [13] σ H1 Q := by
  intro D nD
  have aD := hS.apart (Same.refl _) nD
  refine lc_range (n := n) (fun i H' => ∃ ps picks, H' D = some (.lst ((ps : List Addr).map V.ref)) ∧ Paired (fun p (q : Str × Str) => H' p = some (.tup [.str q.1, .str q.2]) ∧ p ≠ l ∧ p ≠ ls) ps ((pks pre i).zip picks) ∧ picks.length = i ∧ (∀ x ∈ picks, x ∈ ns) ∧ Strm H' l ls (N + i) ∧ But l ls H1 H')
    ⟨[], [], upd_same, .nil, rfl, (fun _ h => by cases h), by simpa using hS.same (same_new nD), But.of (same_new nD)⟩ ?_ ?_
  · rintro i H2 hi ⟨ps, picks, oD, pr, lpk, sub, S2, B2⟩
    refine ⟨hp _, ?_⟩
    refine ⟨_, h13 _, (0 : Int) + (i : Nat), rfl, ?_, pre, _, rfl, rfl, ?_, ?_⟩
    · have a : ((0 : Int) + (i : Nat)).natAbs.log2 ≤ ((0 : Int) + (i : Nat)).natAbs := Nat.log2_le_self _
      have b : ((0 : Int) + (i : Nat)).natAbs = i := by omega
      omega
    · have := ll i hi
      unfold numS at this
      rw [sizeLine_eq]
      omega
    refine ⟨_, h1 _, hte H2 _ _ B2 ⟨_, S2⟩ fun c H3 s3 oc c1 c2 => ?_⟩
    refine ⟨l, ls, c, ns.map V.str, _, rfl, S2.same s3, by omega, c1, c2, oc, by rw [List.length_map]; exact List.length_pos_iff.mpr ne, by rw [List.length_map]; exact sh, fun H4 x hx S4 B4 => ?_⟩
    obtain ⟨y, hy, rfl⟩ := List.mem_map.mp hx
    refine ⟨(by show 2 ≤ sizeLine; decide), fun p np => ?_⟩
    have ap := S4.apart (Same.refl _) np
    have k5 := same_new (o := .tup [.str (pnm pre i), .str y]) np
    have oD4 := B4 _ _ aD.1 aD.2 (s3 _ _ oD)
    have pD : p ≠ D := fun z => by rw [z, oD4] at np; cases np
    have lps : ps.length = i := by
      have e := Paired.length pr
      rw [List.length_zip, pks_len] at e
      omega
    refine ⟨_, k5 _ _ oD4, (by rw [sizeLine_eq, List.length_map]; omega), ps ++ [p], picks ++ [y], by rw [upd_same]; simp, ?_, by simp [lpk], (fun z hz => by
      rcases List.mem_append.mp hz with hz | hz
      · exact sub z hz
      · rw [List.mem_singleton.mp hz]; exact hy), ?_, ?_⟩
    · have ez : (pks pre (i + 1)).zip (picks ++ [y]) = (pks pre i).zip picks ++ [(pnm pre i, y)] := by
        rw [pks_succ, List.zip_append (by rw [pks_len, lpk])]
        rfl
      rw [ez]
      refine paired_snoc ⟨by rw [upd_ne pD]; exact upd_same, ap.1, ap.2⟩ (Paired.mapP pr fun q kv h => ⟨?_, h.2⟩)
      rw [upd_ne (ne_of h.1 oD (by intro z; cases z))]
      exact k5 _ _ (B4 _ _ h.2.1 h.2.2 (s3 _ _ h.1))
    · have S5 := S4.same k5
      have e1 : N + ((i + 1 : Nat) : Int) = N + (i : Int) + 1 := by omega
      rw [e1]
      obtain ⟨cs, g, k, m, S⟩ := S5
      exact ⟨cs, g, k, m, by rw [upd_ne (Ne.symm aD.1)]; exact S.o, by rw [upd_ne (Ne.symm aD.2)]; exact S.c, S.ne, S.g0, S.k0, S.k1, S.m0, S.m1, S.sz⟩
    · intro b o n1 n2 e
      rw [upd_ne (ne_of_none e nD)]
      exact k5 _ _ (B4 _ _ n1 n2 (s3 _ _ (B2 _ _ n1 n2 e)))
  · rintro H2 ⟨ps, picks, oD, pr, lpk, sub, S2, B2⟩
    refine fin H2 D ps picks oD ?_ lpk sub S2 B2
    rw [led_vN nd lpk]
    refine nth_pair ps _ (by rw [List.length_map]; exact Paired.length pr) fun i p kv e1 e2 => ?_
    obtain ⟨q, eq, h⟩ := paired_get pr e1
    rw [List.getElem?_map, eq] at e2
    obtain rfl := Option.some.inj e2
    exact h.1
end
end L2.TB
/-! the law: a turn's rows, table, names; the view -/
namespace L2.TB
open PySem PySem.Spec PyProof.Rows LamX MK
abbrev NLw : List Str := ["script", "stream", "turn", "rows", "table", "led", "handed", "view", "names", "told", "twice", "far", "others", "k", "one", "other", "thing"]
theorem scLw : FnScope NLw ["script"] (defScope sLaw) := ⟨rfl, rfl, rfl, by decide +kernel, rfl, by decide +kernel, by decide +kernel⟩
abbrev bodyL : List Stmt := forB ((defBody sLaw).getD 1 no0)
/-- what a turn has made -/
structure LwB (T : List (Addr × Str)) (CT : Addr) (H : Hp) (l ls r tb dl : Addr) (as : List Addr) (ns : List Str) (tbl : List (List Int)) (ks : List Str) (led : Str → Str) (N : Int) : Prop where
  S : Strm H l ls N
  T : Tabs T H
  rt : RT CT H tb (tabD ns tbl)
  orr : H r = some (.lst (as.map V.ref))
  rows : RowsAt H l ls ns as tbl
  odl : H dl = some (.dK (vN ks led))
  rn : r ≠ l ∧ r ≠ ls
  bd : ∀ u ∈ tbl, ∀ z ∈ u, z ≤ 10
  knd : ks.Nodup
  kne : ks ≠ []
  kok : ∀ x ∈ ks, NmOk x
  li : ∀ x ∈ ks, led x ∈ ns
  ksh : ks.length ≤ 10
  ts : tbl.length ≤ 20
theorem LwB.same {T : List (Addr × Str)} {CT : Addr} {H H' : Hp} {l ls r tb dl : Addr} {as : List Addr} {ns : List Str} {tbl : List (List Int)} {ks : List Str} {led : Str → Str} {N : Int} (B : LwB T CT H l ls r tb dl as ns tbl ks led N) (s : Same H H') : LwB T CT H' l ls r tb dl as ns tbl ks led N :=
  ⟨B.S.same s, B.T.ext s, (rt_rel CT).same B.rt s, s _ _ B.orr, Paired.mapP B.rows fun _ _ h => ⟨s _ _ h.1, h.2⟩, s _ _ B.odl, B.rn, B.bd, B.knd, B.kne, B.kok, B.li, B.ksh, B.ts⟩
theorem LwB.drows {T : List (Addr × Str)} {CT : Addr} {H : Hp} {l ls r tb dl : Addr} {as : List Addr} {ns : List Str} {tbl : List (List Int)} {ks : List Str} {led : Str → Str} {N : Int} (B : LwB T CT H l ls r tb dl as ns tbl ks led N) : DRows H ns as tbl := Paired.mapP B.rows fun _ _ h => ⟨h.1, h.2.1⟩
theorem dk_ne {H : Hp} {l ls d : Addr} {N : Int} {kvs : List (Key × V)} (S : Strm H l ls N) (h : H d = some (.dK kvs)) : d ≠ l ∧ d ≠ ls := by
  obtain ⟨cs, g, k, m, S⟩ := S
  exact ⟨fun z => (by rw [z, S.o] at h; cases h), fun z => (by rw [z, S.c] at h; cases h)⟩
theorem LwB.but {T : List (Addr × Str)} {CT : Addr} {H H' : Hp} {l ls r tb dl : Addr} {as : List Addr} {ns : List Str} {tbl : List (List Int)} {ks : List Str} {led : Str → Str} {N M : Int} (B : LwB T CT H l ls r tb dl as ns tbl ks led N) (b : But l ls H H') (S : Strm H' l ls M) : LwB T CT H' l ls r tb dl as ns tbl ks led M :=
  ⟨S, tabs_but B.T B.S b, (rt_rel CT).but B.rt B.S b, b _ _ B.rn.1 B.rn.2 B.orr, B.rows.but b, b _ _ (dk_ne B.S B.odl).1 (dk_ne B.S B.odl).2 B.odl, B.rn, B.bd, B.knd, B.kne, B.kok, B.li, B.ksh, B.ts⟩
theorem pnm_facts : ∀ pre ∈ (["v", "w"] : List Str), (∀ n ≤ 5, (pks pre n).Nodup) ∧ (∀ k < 5, NmOk (pnm pre k) ∧ (numS k).length ≤ 100) ∧ pre.length ≤ 100 := by
  unfold NmOk
  decide +kernel
/-- the drawn names: one is there, others are not -/
def Vks (ks : List Str) : Prop := ("v0" : Str) ∈ ks ∧ ("w0" : Str) ∉ ks ∧ ("more" : Str) ∉ ks
theorem vks_no : ∀ k < 5, pnm "v" k ≠ "w0" ∧ pnm "v" k ≠ "more" := by decide +kernel
/-- what the law calls -/
structure LwR (P : Program) (w : World) (K : PySem.W.Frag) (mg : Str → Option Value) (base : Heap) (C CT fIn : Addr) (EA : ErrA) (T : List (Addr × Str)) : Prop where
  tc : TabC K CT
  start : ∃ f fd, mg "_law_start" = some (.ref f) ∧ Fun K "_law_start" "_law_start" sStart f fd
  rows : ∃ f fd, mg "_law_t_rows" = some (.ref f) ∧ Fun K "_law_t_rows" "_law_t_rows" sRows f fd ∧ FnOk P w K mg base CX0 4 f fd ["stream", "many", "rows", "values"] spRows
  draw : ∃ f fd, mg "_law_draw" = some (.ref f) ∧ Fun K "_law_draw" "_law_draw" sDraw f fd
  pick : ∃ f fd, mg "_law_pick" = some (.ref f) ∧ Fun K "_law_pick" "_law_pick" sPick f fd ∧ FnOk P w K mg base CX0 2 f fd ["stream", "some"] (spPick K)
  fieldR : ∃ f fd, mg "_law_field_right" = some (.ref f) ∧ Fun K "_law_field_right" "_law_field_right" sFieldR f fd ∧ FnOk P w K mg base CX0 10 f fd ["stream", "view", "rows", "led", "names"] (spFieldR (RV C (RT CT))) ∧ FnOk P w K mg base CX0 10 f fd ["stream", "view", "rows", "led", "names"] (spFieldR (RV C (RV C (RT CT))))
  refR : ∃ f fd, mg "_law_refused_right" = some (.ref f) ∧ Fun K "_law_refused_right" "_law_refused_right" sRefR f fd ∧ FnOk P w K mg base CX0 11 f fd ["table", "view", "rows", "names"] (spRfR CT C T)
  made : Mk K CT fIn
  init : ∃ fd, Fun K "__init__" "Table.__init__" sInit fIn fd ∧ FnOk P w K mg base CX0 3 fIn fd ["self", "rows"] (spInit CT)
  gC : mg "Table" = some (.ref CT)
  VK : VwK P w K mg base C CT EA.CV
  vc : VwC K C
  qs : ∃ f fd, Meth K C "questions" f ∧ Binds K fd ["self"] [] ∧ FnOk P w K mg base CX0 1 f fd ["self"] (spQF (RV C (RT CT)))
  nms : ∃ f fd, Meth K C "names" f ∧ Binds K fd ["self"] [] ∧ FnOk P w K mg base CX0 1 f fd ["self"] (spNmF C (RT CT))
  eq : ∃ f fd, Meth K C "__eq__" f ∧ Binds K fd ["self", "other"] [] ∧ FnOk P w K mg base CX0 2 f fd ["self", "other"] (spEqV K C CT) ∧ FnOk P w K mg base CX0 2 f fd ["self", "other"] (spEqVO K C)
  ne : PySem.W.findIn K (.ref C) "__ne__" = some (some (.builtin "object.__ne__")) ∧ PySem.W.mroIn K C (.type "object") = some true
  far : ∀ t : Value, (t = .type "NoneType" ∨ t = .type "int" ∨ t = .type "str" ∨ t = .type "dict" ∨ t = .ref CT) → PySem.W.notFirst K C t = true ∧ PySem.W.kitOne K t (.ref C) = some false
  tyT : ∀ (H : Hp) (a dx : Addr) (fs : List (Str × V)), H a = some (.ins CT dx fs) → TyX K H (.ref a) (.ref CT)
  nR : mg "range" = none
  nL : mg "list" = none
  nD : mg "dict" = none
  nN : mg "len" = none
  nI : mg "int" = none
  nS : mg "str" = none
  nA : mg "any" = none
section
variable {P : Program} {w : World} {K : PySem.W.Frag} {mg : Str → Option Value} {base : Heap} {f C CT fIn : Addr} {EA : ErrA} {T : List (Addr × Str)} {cdv : Value} {A : Around} {outer : List Env} {s : Shared} {H : Hp} {E : XK} {rest : List Stmt} {u : TS}
theorem lw_1 (L : LwR P w K mg base C CT fIn EA T) (hr : Room 11 (A.deeper (envOfC "law" (defScope sLaw) s.heap.objs.size f cdv))) (pr : PSs (cxOf CX0 P w K mg base NLw "law" (defScope sLaw) f cdv A outer s H E).nox rest u) :
    ∃ t, PSs (cxOf CX0 P w K mg base NLw "law" (defScope sLaw) f cdv A outer s H E).nox (bodyL.getD 0 no0 :: bodyL.getD 1 no0 :: bodyL.getD 2 no0 :: rest) t ∧ ∀ (D : Ends) (H0 : Hp) (l ls : Addr) (N : Int) (o0 o2 o3 o4 o5 o6 o7 o8 o9 o10 o11 o12 o13 o14 o15 o16 : Option V),
      Strm H0 l ls N → N ≤ 100000 → Tabs T H0 →
      (∀ H' r tb dl as ns tbl ks led, LwB T CT H' l ls r tb dl as ns tbl ks led (N + 1100) → Vks ks → u D [o0, some (.ref l), o2, some (.ref r), some (.ref tb), some (.ref dl), o6, o7, o8, o9, o10, o11, o12, o13, o14, o15, o16] H') →
      t D [o0, some (.ref l), o2, o3, o4, o5, o6, o7, o8, o9, o10, o11, o12, o13, o14, o15, o16] H0 := by
  obtain ⟨fR, fdR, gR, FR, GR⟩ := L.rows
  have bR := FR.binds (ps := ["stream", "many", "rows", "values"]) fun _ _ _ _ _ _ us hl => match us, hl with | [_, _, _, _], _ => rfl
  obtain ⟨fdI, FI, GI⟩ := L.init
  have bI := FI.binds (ps := ["self", "rows"]) fun _ _ _ _ _ _ us hl => match us, hl with | [_, _], _ => rfl
  obtain ⟨fD, fdD, gD, FD⟩ := L.draw
  have GD : FnOk P w K mg base CX0 1 fD fdD ["stream", "many"] spDraw := ok_draw FD L.nI
  have bD := FD.binds (ps := ["stream", "many"]) fun _ _ _ _ _ _ us hl => match us, hl with | [_, _], _ => rfl
  obtain ⟨fP, fdP, gP, FP, GP⟩ := L.pick
  have bP := FP.binds (ps := ["stream", "some"]) fun _ _ _ _ _ _ us hl => match us, hl with | [_, _], _ => rfl
  have nd := scLw.nd
  refine ⟨_, pss_cons (ps_set (i := 3) nd rfl (Or.inr rfl) (pe_call GR (hr.mono (by decide)) rfl gR FR.kp bR .nil pass0 (pa_cons (pv 1) (pa_cons pe_int (pa_cons pe_int (pa_cons pe_int pa_nil))))))
    (pss_cons (ps_set (i := 4) nd rfl (Or.inr rfl) (pe_make L.made GI (hr.mono (by decide)) rfl L.gC bI .nil pass0 (pa_cons (pv 3) pa_nil)))
    (pss_cons (ps_set (i := 5) nd rfl (Or.inr rfl) (pe_callTy (r := rDk K) (call_dk rfl) rfl L.nD boot_dict' (pa_cons (pe_lc (own := [("k", 13)]) (tt := tYes) (g := gName 13) (te := tTup (tCons (tOp rAddS (tC (.str "v")) (tCB rSt (tCons (tVar 13) tNil))) (tCons (tCall (spPick K) [] E0 (tCons (tVar 1) (tCons (tCB rLd (tCons (tOp (rIxL K) (tVar 3) (tC (.int 0))) tNil)) tNil))) tNil))) rfl nd
      (pi_range1 rfl L.nR (pa_cons (pe_op op_add pe_int (pe_call GD (hr.mono (by decide)) rfl gD FD.kp bD .nil pass0 (pa_cons (pv 1) (pa_cons pe_int pa_nil)))) pa_nil)) (blkOk_by (N := NLw) (sc := defScope sLaw) (by decide +kernel)) (fun _ _ _ _ _ => pg_name (i := 13) nd rfl (Or.inl rfl)) (fun _ _ _ _ _ => pts_nil)
      (fun _ _ _ _ _ => pe_tup (pa_cons (pe_op op_add_str pe_str (pe_callTy call_st rfl L.nS (by decide +kernel) (pa_cons (pv 13) pa_nil))) (pa_cons (pe_call GP (hr.mono (by decide)) rfl gP FP.kp bP .nil pass0 (pa_cons (pv 1) (pa_cons (pe_callTy (r := rLd) (call_ld rfl) rfl L.nL boot_list' (pa_cons (pe_ix (r := rIxL K) ix_list (pv 3) pe_int (fun _ _ => rfl)) pa_nil)) pa_nil))) pa_nil)))) pa_nil))) pr)), ?_⟩
  intro D H0 l ls N o0 o2 o3 o4 o5 o6 o7 o8 o9 o10 o11 o12 o13 o14 o15 o16 S0 hN T0 fin
  refine ⟨_, rfl, l, ls, 4, 6, 3, N, rfl, S0, by omega, by decide, by decide, by decide, by decide, by decide, by decide, fun H3 rr as ns tbl lns nn nnd nms ltbl tn bv nrr rl rls orr RA S3 B3 => ?_⟩
  have nok : ∀ x ∈ ns, NmOk x := fun x hx => (nms x hx).1
  have T3 := tabs_but T0 S0 B3
  have D1 : DRows H3 ns as tbl := Paired.mapP RA fun a vs h => ⟨h.1, h.2.1⟩
  refine ⟨_, rfl, fun x dx nx ndx nex => ?_⟩
  have k1 : Same H3 (upd (upd H3 dx (.own x)) x (.ins CT dx [])) := fun b o e => by rw [upd_ne (ne_of_none e nx), upd_ne (ne_of_none e ndx)]; exact e
  refine ⟨x, dx, rr, as, ns, tbl, rfl, upd_same, k1 _ _ orr, D1.same k1, tn, by omega, nn, nnd, nok, by omega, fun H4 tab fr => ⟨rfl, ?_⟩⟩
  have k2 : Same H3 H4 := fun b o e => fr b o (ne_of_none e nx) (k1 _ _ e)
  have T4 := T3.ext k2
  have S4 := S3.same k2
  have rt4 : RT CT H4 x (tabD ns tbl) := ⟨ns, tbl, rfl, tab, nnd, nn, nok, by omega, tn, by omega⟩
  have RA4 : RowsAt H4 l ls ns as tbl := Paired.mapP RA fun _ _ h => ⟨k2 _ _ h.1, h.2⟩
  have pos : 0 < tbl.length := List.length_pos_iff.mpr tn
  have las : as.length = tbl.length := Paired.length RA
  obtain ⟨a0, ea0⟩ : ∃ a0, as[0]? = some a0 := ⟨as[0]'(by omega), List.getElem?_eq_getElem _⟩
  have at0' : atI (as.map V.ref) ((0 : Nat) : Int) = some (.ref a0) := atI_nat (by rw [List.getElem?_map, ea0]; rfl)
  obtain ⟨pf1, pf2, pf3⟩ := pnm_facts "v" (by decide)
  refine ⟨_, rfl, l, ls, 5, _, rfl, S4, by omega, by decide, by decide, fun H5 q q0 q1 S5 B5 => ?_⟩
  have at5 : ∀ {H' : Hp}, But l ls H4 H' → H' rr = some (.lst (as.map V.ref)) ∧ ∃ us, H' a0 = some (.dK (dk ns us)) ∧ us.length = ns.length := fun b => by
    obtain ⟨us, eu, oa, lu, n1, n2⟩ := paired_get RA4 ea0
    exact ⟨b _ _ rl rls (k2 _ _ orr), us, b _ _ n1 n2 oa, lu⟩
  have hq5 : (1 + q).toNat ≤ 5 := by omega
  refine ⟨_, _, rfl, rfl, 1 + q, rfl, by omega, by omega, draw_lc "v" (n := (1 + q).toNat) (ns := ns) S5 (by omega) (by omega) pf3 (fun k hk => (pf2 k (by omega)).2) (pf1 _ hq5) nn (by omega) (fun _ => rfl) (fun _ => rfl) (fun _ => rfl) (fun H6 y R b6 ⟨M6, S6⟩ hR => ?_) fun H6 D ps picks oD pr' lp sub S6 b6 => ?_⟩
  · obtain ⟨r6, us, oa, lu⟩ := at5 (B5.trans b6)
    refine ⟨_, rfl, rr, _, (0 : Int), _, rfl, rfl, SqL.of r6, at0', a0, _, rfl, .inl oa, fun p np => ?_⟩
    have keys : (dk ns us).map (fun kv => kV kv.1) = ns.map V.str := by
      have z := congrArg (List.map kV) (dk_keys (ns := ns) (vs := us) lu.symm)
      rw [List.map_map, List.map_map] at z
      exact z
    rw [keys]
    have ap := S6.apart (Same.refl _) np
    exact hR p _ (same_new np) upd_same ap.1 ap.2
  · refine ⟨D, ps, _, rfl, SqL.of oD, Paired.mapP pr' fun p kv e => SqT.of e, fun d nd' => ?_⟩
    have kn := pf1 _ hq5
    have kn2 : ((vN (pks "v" (1 + q).toNat) (ledP "v" (1 + q).toNat picks)).map (·.1)).Nodup := dkv_nd kn
    rw [merge_nd kn2]
    have sd := same_new (o := .dK (vN (pks "v" (1 + q).toNat) (ledP "v" (1 + q).toNat picks))) nd'
    have B46 := (B5.trans b6).trans (But.of sd)
    have rt6 := (rt_rel CT).but rt4 S4 B46
    have e1 : (((1 + q).toNat : Nat) : Int) = 1 + q := by omega
    have pos2 : 0 < (1 + q).toNat := by omega
    refine fin _ rr x d as ns tbl _ (ledP "v" (1 + q).toNat picks) ⟨(S6.same sd).mono (by omega), tabs_but T4 S4 B46, rt6, B46 _ _ rl rls (k2 _ _ orr), RA4.but B46, upd_same, ⟨rl, rls⟩, fun u hu z hz => by have := bv u hu z hz; omega, kn, fun z => ?_, fun y hy => ?_, fun y hy => led_in lp sub hy, by rw [pks_len]; omega, ltbl⟩ ?_
    · have := congrArg List.length z
      rw [pks_len] at this
      simp at this
      omega
    · obtain ⟨k, hk, rfl⟩ := List.mem_map.mp hy
      exact (pf2 k (by have := List.mem_range.mp hk; omega)).1
    · refine ⟨?_, fun h => ?_, fun h => ?_⟩
      · have e0 := pks_at (pre := "v") pos2
        have z : pnm "v" 0 = "v0" := by decide +kernel
        rw [z] at e0
        exact List.mem_of_getElem? e0
      · obtain ⟨k, hk, e⟩ := List.mem_map.mp h
        exact (vks_no k (by have := List.mem_range.mp hk; omega)).1 e
      · obtain ⟨k, hk, e⟩ := List.mem_map.mp h
        exact (vks_no k (by have := List.mem_range.mp hk; omega)).2 e
end
end L2.TB
/-! the law: the view, and whether it is told by the rows -/
namespace L2.TB
open PySem PySem.Spec PyProof.Rows LamX MK
/-- the view and its names -/
structure LwV (C CT : Addr) (H : Hp) (l ls vw nm : Addr) (ns : List Str) (tbl : List (List Int)) (ks : List Str) (led : Str → Str) : Prop where
  rv : RV C (RT CT) H vw (viewD (tabD ns tbl) ks led)
  on : H nm = some (.lst (ks.map V.str))
  nn : nm ≠ l ∧ nm ≠ ls
theorem LwV.same {C CT : Addr} {H H' : Hp} {l ls vw nm : Addr} {ns : List Str} {tbl : List (List Int)} {ks : List Str} {led : Str → Str} (h : LwV C CT H l ls vw nm ns tbl ks led) (s : Same H H') : LwV C CT H' l ls vw nm ns tbl ks led := ⟨(rv_rel (C := C) (rt_rel CT)).same h.rv s, s _ _ h.on, h.nn⟩
theorem LwV.but {C CT : Addr} {H H' : Hp} {l ls vw nm : Addr} {ns : List Str} {tbl : List (List Int)} {ks : List Str} {led : Str → Str} {N : Int} (h : LwV C CT H l ls vw nm ns tbl ks led) (S : Strm H l ls N) (b : But l ls H H') : LwV C CT H' l ls vw nm ns tbl ks led := ⟨(rv_rel (C := C) (rt_rel CT)).but h.rv S b, b _ _ h.nn.1 h.nn.2 h.on, h.nn⟩
/-- all but a new one stays -/
theorem upd_new {H0 H1 : Hp} {p : Addr} {o : HO} (s : Same H0 H1) (n : H0 p = none) : Same H0 (upd H1 p o) := fun b x e => by rw [upd_ne (ne_of_none e n)]; exact s _ _ e
abbrev rDD : List V → Hp → VK → Prop := fun xs H Q => ∃ (a : Addr) (kvs : List (Key × V)), xs = [.ref a] ∧ Rd H a (.dK kvs) ∧ ∀ p, H p = none → Q (.ref p) (upd H p (.dK kvs))
theorem prs_str {ks : List Str} {led : Str → Str} (h : ∀ x ∈ ks, NmOk x ∧ NmOk (led x)) : ∀ q ∈ prs ks led, PyData.strOk q.1 = true ∧ PyData.strOk q.2 = true := fun q hq => by
  obtain ⟨x, hx, rfl⟩ := List.mem_map.mp hq
  exact ⟨nm_strOk (h x hx).1, nm_strOk (h x hx).2⟩
theorem rv_inv {C CT : Addr} {H : Hp} {vw : Addr} {ns : List Str} {tbl : List (List Int)} {ks : List Str} {led : Str → Str} (h : RV C (RT CT) H vw (viewD (tabD ns tbl) ks led)) : ∃ dx fa da, H vw = some (.ins C dx (vF fa da)) ∧ H da = some (.dK (vN ks led)) ∧ RT CT H fa (tabD ns tbl) := by
  obtain ⟨dx, fa, da, D0, ks', led', e, ha, hd, r, _⟩ := h
  obtain ⟨ns', tbl', rfl, r2⟩ := id r
  have e1 : ks = ks' := congrArg Fd.ns e
  have e2 : ns = ns' := congrArg Fd.nb e
  have e3 : tbl = tbl' := congrArg Fd.tbl e
  have e4 : (fun x => led x) = fun x => led' x := congrArg Fd.φ e
  have e5 : led = led' := e4
  subst e1 e2 e3 e5
  exact ⟨dx, fa, da, ha, hd, r⟩
section
variable {P : Program} {w : World} {K : PySem.W.Frag} {mg : Str → Option Value} {base : Heap} {f C CT fIn : Addr} {EA : ErrA} {T : List (Addr × Str)} {cdv : Value} {A : Around} {outer : List Env} {s : Shared} {H : Hp} {E : XK} {rest : List Stmt} {u : TS}
theorem lw_2 (L : LwR P w K mg base C CT fIn EA T) (hr : Room 11 (A.deeper (envOfC "law" (defScope sLaw) s.heap.objs.size f cdv))) (pr : PSs (cxOf CX0 P w K mg base NLw "law" (defScope sLaw) f cdv A outer s H E).nox rest u) :
    ∃ t, PSs (cxOf CX0 P w K mg base NLw "law" (defScope sLaw) f cdv A outer s H E).nox (bodyL.getD 3 no0 :: bodyL.getD 4 no0 :: bodyL.getD 5 no0 :: rest) t ∧ ∀ (D : Ends) (H0 : Hp) (l ls r tb dl : Addr) (as : List Addr) (ns : List Str) (tbl : List (List Int)) (ks : List Str) (led : Str → Str) (N : Int) (o0 o2 o6 o7 o8 o9 o10 o11 o12 o13 o14 o15 o16 : Option V),
      LwB T CT H0 l ls r tb dl as ns tbl ks led N → 
      (∀ H' vw nm o6, Same H0 H' → LwV C CT H' l ls vw nm ns tbl ks led → u D [o0, some (.ref l), o2, some (.ref r), some (.ref tb), some (.ref dl), o6, some (.ref vw), some (.ref nm), o9, o10, o11, o12, o13, o14, o15, o16] H') →
      t D [o0, some (.ref l), o2, some (.ref r), some (.ref tb), some (.ref dl), o6, o7, o8, o9, o10, o11, o12, o13, o14, o15, o16] H0 := by
  obtain ⟨fI, fdI, M, bI, GI, _⟩ := L.VK.ini
  have nd := scLw.nd
  have hu := hu_of hr
  refine ⟨_, pss_cons (ps_set (i := 6) nd rfl (Or.inl rfl) (pe_callTy (r := rDD) call_dictD rfl L.nD boot_dict' (pa_cons (pv 5) pa_nil)))
    (pss_cons (ps_asg (pe_tup (pa_cons (pe_make M GI (hr.mono (by decide)) rfl L.VK.g bI .nil passL (pa_cons (pv 4) (pa_cons (pv 6) pa_nil))) (pa_cons (pe_callTy (r := rLd) (call_ld rfl) rfl L.nL boot_list' (pa_cons (pv 5) pa_nil)) pa_nil))) (pg_tup rfl (pgs_cons (pg_name (i := 7) nd rfl (Or.inr rfl)) (pgs_cons (pg_name (i := 8) nd rfl (Or.inr rfl)) pgs_nil))))
    (pss_cons (ps_dput hu (pv 6) pe_str (pe_ix (r := rIxL K) ix_list (pv 8) pe_int (fun _ _ => rfl)) rfl) pr)), ?_⟩
  intro D H0 l ls r tb dl as ns tbl ks led N o0 o2 o6 o7 o8 o9 o10 o11 o12 o13 o14 o15 o16 B fin
  have kl := B.ksh
  refine ⟨_, rfl, dl, _, rfl, .inl B.odl, fun p np => ?_⟩
  have s1 := same_new (o := .dK (vN ks led)) np
  have op : upd H0 p (.dK (vN ks led)) p = some (.dK (vN ks led)) := upd_same
  generalize upd H0 p (.dK (vN ks led)) = H1 at s1 op
  refine ⟨_, rfl, _, rfl, fun y dx nx ndx nex => ?_⟩
  have qx : Same H1 (upd (upd H1 dx (.own y)) y (.ins C dx [])) := fun b o e => by rw [upd_ne (ne_of_none e nx), upd_ne (ne_of_none e ndx)]; exact e
  have oy : upd (upd H1 dx (.own y)) y (.ins C dx []) y = some (.ins C dx []) := upd_same
  have py : p ≠ y := fun z => by rw [← z, op] at nx; cases nx
  generalize upd (upd H1 dx (.own y)) y (.ins C dx []) = H2 at qx oy
  have s2 := s1.trans qx
  refine ⟨y, tb, dx, _, .ref p, rfl, oy, (rt_rel CT).same B.rt s2, .inr (.inr (.inr ⟨p, ks, led, rfl, qx _ _ op, B.knd, B.kne, B.kok, B.li, by omega, fun H3 da nda oy3 oda keep => ⟨rfl, ?_⟩⟩))⟩
  have s13 : Same H1 H3 := fun b o e => keep b o (fun z => by rw [z, nx] at e; cases e) (qx _ _ e)
  have s03 := s1.trans s13
  have op3 := s13 _ _ op
  have pda : p ≠ da := fun z => by rw [← z, qx _ _ op] at nda; cases nda
  refine ⟨_, rfl, dl, _, rfl, .inl (s03 _ _ B.odl), fun nm nn => ?_⟩
  have keys : (vN ks led).map (fun kv => kV kv.1) = ks.map V.str := by
    have z := congrArg (List.map kV) (dkv_keys ks fun x => .str (led x))
    rw [List.map_map, List.map_map] at z
    exact z
  rw [keys]
  have k4 := same_new (o := .lst (ks.map V.str)) nn
  have on : upd H3 nm (.lst (ks.map V.str)) nm = some (.lst (ks.map V.str)) := upd_same
  have an := (B.S.same s03).apart (Same.refl _) nn
  have pnm' : p ≠ nm := fun z => by rw [← z, op3] at nn; cases nn
  generalize upd H3 nm (.lst (ks.map V.str)) = H4 at k4 on
  refine ⟨(by show 2 ≤ sizeLine; decide), fun tt ntt => ?_⟩
  have k5 := same_new (o := .tup [.ref y, .ref nm]) ntt
  have ot : upd H4 tt (.tup [.ref y, .ref nm]) tt = some (.tup [.ref y, .ref nm]) := upd_same
  generalize upd H4 tt (.tup [.ref y, .ref nm]) = H5 at k5 ot
  have k35 := k4.trans k5
  refine ⟨tt, _, rfl, SqT.of ot, rfl, _, _, rfl, _, _, rfl, rfl, ?_⟩
  obtain ⟨n0, kr, ek⟩ : ∃ x r, ks = x :: r := by
    cases h : ks with
    | nil => exact absurd h B.kne
    | cons u r => exact ⟨u, r, rfl⟩
  have at0' : atI (ks.map V.str) ((0 : Nat) : Int) = some (.str n0) := atI_nat (by rw [List.getElem?_map, ek]; rfl)
  refine ⟨_, rfl, nm, _, (0 : Int), _, rfl, rfl, SqL.of (k5 _ _ on), at0', _, rfl, p, _, rfl, DPut.k (k := Sum.inr "late") (k35 _ _ op3) (by rw [sizeLine_eq]; show (dkv ks _).length < _; rw [dkv_len]; omega), ?_⟩
  have s05 := s03.trans k35
  have sf := upd_new (o := .dK (putK (vN ks led) (Sum.inr "late") (.str n0))) s05 np
  have kp : ∀ {b : Addr} {o : HO}, b ≠ p → H5 b = some o → upd H5 p (.dK (putK (vN ks led) (Sum.inr "late") (.str n0))) b = some o := fun n e => by rw [upd_ne n]; exact e
  exact fin _ y nm _ sf ⟨⟨dx, tb, da, tabD ns tbl, ks, led, rfl, kp py.symm (k35 _ _ oy3), kp pda.symm (k35 _ _ oda), (rt_rel CT).same B.rt sf, B.knd, B.kne, B.kok, B.li, by omega⟩, kp pnm'.symm (k5 _ _ on), an⟩
theorem lw_3 (L : LwR P w K mg base C CT fIn EA T) (hr : Room 11 (A.deeper (envOfC "law" (defScope sLaw) s.heap.objs.size f cdv))) (pr : PSs (cxOf CX0 P w K mg base NLw "law" (defScope sLaw) f cdv A outer s H E).nox rest u) :
    ∃ t, PSs (cxOf CX0 P w K mg base NLw "law" (defScope sLaw) f cdv A outer s H E).nox (bodyL.getD 6 no0 :: bodyL.getD 7 no0 :: bodyL.getD 8 no0 :: rest) t ∧ ∀ (D : Ends) (H0 : Hp) (l ls r tb dl vw nm : Addr) (as : List Addr) (ns : List Str) (tbl : List (List Int)) (ks : List Str) (led : Str → Str) (N : Int) (o0 o2 o6 o9 o10 o11 o12 o13 o14 o15 o16 : Option V),
      LwB T CT H0 l ls r tb dl as ns tbl ks led N → LwV C CT H0 l ls vw nm ns tbl ks led →
      (∀ H' o9, Same H0 H' → u D [o0, some (.ref l), o2, some (.ref r), some (.ref tb), some (.ref dl), o6, some (.ref vw), some (.ref nm), o9, o10, o11, o12, o13, o14, o15, o16] H') →
      t D [o0, some (.ref l), o2, some (.ref r), some (.ref tb), some (.ref dl), o6, some (.ref vw), some (.ref nm), o9, o10, o11, o12, o13, o14, o15, o16] H0 := by
  obtain ⟨fQ, fdQ, mQ, bQ, GQ⟩ := L.qs
  obtain ⟨fN, fdN, mN, bN, GN⟩ := L.nms
  have nd := scLw.nd
  have hu := hu_of hr
  have hu64 := hr.units
  refine ⟨_, pss_cons (ps_if (PW.pt (pw_or (pt_cmpR (op_neD hu64) (pe_meth0 (pv 7) L.vc.cl mQ GQ (hr.mono (by decide)) bQ .nil pass0) (pv 8) (nomark _)) (pw_or1 (pt_cmpR (op_neD hu64) (LiI.pe_listItems rfl (pe_meth0 (pv 7) L.vc.cl mN GN (hr.mono (by decide)) bN .nil pass0) rfl L.nL boot_list') (LiI.pe_listItems rfl (pv 5) rfl L.nL boot_list') (nomark _))))) (pss_one ps_never) pss_nil)
    (pss_cons (ps_set (i := 9) nd rfl (Or.inl rfl) (pe_meth0 (pv 7) L.vc.cl mN GN (hr.mono (by decide)) bN .nil pass0))
    (pss_cons (ps_dput hu (pv 9) pe_str pe_int rfl) pr)), ?_⟩
  intro D H0 l ls r tb dl vw nm as ns tbl ks led N o0 o2 o6 o9 o10 o11 o12 o13 o14 o15 o16 B V fin
  have kl := B.ksh
  have OT := (rt_rel CT).ok B.rt
  obtain ⟨dx, fs, ha, no⟩ := (rv_rel (C := C) (rt_rel CT)).ins V.rv
  have kso : ∀ x ∈ ks, PyData.strOk x = true := fun x hx => nm_strOk (B.kok x hx)
  have both : ∀ x ∈ ks, NmOk x ∧ NmOk (led x) := fun x hx => ⟨B.kok x hx, OT.ok _ (B.li x hx)⟩
  refine ⟨_, rfl, vw, dx, fs, rfl, ha, no _ (by simp [mths]), vw, _, rfl, V.rv, fun H1 q nq oq s1 => ?_⟩
  refine ⟨_, rfl, _, _, dp_list oq, dp_list (s1 _ _ V.on), strs_shaped _ kso, strs_shaped _ kso, _, rfl, ?_⟩
  rw [strs_eqv, decide_eq_true (show (viewD (tabD ns tbl) ks led).ns = ks from rfl)]
  refine iteF ?_
  obtain ⟨dx1, fa, da, ha1, hd1, rt1⟩ := rv_inv (V.same s1).rv
  have kl2 : ks.length < 1000 := by omega
  refine ⟨_, rfl, vw, dx1, _, rfl, ha1, rfl, vw, dx1, fa, da, tabD ns tbl, ks, led, rfl, ha1, hd1, B.knd, kl2, fun H2 q2 nq2 oq2 s2 => ?_⟩
  refine ⟨q2, _, rfl, oq2, fun H3 p1 ts1 s3 _ _ _ o1 pr1 => ?_⟩
  have s13 := s1.trans s2
  have s03 : Same H0 H3 := fun b o e => s3 _ _ (s13 _ _ e)
  refine ⟨_, rfl, dl, _, rfl, s03 _ _ B.odl, fun H4 p2 ts2 s4 _ _ _ o2' pr2 => ?_⟩
  have s04 : Same H0 H4 := fun b o e => s4 _ _ (s03 _ _ e)
  have d1 : Dp K H4 (.ref p1) (.list ((prs ks led).map prD)) := .lst (SqL.of (s4 _ _ o1)) (dp_prs (Paired.mapP pr1 fun _ _ h => s4 _ _ h))
  have d2 : Dp K H4 (.ref p2) (.list ((prs ks led).map prD)) := .lst (SqL.of o2') (dp_prs pr2)
  refine ⟨_, _, d1, d2, prsD_shaped _ (prs_str both), prsD_shaped _ (prs_str both), _, rfl, ?_⟩
  rw [prsD_eqv, decide_eq_true rfl]
  refine iteF ?_
  obtain ⟨dx4, fa4, da4, ha4, hd4, _⟩ := rv_inv (V.same s04).rv
  refine ⟨_, rfl, vw, dx4, _, rfl, ha4, rfl, vw, dx4, fa4, da4, tabD ns tbl, ks, led, rfl, ha4, hd4, B.knd, kl2, fun H5 q5 nq5 oq5 s5 => ?_⟩
  refine ⟨_, rfl, q5, _, rfl, DPut.k (k := Sum.inr "late") oq5 (by rw [sizeLine_eq]; show (dkv ks _).length < _; rw [dkv_len]; omega), ?_⟩
  exact fin _ _ (upd_new (s04.trans s5) (s04.free nq5))
theorem lw_4 (L : LwR P w K mg base C CT fIn EA T) (hr : Room 11 (A.deeper (envOfC "law" (defScope sLaw) s.heap.objs.size f cdv))) (pr : PSs (cxOf CX0 P w K mg base NLw "law" (defScope sLaw) f cdv A outer s H E).nox rest u) :
    ∃ t, PSs (cxOf CX0 P w K mg base NLw "law" (defScope sLaw) f cdv A outer s H E).nox (bodyL.getD 9 no0 :: rest) t ∧ ∀ (D : Ends) (H0 : Hp) (l ls r tb dl vw nm : Addr) (as : List Addr) (ns : List Str) (tbl : List (List Int)) (ks : List Str) (led : Str → Str) (N : Int) (o0 o2 o6 o9 o10 o11 o12 o13 o14 o15 o16 : Option V),
      LwB T CT H0 l ls r tb dl as ns tbl ks led N → LwV C CT H0 l ls vw nm ns tbl ks led → N ≤ 700000 →
      (∀ H', But l ls H0 H' → Strm H' l ls (N + 2000) → u D [o0, some (.ref l), o2, some (.ref r), some (.ref tb), some (.ref dl), o6, some (.ref vw), some (.ref nm), o9, o10, o11, o12, o13, o14, o15, o16] H') →
      t D [o0, some (.ref l), o2, some (.ref r), some (.ref tb), some (.ref dl), o6, some (.ref vw), some (.ref nm), o9, o10, o11, o12, o13, o14, o15, o16] H0 := by
  obtain ⟨fF, fdF, gF, FF, GF, _⟩ := L.fieldR
  have bF := FF.binds (ps := ["stream", "view", "rows", "led", "names"]) fun _ _ _ _ _ _ us hl => match us, hl with | [_, _, _, _, _], _ => rfl
  refine ⟨_, pss_cons (ps_if (pt_not (pt_val (pe_call GF (hr.mono (by decide)) rfl gF FF.kp bF .nil pass0 (pa_cons (pv 1) (pa_cons (pv 7) (pa_cons (pv 3) (pa_cons (pv 5) (pa_cons (pv 8) pa_nil)))))))) (pss_one ps_never) pss_nil) pr, ?_⟩
  intro D H0 l ls r tb dl vw nm as ns tbl ks led N o0 o2 o6 o9 o10 o11 o12 o13 o14 o15 o16 B V hN fin
  have kl := B.ksh
  refine ⟨_, rfl, _, rfl, _, rfl, _, rfl, _, rfl, l, ls, vw, r, dl, nm, as, viewD (tabD ns tbl) ks led, N, rfl, ⟨B.S, V.rv, B.orr, B.rows, B.odl, V.on, B.rn.1, B.rn.2, V.nn.1, V.nn.2⟩, hN, fun H1 b1 S1 => ⟨_, rfl, iteF ?_⟩⟩
  refine fin H1 b1 (S1.mono ?_)
  show N + 200 * ((ks.length : Nat) : Int) ≤ N + 2000
  omega
end
end L2.TB
/-! the law: a view of the view -/
namespace L2.TB
open PySem PySem.Spec PyProof.Rows LamX MK
/-- the view of the view -/
structure LwF (C CT : Addr) (H : Hp) (t2 fr dl : Addr) (ns : List Str) (tbl : List (List Int)) (ks : List Str) (led : Str → Str) (ks2 : List Str) (tw : Str → Str) : Prop where
  rel : RV C (RV C (RT CT)) H fr (viewD (viewD (tabD ns tbl) ks led) ks2 tw)
  ot : H t2 = some (.dK (vN ks2 tw))
  ne2 : t2 ≠ dl
  nd : ks2.Nodup
  li : ∀ x ∈ ks2, tw x ∈ ks
  sh : ks2.length ≤ 10
  w0 : ("w0" : Str) ∈ ks2
theorem rr_rel (C CT : Addr) : FRel C (RV C (RV C (RT CT))) := rv_rel (rv_rel (rt_rel CT))
theorem LwF.same {C CT : Addr} {H H' : Hp} {t2 fr dl : Addr} {ns : List Str} {tbl : List (List Int)} {ks : List Str} {led : Str → Str} {ks2 : List Str} {tw : Str → Str} (h : LwF C CT H t2 fr dl ns tbl ks led ks2 tw) (s : Same H H') : LwF C CT H' t2 fr dl ns tbl ks led ks2 tw := ⟨(rr_rel C CT).same h.rel s, s _ _ h.ot, h.ne2, h.nd, h.li, h.sh, h.w0⟩
theorem LwF.but {C CT : Addr} {H H' : Hp} {t2 fr dl l ls : Addr} {N : Int} {ns : List Str} {tbl : List (List Int)} {ks : List Str} {led : Str → Str} {ks2 : List Str} {tw : Str → Str} (h : LwF C CT H t2 fr dl ns tbl ks led ks2 tw) (S : Strm H l ls N) (b : But l ls H H') : LwF C CT H' t2 fr dl ns tbl ks led ks2 tw := ⟨(rr_rel C CT).but h.rel S b, b _ _ (dk_ne S h.ot).1 (dk_ne S h.ot).2 h.ot, h.ne2, h.nd, h.li, h.sh, h.w0⟩
section
variable {P : Program} {w : World} {K : PySem.W.Frag} {mg : Str → Option Value} {base : Heap} {f C CT fIn : Addr} {EA : ErrA} {T : List (Addr × Str)} {cdv : Value} {A : Around} {outer : List Env} {s : Shared} {H : Hp} {E : XK} {rest : List Stmt} {u : TS}
theorem lw_5 (L : LwR P w K mg base C CT fIn EA T) (hr : Room 11 (A.deeper (envOfC "law" (defScope sLaw) s.heap.objs.size f cdv))) (pr : PSs (cxOf CX0 P w K mg base NLw "law" (defScope sLaw) f cdv A outer s H E).nox rest u) :
    ∃ t, PSs (cxOf CX0 P w K mg base NLw "law" (defScope sLaw) f cdv A outer s H E).nox (bodyL.getD 10 no0 :: bodyL.getD 11 no0 :: rest) t ∧ ∀ (D : Ends) (H0 : Hp) (l ls r tb dl vw nm : Addr) (as : List Addr) (ns : List Str) (tbl : List (List Int)) (ks : List Str) (led : Str → Str) (N : Int) (o0 o2 o6 o9 o10 o11 o12 o13 o14 o15 o16 : Option V),
      LwB T CT H0 l ls r tb dl as ns tbl ks led N → LwV C CT H0 l ls vw nm ns tbl ks led → N ≤ 800000 →
      (∀ H' t2 fr ks2 tw, But l ls H0 H' → Strm H' l ls (N + 10) → LwF C CT H' t2 fr dl ns tbl ks led ks2 tw → u D [o0, some (.ref l), o2, some (.ref r), some (.ref tb), some (.ref dl), o6, some (.ref vw), some (.ref nm), o9, some (.ref t2), some (.ref fr), o12, o13, o14, o15, o16] H') →
      t D [o0, some (.ref l), o2, some (.ref r), some (.ref tb), some (.ref dl), o6, some (.ref vw), some (.ref nm), o9, o10, o11, o12, o13, o14, o15, o16] H0 := by
  obtain ⟨fI, fdI, M, bI, _, GI⟩ := L.VK.ini
  obtain ⟨fP, fdP, gP, FP, GP⟩ := L.pick
  have bP := FP.binds (ps := ["stream", "some"]) fun _ _ _ _ _ _ us hl => match us, hl with | [_, _], _ => rfl
  have nd := scLw.nd
  refine ⟨_, pss_cons (ps_set (i := 10) nd rfl (Or.inr rfl) (pe_callTy (r := rDk K) (call_dk rfl) rfl L.nD boot_dict' (pa_cons (pe_lc (own := [("k", 13)]) (tt := tYes) (g := gName 13) (te := tTup (tCons (tOp rAddS (tC (.str "w")) (tCB rSt (tCons (tVar 13) tNil))) (tCons (tCall (spPick K) [] E0 (tCons (tVar 1) (tCons (tVar 8) tNil))) tNil))) rfl nd
      (pi_range1 rfl L.nR (pa_cons pe_int pa_nil)) (blkOk_by (N := NLw) (sc := defScope sLaw) (by decide +kernel)) (fun _ _ _ _ _ => pg_name (i := 13) nd rfl (Or.inl rfl)) (fun _ _ _ _ _ => pts_nil)
      (fun _ _ _ _ _ => pe_tup (pa_cons (pe_op op_add_str pe_str (pe_callTy call_st rfl L.nS (by decide +kernel) (pa_cons (pv 13) pa_nil))) (pa_cons (pe_call GP (hr.mono (by decide)) rfl gP FP.kp bP .nil pass0 (pa_cons (pv 1) (pa_cons (pv 8) pa_nil))) pa_nil)))) pa_nil)))
    (pss_cons (ps_set (i := 11) nd rfl (Or.inl rfl) (pe_make M GI (hr.mono (by decide)) rfl L.VK.g bI .nil passL (pa_cons (pv 7) (pa_cons (pv 10) pa_nil)))) pr), ?_⟩
  intro D H0 l ls r tb dl vw nm as ns tbl ks led N o0 o2 o6 o9 o10 o11 o12 o13 o14 o15 o16 B V hN fin
  have kl := B.ksh
  obtain ⟨pf1, pf2, pf3⟩ := pnm_facts "w" (by decide)
  refine ⟨3, rfl, by decide, by decide, draw_lc "w" (n := 3) (ns := ks) B.S (by omega) (by omega) pf3 (fun k hk => (pf2 k (by omega)).2) (pf1 _ (by decide)) B.kne (by omega) (fun _ => rfl) (fun _ => rfl) (fun _ => rfl) (fun H6 y R b6 _ hR => ?_) fun H6 Dl ps picks oD pr' lp sub S6 b6 => ?_⟩
  · exact ⟨_, rfl, hR nm _ (Same.refl _) (b6 _ _ V.nn.1 V.nn.2 V.on) V.nn.1 V.nn.2⟩
  · refine ⟨Dl, ps, _, rfl, SqL.of oD, Paired.mapP pr' fun p kv e => SqT.of e, fun d nd' => ?_⟩
    have kn := pf1 3 (by decide)
    have kn2 : ((vN (pks "w" 3) (ledP "w" 3 picks)).map (·.1)).Nodup := dkv_nd kn
    rw [merge_nd kn2]
    have sd := same_new (o := .dK (vN (pks "w" 3) (ledP "w" 3 picks))) nd'
    have od : upd H6 d (.dK (vN (pks "w" 3) (ledP "w" 3 picks))) d = some (.dK (vN (pks "w" 3) (ledP "w" 3 picks))) := upd_same
    have dne : d ≠ dl := fun z => by rw [z, b6 _ _ (dk_ne B.S B.odl).1 (dk_ne B.S B.odl).2 B.odl] at nd'; cases nd'
    generalize upd H6 d (.dK (vN (pks "w" 3) (ledP "w" 3 picks))) = H7 at sd od
    have b7 := b6.trans (But.of sd)
    have S7 := S6.same sd
    have V7 := V.but B.S b7
    have ok2 : ∀ x ∈ pks "w" 3, NmOk x := fun y hy => by
      obtain ⟨k, hk, rfl⟩ := List.mem_map.mp hy
      exact (pf2 k (by have := List.mem_range.mp hk; omega)).1
    have ne2 : pks "w" 3 ≠ [] := by decide
    have li2 : ∀ x ∈ pks "w" 3, ledP "w" 3 picks x ∈ ks := fun y hy => led_in lp sub hy
    refine ⟨_, rfl, _, rfl, fun y dx nx ndx nex => ?_⟩
    have qx : Same H7 (upd (upd H7 dx (.own y)) y (.ins C dx [])) := fun b o e => by rw [upd_ne (ne_of_none e nx), upd_ne (ne_of_none e ndx)]; exact e
    have oy : upd (upd H7 dx (.own y)) y (.ins C dx []) y = some (.ins C dx []) := upd_same
    generalize upd (upd H7 dx (.own y)) y (.ins C dx []) = H8 at qx oy
    refine ⟨y, vw, dx, _, .ref d, rfl, oy, (V7.same qx).rv, .inr (.inr (.inr ⟨d, pks "w" 3, ledP "w" 3 picks, rfl, qx _ _ od, kn, ne2, ok2, li2, (by rw [pks_len]; omega), fun H9 da nda oy9 oda keep => ⟨rfl, ?_⟩⟩))⟩
    have s79 : Same H7 H9 := fun b o e => keep b o (fun z => by rw [z, nx] at e; cases e) (qx _ _ e)
    have V9 := V7.same s79
    have z : pnm "w" 0 = "w0" := by decide +kernel
    refine fin H9 d y (pks "w" 3) (ledP "w" 3 picks) (b7.trans (But.of s79)) ((S7.same s79).mono (by omega)) ⟨⟨dx, vw, da, viewD (tabD ns tbl) ks led, pks "w" 3, ledP "w" 3 picks, rfl, oy9, oda, V9.rv, kn, ne2, ok2, li2, (by rw [pks_len]; omega)⟩, s79 _ _ od, dne, kn, li2, (by rw [pks_len]; omega), ?_⟩
    have e0 := pks_at (pre := "w") (n := 3) (i := 0) (by omega)
    rw [z] at e0
    exact List.mem_of_getElem? e0
theorem lw_6 (L : LwR P w K mg base C CT fIn EA T) (hr : Room 11 (A.deeper (envOfC "law" (defScope sLaw) s.heap.objs.size f cdv))) (pr : PSs (cxOf CX0 P w K mg base NLw "law" (defScope sLaw) f cdv A outer s H E).nox rest u) :
    ∃ t, PSs (cxOf CX0 P w K mg base NLw "law" (defScope sLaw) f cdv A outer s H E).nox (bodyL.getD 12 no0 :: rest) t ∧ ∀ (D : Ends) (H0 : Hp) (l ls r tb dl vw nm t2 fr : Addr) (as : List Addr) (ns : List Str) (tbl : List (List Int)) (ks : List Str) (led : Str → Str) (N : Int) (o0 o2 o6 o9 o12 o13 o14 o15 o16 : Option V),
      LwB T CT H0 l ls r tb dl as ns tbl ks led N → ∀ (ks2 : List Str) (tw : Str → Str), LwV C CT H0 l ls vw nm ns tbl ks led → LwF C CT H0 t2 fr dl ns tbl ks led ks2 tw → N ≤ 690000 →
      (∀ H', But l ls H0 H' → Strm H' l ls (N + 2000) → u D [o0, some (.ref l), o2, some (.ref r), some (.ref tb), some (.ref dl), o6, some (.ref vw), some (.ref nm), o9, some (.ref t2), some (.ref fr), o12, o13, o14, o15, o16] H') →
      t D [o0, some (.ref l), o2, some (.ref r), some (.ref tb), some (.ref dl), o6, some (.ref vw), some (.ref nm), o9, some (.ref t2), some (.ref fr), o12, o13, o14, o15, o16] H0 := by
  obtain ⟨fF, fdF, gF, FF, _, GF⟩ := L.fieldR
  have bF := FF.binds (ps := ["stream", "view", "rows", "led", "names"]) fun _ _ _ _ _ _ us hl => match us, hl with | [_, _, _, _, _], _ => rfl
  have nd := scLw.nd
  have hu := hu_of hr
  refine ⟨_, pss_cons (ps_if (pt_not (pt_val (pe_call GF (hr.mono (by decide)) rfl gF FF.kp bF .nil pass0 (pa_cons (pv 1) (pa_cons (pv 11) (pa_cons (pv 3) (pa_cons (pe_callTy (r := rDk K) (call_dk rfl) rfl L.nD boot_dict' (pa_cons (pe_lock (pe_lc (own := [("one", 14)]) (tt := tYes) (g := gName 14) (te := tTup (tCons (tVar 14) (tCons (tDGet (tVar 5) (tDGet (tVar 10) (tVar 14))) tNil))) rfl nd (pi_keys (pv 10)) (blkOk_by (N := NLw) (sc := defScope sLaw) (by decide +kernel)) (fun _ _ _ _ _ => pg_name (i := 14) nd rfl (Or.inl rfl)) (fun _ _ _ _ _ => pts_nil)
      (fun _ _ _ _ _ => pe_tup (pa_cons (pv 14) (pa_cons (pe_dget hu (pv 5) (pe_dget hu (pv 10) (pv 14) (fun _ _ => rfl)) (fun _ _ => rfl)) pa_nil))))) pa_nil)) (pa_cons (pe_callTy (r := rLd) (call_ld rfl) rfl L.nL boot_list' (pa_cons (pv 10) pa_nil)) pa_nil)))))))) (pss_one ps_never) pss_nil) pr, ?_⟩
  intro D H0 l ls r tb dl vw nm t2 fr as ns tbl ks led N o0 o2 o6 o9 o12 o13 o14 o15 o16 B ks2 tw VV F hN fin
  have kl := B.ksh
  have k2l := F.sh
  refine ⟨_, rfl, _, rfl, _, rfl, t2, _, F.ot, trivial, fun od => ⟨_, rfl, t2, od, rfl, .inl ⟨_, upd_same, ?_⟩⟩⟩
  have oL : upd H0 t2 (.frz od (.dK (vN ks2 tw))) t2 = some (.frz od (.dK (vN ks2 tw))) := upd_same
  have odl' : upd H0 t2 (.frz od (.dK (vN ks2 tw))) dl = some (.dK (vN ks led)) := by rw [upd_ne (Ne.symm F.ne2)]; exact B.odl
  refine pairs_lc (vN ks2 fun x => led (tw x)) (by show (dkv _ _).length < _; rw [dkv_len]; omega) (fun i H' s lt => ⟨s _ _ oL, by have lt' : i < (dkv ks2 _).length := lt; rw [dkv_len] at lt'; show i < (dkv ks2 _).length; rw [dkv_len]; exact lt'⟩) (fun H' s => ⟨s _ _ oL, by show (dkv ks2 _).length ≤ (dkv ks2 _).length; rw [dkv_len, dkv_len]; exact Nat.le_refl _⟩) ?_ ?_
  · rintro i v k x H2 H3 Cn Nn ek s2 ⟨rfl, k2, x2, ek2, rfl⟩ yes
    obtain ⟨y, ey, rfl, rfl⟩ := dkv_at ek
    obtain ⟨y2, ey2, rfl, rfl⟩ := dkv_at ek2
    rw [ey] at ey2
    obtain rfl := Option.some.inj ey2
    have yin := List.mem_of_getElem? ey
    have dg : DGet H3 t2 (kV (Sum.inr y)) (valV (vN ks2 tw) (Sum.inr y)) := .inl ⟨_, Sum.inr y, .inr ⟨od, s2 _ _ oL⟩, rfl, rfl⟩
    unfold vN at dg
    rw [dkv_val F.nd yin] at dg
    have dh : DGet H3 dl (kV (Sum.inr (tw y))) (valV (vN ks led) (Sum.inr (tw y))) := DGet.k (k := Sum.inr (tw y)) (s2 _ _ odl')
    unfold vN at dh
    rw [dkv_val B.knd (F.li y yin)] at dh
    refine ⟨rfl, ?_⟩
    refine ⟨_, rfl, _, rfl, _, rfl, _, rfl, t2, _, rfl, dg, dl, _, rfl, dh, (by show 2 ≤ sizeLine; decide), fun t nt => yes t _ upd_same (same_new nt)⟩
  · intro H2 Dl ps nDl oDl pr' s2
    obtain ⟨b1, s02⟩ := lock_off F.ot s2
    have ne1 : ∀ {b : Addr} {o : HO}, (∀ u, o ≠ .frz od u) → H2 b = some o → upd H2 t2 (.dK (vN ks2 tw)) b = some o := fun no e => by
      rw [upd_ne (fun z => by rw [z, b1] at e; exact no _ (Option.some.inj e).symm)]; exact e
    refine ⟨b1, Dl, ps, _, rfl, SqL.of (ne1 (fun u z => by cases z) oDl), Paired.mapP pr' fun p kv e => SqT.of (ne1 (fun u z => by cases z) e), fun p np => ?_⟩
    have kn2 : ((vN ks2 fun x => led (tw x)).map (·.1)).Nodup := dkv_nd F.nd
    rw [merge_nd kn2]
    have s3 := same_new (o := .dK (vN ks2 fun x => led (tw x))) np
    have op : upd (upd H2 t2 (.dK (vN ks2 tw))) p (.dK (vN ks2 fun x => led (tw x))) p = some (.dK (vN ks2 fun x => led (tw x))) := upd_same
    have s03 := s02.trans s3
    generalize upd (upd H2 t2 (.dK (vN ks2 tw))) p (.dK (vN ks2 fun x => led (tw x))) = H3 at s03 op
    have B3 := B.same s03
    refine ⟨_, rfl, t2, _, rfl, .inl (F.same s03).ot, fun q nq => ?_⟩
    have keys : (vN ks2 tw).map (fun kv => kV kv.1) = ks2.map V.str := by
      have z := congrArg (List.map kV) (dkv_keys ks2 fun x => .str (tw x))
      rw [List.map_map, List.map_map] at z
      exact z
    rw [keys]
    have sq := same_new (o := .lst (ks2.map V.str)) nq
    have oq : upd H3 q (.lst (ks2.map V.str)) q = some (.lst (ks2.map V.str)) := upd_same
    have aq := B3.S.apart (Same.refl _) nq
    generalize upd H3 q (.lst (ks2.map V.str)) = H4 at sq oq
    have s04 := s03.trans sq
    have B4 := B.same s04
    refine ⟨l, ls, fr, r, p, q, as, viewD (viewD (tabD ns tbl) ks led) ks2 tw, N, rfl, ⟨B4.S, (F.same s04).rel, B4.orr, B4.rows, sq _ _ op, oq, B.rn.1, B.rn.2, aq.1, aq.2⟩, by omega, fun H5 b5 S5 => ⟨_, rfl, iteF ?_⟩⟩
    refine fin H5 ((But.of s04).trans b5) (S5.mono ?_)
    show N + 200 * ((ks2.length : Nat) : Int) ≤ N + 2000
    omega
end
end L2.TB
/-! the law: views that are equal, and unlike ones -/
namespace L2.TB
open PySem PySem.Spec PyProof.Rows LamX MK
theorem rt_tab {CT : Addr} {H : Hp} {a : Addr} {ns : List Str} {tbl : List (List Int)} (h : RT CT H a (tabD ns tbl)) : TabAt H CT a ns tbl := by
  obtain ⟨ns', tbl', e, t, _⟩ := h
  have e1 : ns = ns' := congrArg Fd.ns e
  have e2 : tbl = tbl' := congrArg Fd.tbl e
  subst e1 e2
  exact t
section
variable {K : PySem.W.Frag} {C CT CV : Addr} {H1 : Hp} {Q : Addr → Hp → Prop} {E : XK} {ns : List Str} {tbl : List (List Int)}
/-- a new view, made -/
theorem vw_body {tb d : Addr} {ks : List Str} {led : Str → Str} (rt : RT CT H1 tb (tabD ns tbl)) (od : H1 d = some (.dK (vN ks led))) (knd : ks.Nodup) (kne : ks ≠ []) (kok : ∀ x ∈ ks, NmOk x) (li : ∀ x ∈ ks, led x ∈ ns) (ksh : ks.length < 100)
    (fin : ∀ H' y, Same H1 H' → RV C (RT CT) H' y (viewD (tabD ns tbl) ks led) → Q y H') (y dx : Addr) (nx : H1 y = none) (ndx : H1 dx = none) (_ : dx ≠ y) :
    spVI K C CV (RT CT) (V.ref y :: ([.ref tb, .ref d] ++ [])) (upd (upd H1 dx (.own y)) y (.ins C dx [])) (fun v H2 => v = .non ∧ Q y H2) E := by
  have qx : Same H1 (upd (upd H1 dx (.own y)) y (.ins C dx [])) := fun b o e => by rw [upd_ne (ne_of_none e nx), upd_ne (ne_of_none e ndx)]; exact e
  refine ⟨y, tb, dx, _, .ref d, rfl, upd_same, (rt_rel CT).same rt qx, .inr (.inr (.inr ⟨d, ks, led, rfl, qx _ _ od, knd, kne, kok, li, ksh, fun H9 da nda oy9 oda keep => ⟨rfl, ?_⟩⟩))⟩
  have s79 : Same H1 H9 := fun b o e => keep b o (fun z => by rw [z, nx] at e; cases e) (qx _ _ e)
  exact fin H9 y s79 ⟨dx, tb, da, tabD ns tbl, ks, led, rfl, oy9, oda, (rt_rel CT).same rt s79, knd, kne, kok, li, ksh⟩
theorem tb_body {r : Addr} {as : List Addr} (orr : H1 r = some (.lst (as.map V.ref))) (D : DRows H1 ns as tbl) (tn : tbl ≠ []) (ts : tbl.length < 100) (nn : ns ≠ []) (nnd : ns.Nodup) (nok : ∀ x ∈ ns, NmOk x) (nsh : ns.length < 100)
    (fin : ∀ H' x, Same H1 H' → RT CT H' x (tabD ns tbl) → Q x H') (x dx : Addr) (nx : H1 x = none) (ndx : H1 dx = none) (_ : dx ≠ x) :
    spInit CT (V.ref x :: ([.ref r] ++ [])) (upd (upd H1 dx (.own x)) x (.ins CT dx [])) (fun v H2 => v = .non ∧ Q x H2) E := by
  have k1 : Same H1 (upd (upd H1 dx (.own x)) x (.ins CT dx [])) := fun b o e => by rw [upd_ne (ne_of_none e nx), upd_ne (ne_of_none e ndx)]; exact e
  refine ⟨x, dx, r, as, ns, tbl, rfl, upd_same, k1 _ _ orr, D.same k1, tn, by omega, nn, nnd, nok, by omega, fun H4 tab fr => ⟨rfl, ?_⟩⟩
  exact fin H4 x (fun b o e => fr b o (ne_of_none e nx) (k1 _ _ e)) ⟨ns, tbl, rfl, tab, nnd, nn, nok, nsh, tn, ts⟩
/-- view == view: alike names, tables alike or not -/
theorem eq_vv {a b : Addr} {t1 t2 : List (List Int)} {ks : List Str} {led : Str → Str} {R : Bool → Hp → Prop} (g : Bool → Bool) (h1 : RV C (RT CT) H1 a (viewD (tabD ns t1) ks led)) (h2 : RV C (RT CT) H1 b (viewD (tabD ns t2) ks led)) (ok : ∀ x ∈ ks, NmOk x ∧ NmOk (led x)) (nok : ∀ x ∈ ns, NmOk x)
    (fin : ∀ H', Same H1 H' → R (g (decide (t1 = t2))) H') : rEqI C (spEqV K C CT) E g (.ref a) (.ref b) H1 (fun v H' => ∃ c, v = .bl c ∧ R c H') := by
  obtain ⟨dx, fa, da, ha, hda, ra⟩ := rv_inv h1
  obtain ⟨dy, fb, db, hb, hdb, rb⟩ := rv_inv h2
  refine ⟨a, b, dx, dy, _, _, rfl, rfl, ha, hb, a, b, dx, dy, fa, fb, da, db, ks, ks, led, led, rfl, ha, hb, hda, hdb, ok, ok, .inr ⟨rfl, ns, ns, t1, t2, rt_tab ra, rt_tab rb, nok, nok, fun H' s => ⟨_, rfl, _, rfl, ?_⟩⟩⟩
  rw [decide_eq_true rfl, Bool.true_and]
  exact fin H' s
theorem ne_vvQ {a b dx dy fa fb da db : Addr} {k1 k2 : List Str} {l1 l2 : Str → Str} {R : VK} (ha : H1 a = some (.ins C dx (vF fa da))) (hb : H1 b = some (.ins C dy (vF fb db))) (hda : H1 da = some (.dK (vN k1 l1))) (hdb : H1 db = some (.dK (vN k2 l2))) (ok1 : ∀ x ∈ k1, NmOk x ∧ NmOk (l1 x)) (ok2 : ∀ x ∈ k2, NmOk x ∧ NmOk (l2 x)) (ne : prs k1 l1 ≠ prs k2 l2)
    (fin : ∀ H', Same H1 H' → R (.bl false) H') : rEqI C (spEqV K C CT) E id (.ref a) (.ref b) H1 R :=
  ⟨a, b, dx, dy, _, _, rfl, rfl, ha, hb, a, b, dx, dy, fa, fb, da, db, k1, k2, l1, l2, rfl, ha, hb, hda, hdb, ok1, ok2, .inl ⟨ne, fun H' s => ⟨_, rfl, fin H' s⟩⟩⟩
/-- view == view with other names -/
theorem ne_vv {a b dx dy fa fb da db : Addr} {k1 k2 : List Str} {l1 l2 : Str → Str} {R : Bool → Hp → Prop} (ha : H1 a = some (.ins C dx (vF fa da))) (hb : H1 b = some (.ins C dy (vF fb db))) (hda : H1 da = some (.dK (vN k1 l1))) (hdb : H1 db = some (.dK (vN k2 l2))) (ok1 : ∀ x ∈ k1, NmOk x ∧ NmOk (l1 x)) (ok2 : ∀ x ∈ k2, NmOk x ∧ NmOk (l2 x)) (ne : prs k1 l1 ≠ prs k2 l2)
    (fin : ∀ H', Same H1 H' → R false H') : rEqI C (spEqV K C CT) E id (.ref a) (.ref b) H1 (fun v H' => ∃ c, v = .bl c ∧ R c H') :=
  ⟨a, b, dx, dy, _, _, rfl, rfl, ha, hb, a, b, dx, dy, fa, fb, da, db, k1, k2, l1, l2, rfl, ha, hb, hda, hdb, ok1, ok2, .inl ⟨ne, fun H' s => ⟨_, rfl, _, rfl, fin H' s⟩⟩⟩
end
theorem paired_two {α β : Type} {R : α → β → Prop} : ∀ {xs : List α} {ys : List β}, Paired R xs ys → ∀ {xs' : List α} {ys' : List β}, Paired R xs' ys' → Paired R (xs ++ xs') (ys ++ ys')
  | _, _, .nil, _, _, h => h
  | _, _, .cons h t, _, _, h' => .cons h (paired_two t h')
theorem prs_ne {k1 k2 : List Str} {l1 l2 : Str → Str} {x : Str} (h1 : x ∈ k2) (h2 : x ∉ k1) : prs k1 l1 ≠ prs k2 l2 := fun e => by
  have m : (x, l2 x) ∈ prs k1 l1 := e ▸ List.mem_map.mpr ⟨x, h1, rfl⟩
  obtain ⟨y, hy, e2⟩ := List.mem_map.mp m
  have e3 : y = x := congrArg Prod.fst e2
  exact h2 (e3 ▸ hy)
end L2.TB
/-! the law: whether views are equal -/
namespace L2.TB
open PySem PySem.Spec PyProof.Rows LamX MK
section
variable {P : Program} {w : World} {K : PySem.W.Frag} {mg : Str → Option Value} {base : Heap} {f C CT fIn : Addr} {EA : ErrA} {T : List (Addr × Str)} {cdv : Value} {A : Around} {outer : List Env} {s : Shared} {H : Hp} {E : XK} {rest : List Stmt} {u : TS}
theorem lw_7 (L : LwR P w K mg base C CT fIn EA T) (hr : Room 11 (A.deeper (envOfC "law" (defScope sLaw) s.heap.objs.size f cdv))) (pr : PSs (cxOf CX0 P w K mg base NLw "law" (defScope sLaw) f cdv A outer s H E).nox rest u) :
    ∃ t, PSs (cxOf CX0 P w K mg base NLw "law" (defScope sLaw) f cdv A outer s H E).nox (bodyL.getD 13 no0 :: rest) t ∧ ∀ (D : Ends) (H0 : Hp) (l ls r tb dl vw nm t2 fr : Addr) (as : List Addr) (ns : List Str) (tbl : List (List Int)) (ks : List Str) (led : Str → Str) (N : Int) (o0 o2 o6 o9 o12 o13 o14 o15 o16 : Option V),
      LwB T CT H0 l ls r tb dl as ns tbl ks led N → ∀ (ks2 : List Str) (tw : Str → Str), LwV C CT H0 l ls vw nm ns tbl ks led → LwF C CT H0 t2 fr dl ns tbl ks led ks2 tw → Vks ks →
      (∀ H', Same H0 H' → u D [o0, some (.ref l), o2, some (.ref r), some (.ref tb), some (.ref dl), o6, some (.ref vw), some (.ref nm), o9, some (.ref t2), some (.ref fr), o12, o13, o14, o15, o16] H') →
      t D [o0, some (.ref l), o2, some (.ref r), some (.ref tb), some (.ref dl), o6, some (.ref vw), some (.ref nm), o9, some (.ref t2), some (.ref fr), o12, o13, o14, o15, o16] H0 := by
  obtain ⟨fI, fdI, M, bI, GI, _⟩ := L.VK.ini
  obtain ⟨fdT, FT, GT⟩ := L.init
  have bT := FT.binds (ps := ["self", "rows"]) fun _ _ _ _ _ _ us hl => match us, hl with | [_, _], _ => rfl
  obtain ⟨fE, fdE, mE, bE, GE, GO⟩ := L.eq
  refine ⟨_, pss_cons (ps_if (PW.pt (pw_or (pt_not (pt_cmpR (op_eqI GE (hr.mono (by decide)) mE bE pass0) (pv 7) (pe_make M GI (hr.mono (by decide)) rfl L.VK.g bI .nil passL (pa_cons (pe_make L.made GT (hr.mono (by decide)) rfl L.gC bT .nil pass0 (pa_cons (pv 3) pa_nil)) (pa_cons (pv 5) pa_nil))) (nomark _)))
      (pw_or (pt_cmpR (op_neI GE (hr.mono (by decide)) mE L.ne.1 L.ne.2 bE pass0) (pv 7) (pe_make M GI (hr.mono (by decide)) rfl L.VK.g bI .nil passL (pa_cons (pv 4) (pa_cons (pv 5) pa_nil))) (nomark _))
      (pw_or (pt_cmpR (op_eqI GE (hr.mono (by decide)) mE bE pass0) (pv 7) (pv 11) (nomark _)) (pw_or1 (pt_cmpR (op_eqO GO (hr.mono (by decide)) mE bE pass0) (pv 7) (pv 4) (nomark _))))))) (pss_one ps_never) pss_nil) pr, ?_⟩
  intro D H0 l ls r tb dl vw nm t2 fr as ns tbl ks led N o0 o2 o6 o9 o12 o13 o14 o15 o16 B ks2 tw VV F vk fin
  have kl := B.ksh
  have OT := (rt_rel CT).ok B.rt
  have both : ∀ x ∈ ks, NmOk x ∧ NmOk (led x) := fun x hx => ⟨B.kok x hx, OT.ok _ (B.li x hx)⟩
  have O2 := (rr_rel C CT).ok F.rel
  have both2 : ∀ x ∈ ks2, NmOk x ∧ NmOk (tw x) := fun x hx => ⟨O2.ok x hx, B.kok _ (F.li x hx)⟩
  refine ⟨_, rfl, _, rfl, tb_body (ns := ns) (tbl := tbl) B.orr B.drows OT.tn OT.ts OT.ne OT.nd OT.ok OT.sh fun H1 x1 s1 rt1 => ?_⟩
  have B1 := B.same s1
  refine ⟨_, rfl, vw_body rt1 B1.odl B.knd B.kne B.kok B.li (by omega) fun H2 y2 s2 rv2 => ?_⟩
  have s02 := s1.trans s2
  refine eq_vv id (VV.same s02).rv rv2 both OT.ok fun H3 s3 => ?_
  rw [decide_eq_true rfl]
  refine iteF ?_
  have s03 := s02.trans s3
  have B3 := B.same s03
  refine ⟨_, rfl, _, rfl, _, rfl, vw_body B3.rt B3.odl B.knd B.kne B.kok B.li (by omega) fun H4 y4 s4 rv4 => ?_⟩
  have s04 := s03.trans s4
  refine eq_vv (fun t => !t) (VV.same s04).rv rv4 both OT.ok fun H5 s5 => ?_
  rw [decide_eq_true rfl]
  refine iteF ?_
  have s05 := s04.trans s5
  obtain ⟨dx, fa, da, ha, hd, _⟩ := rv_inv (VV.same s05).rv
  obtain ⟨dy, fb, db, D0, k2', l2', e, hb, hdb, rb, knd2, kne2, kok2, li2, ksh2⟩ := (F.same s05).rel
  have ek : ks2 = k2' := congrArg Fd.ns e
  subst ek
  have both2 : ∀ x ∈ ks2, NmOk x ∧ NmOk (l2' x) := fun x hx => ⟨kok2 x hx, ((rv_rel (C := C) (rt_rel CT)).ok rb).ok _ (li2 x hx)⟩
  refine ⟨_, rfl, _, rfl, ne_vv ha hb hd hdb both both2 (prs_ne F.w0 vk.2.1) fun H6 s6 => iteF ?_⟩
  have s06 := s05.trans s6
  obtain ⟨xt, _, _, htb, _⟩ := (rt_tab (B.same s06).rt).ex
  have tyT : TyX K H6 (.ref tb) (.ref CT) := L.tyT _ _ _ _ htb
  have ff := L.far (.ref CT) (by simp)
  refine ⟨_, rfl, _, rfl, vw, dx, _, .ref CT, rfl, s6 _ _ ha, tyT, ff.1, vw, .ref tb, .ref CT, rfl, tyT, ff.2, _, rfl, ?_⟩
  exact ⟨_, rfl, iteF (fin H6 s06)⟩
end
end L2.TB
/-! the law: views with other names, of other rows -/
namespace L2.TB
open PySem PySem.Spec PyProof.Rows LamX MK
theorem paired_rev {α β : Type} {R : α → β → Prop} : ∀ {xs : List α} {ys : List β}, Paired R xs ys → Paired R xs.reverse ys.reverse
  | _, _, .nil => .nil
  | _, _, .cons h t => by
    rw [List.reverse_cons, List.reverse_cons]
    exact paired_snoc h (paired_rev t)
theorem vN_rev (ks : List Str) (led : Str → Str) : (vN ks led).reverse = vN ks.reverse led := by
  unfold vN dkv
  rw [List.map_reverse]
theorem prs_rev {ks : List Str} {led : Str → Str} (nd : ks.Nodup) (l : 1 < ks.length) : prs ks led ≠ prs ks.reverse led := fun e => by
  have e1 := congrArg (List.map Prod.fst) e
  unfold prs at e1
  rw [List.map_map, List.map_map] at e1
  have id1 : ∀ xs : List Str, xs.map (Prod.fst ∘ fun x => (x, led x)) = xs := fun xs => by
    have : (Prod.fst ∘ fun x => (x, led x)) = id := rfl
    rw [this, List.map_id]
  rw [id1, id1] at e1
  have a : ks[0]? = some (ks[0]'(by omega)) := List.getElem?_eq_getElem _
  have b : ks.reverse[0]? = some (ks[ks.length - 1]'(by omega)) := by rw [List.getElem?_reverse (by omega), List.getElem?_eq_getElem (by omega)]; rfl
  rw [← e1, a] at b
  have p := List.pairwise_iff_getElem.mp nd 0 (ks.length - 1) (by omega) (by omega) (by omega)
  exact p (Option.some.inj b)
/-- other names -/
def OthD (H : Hp) (ns ks : List Str) (led : Str → Str) (o : Addr) : Prop := ∃ (k' : List Str) (l' : Str → Str), H o = some (.dK (vN k' l')) ∧ k'.Nodup ∧ k' ≠ [] ∧ (∀ x ∈ k', NmOk x) ∧ (∀ x ∈ k', l' x ∈ ns) ∧ k'.length < 100 ∧ prs ks led ≠ prs k' l'
theorem OthD.same {H H' : Hp} {ns ks : List Str} {led : Str → Str} {o : Addr} (h : OthD H ns ks led o) (s : Same H H') : OthD H' ns ks led o := let ⟨k, l, a, r⟩ := h; ⟨k, l, s _ _ a, r⟩
def moreL (led : Str → Str) (x : Str) : Str := if x = "more" then led "v0" else led x
theorem vN_more {ks : List Str} {led : Str → Str} (no : ("more" : Str) ∉ ks) : vN (ks ++ [("more" : Str)]) (moreL led) = vN ks led ++ [((Sum.inr "more" : Key), V.str (led "v0"))] := by
  unfold vN dkv
  rw [List.map_append]
  refine congr (congrArg _ (List.map_congr_left fun x hx => ?_)) ?_
  · have z : x ≠ "more" := fun z => no (z ▸ hx)
    show ((Sum.inr x : Key), V.str (moreL led x)) = (Sum.inr x, V.str (led x))
    unfold moreL
    rw [if_neg z]
  · show [((Sum.inr "more" : Key), V.str (moreL led "more"))] = _
    unfold moreL
    rw [if_pos rfl]
section
variable {P : Program} {w : World} {K : PySem.W.Frag} {mg : Str → Option Value} {base : Heap} {f C CT fIn : Addr} {EA : ErrA} {T : List (Addr × Str)} {cdv : Value} {A : Around} {outer : List Env} {s : Shared} {H : Hp} {E : XK} {rest : List Stmt} {u : TS}
theorem lw_8a (L : LwR P w K mg base C CT fIn EA T) (hr : Room 11 (A.deeper (envOfC "law" (defScope sLaw) s.heap.objs.size f cdv))) (pr : PSs (cxOf CX0 P w K mg base NLw "law" (defScope sLaw) f cdv A outer s H E).nox rest u) :
    ∃ t, PSs (cxOf CX0 P w K mg base NLw "law" (defScope sLaw) f cdv A outer s H E).nox (bodyL.getD 14 no0 :: rest) t ∧ ∀ (D : Ends) (H0 : Hp) (l ls r tb dl vw nm : Addr) (as : List Addr) (ns : List Str) (tbl : List (List Int)) (ks : List Str) (led : Str → Str) (N : Int) (o0 o2 o6 o9 o10 o11 o12 o13 o14 o15 o16 : Option V),
      LwB T CT H0 l ls r tb dl as ns tbl ks led N → LwV C CT H0 l ls vw nm ns tbl ks led →
      (∀ H' oa os, Same H0 H' → (∀ o, H0 o = none ∨ o ≠ oa) → H0 oa = none → H' oa = some (.lst ((os : List Addr).map V.ref)) → os.length ≤ 1 → (∀ o ∈ os, OthD H' ns ks led o) → u D [o0, some (.ref l), o2, some (.ref r), some (.ref tb), some (.ref dl), o6, some (.ref vw), some (.ref nm), o9, o10, o11, some (.ref oa), o13, o14, o15, o16] H') →
      t D [o0, some (.ref l), o2, some (.ref r), some (.ref tb), some (.ref dl), o6, some (.ref vw), some (.ref nm), o9, o10, o11, o12, o13, o14, o15, o16] H0 := by
  have nd := scLw.nd
  refine ⟨_, pss_cons (ps_set (i := 12) nd rfl (Or.inl rfl) (pe_op op_rep (pe_lst (pa_cons (pe_callTy (r := rDk K) (call_dk rfl) rfl L.nD boot_dict' (pa_cons (pe_revL (LiI.pe_listItems rfl (pv 5) rfl L.nL boot_list')) pa_nil)) pa_nil))
      (pe_callTy call_int1 rfl L.nI boot_int (pa_cons (pe_cmpR op_gt (pe_callB call_lenD rfl L.nN boot_len (pa_cons (pv 5) pa_nil)) pe_int (nomark _)) pa_nil)))) pr, ?_⟩
  intro D H0 l ls r tb dl vw nm as ns tbl ks led N o0 o2 o6 o9 o10 o11 o12 o13 o14 o15 o16 B VV fin
  have kl := B.ksh
  refine ⟨_, rfl, dl, _, rfl, B.odl, fun H1 p1 ts1 s1 _ _ _ o1 pr1 => ?_⟩
  have s1 : Same H0 H1 := s1
  refine ⟨p1, _, rfl, SqL.of o1, fun p2 np2 => ?_⟩
  have s2 := same_new (o := .lst (ts1.map V.ref).reverse) np2
  have o2' : upd H1 p2 (.lst (ts1.map V.ref).reverse) p2 = some (.lst (ts1.reverse.map V.ref)) := by rw [List.map_reverse]; exact upd_same
  generalize upd H1 p2 (.lst (ts1.map V.ref).reverse) = H2 at s2 o2'
  refine ⟨p2, ts1.reverse, (vN ks led).reverse, rfl, SqL.of o2', Paired.mapP (paired_rev pr1) fun p kv e => SqT.of (s2 _ _ e), fun d nd' => ?_⟩
  have knr : ks.reverse.Nodup := List.pairwise_reverse.mpr (B.knd.imp fun h => Ne.symm h)
  have kn2 : ((vN ks.reverse led).map (·.1)).Nodup := dkv_nd knr
  rw [vN_rev, merge_nd kn2]
  have s3 := same_new (o := .dK (vN ks.reverse led)) nd'
  have od : upd H2 d (.dK (vN ks.reverse led)) d = some (.dK (vN ks.reverse led)) := upd_same
  generalize upd H2 d (.dK (vN ks.reverse led)) = H3 at s3 od
  refine ⟨(by show 1 ≤ sizeLine; decide), fun q nq => ?_⟩
  have s4 := same_new (o := .lst [.ref d]) nq
  have oq : upd H3 q (.lst [.ref d]) q = some (.lst [.ref d]) := upd_same
  generalize upd H3 q (.lst [.ref d]) = H4 at s4 oq
  have s04 := s1.trans (s2.trans (s3.trans s4))
  have ln : (vN ks led).length = ks.length := dkv_len _ _
  refine ⟨_, rfl, dl, _, rfl, s04 _ _ B.odl, _, _, rfl, rfl, .inr ⟨_, rfl, ?_⟩⟩
  rw [ln]
  by_cases big : 1 < ks.length
  · rw [decide_eq_true (by omega : (1 : Int) < ((ks.length : Nat) : Int))]
    refine ⟨q, 1, _, rfl, rfl, oq, (by decide), (by decide), (by show 1 * 1 ≤ sizeLine; decide), fun oa noa => ?_⟩
    have s5 := same_new (o := .lst (List.replicate (1 : Int).toNat [V.ref d]).flatten) noa
    refine fin _ oa [d] (s04.trans s5) (fun o => ?_) (s04.free noa) upd_same (by show 1 ≤ 1; omega) (fun o ho => ?_)
    · by_cases z : o = oa
      · exact .inl (z ▸ s04.free noa)
      · exact .inr z
    · rw [List.mem_singleton.mp ho]
      exact ⟨ks.reverse, led, (s4.trans s5) _ _ od, knr, (fun z => B.kne (List.reverse_eq_nil_iff.mp z)), fun x hx => B.kok x (List.mem_reverse.mp hx), fun x hx => B.li x (List.mem_reverse.mp hx), by rw [List.length_reverse]; omega, prs_rev B.knd big⟩
  · rw [decide_eq_false (by omega : ¬ (1 : Int) < ((ks.length : Nat) : Int))]
    refine ⟨q, 0, _, rfl, rfl, oq, (by decide), (by decide), (by show 1 * 0 ≤ sizeLine; decide), fun oa noa => ?_⟩
    have s5 := same_new (o := .lst (List.replicate (0 : Int).toNat [V.ref d]).flatten) noa
    refine fin _ oa [] (s04.trans s5) (fun o => ?_) (s04.free noa) upd_same (by show 0 ≤ 1; omega) (fun o ho => by cases ho)
    by_cases z : o = oa
    · exact .inl (z ▸ s04.free noa)
    · exact .inr z
end
end L2.TB
/-! the law: views of other names, of more rows -/
namespace L2.TB
open PySem PySem.Spec PyProof.Rows LamX MK
section
variable {P : Program} {w : World} {K : PySem.W.Frag} {mg : Str → Option Value} {base : Heap} {f C CT fIn : Addr} {EA : ErrA} {T : List (Addr × Str)} {cdv : Value} {A : Around} {outer : List Env} {s : Shared} {H : Hp} {E : XK} {rest : List Stmt} {u : TS}
theorem lw_8b (L : LwR P w K mg base C CT fIn EA T) (hr : Room 11 (A.deeper (envOfC "law" (defScope sLaw) s.heap.objs.size f cdv))) (pr : PSs (cxOf CX0 P w K mg base NLw "law" (defScope sLaw) f cdv A outer s H E).nox rest u) :
    ∃ t, PSs (cxOf CX0 P w K mg base NLw "law" (defScope sLaw) f cdv A outer s H E).nox (bodyL.getD 15 no0 :: bodyL.getD 16 no0 :: rest) t ∧ ∀ (D : Ends) (H00 H0 : Hp) (l ls r tb dl vw nm oa : Addr) (as os : List Addr) (ns : List Str) (tbl : List (List Int)) (ks : List Str) (led : Str → Str) (N : Int) (o0 o2 o6 o9 o10 o11 o13 o14 o15 o16 : Option V),
      LwB T CT H00 l ls r tb dl as ns tbl ks led N → LwV C CT H00 l ls vw nm ns tbl ks led → Vks ks → Same H00 H0 → H00 oa = none → H0 oa = some (.lst (os.map V.ref)) → os.length ≤ 1 → (∀ o ∈ os, OthD H0 ns ks led o) →
      (∀ H', Same H00 H' → u D [o0, some (.ref l), o2, some (.ref r), some (.ref tb), some (.ref dl), o6, some (.ref vw), some (.ref nm), o9, o10, o11, some (.ref oa), o13, o14, o15, o16] H') →
      t D [o0, some (.ref l), o2, some (.ref r), some (.ref tb), some (.ref dl), o6, some (.ref vw), some (.ref nm), o9, o10, o11, some (.ref oa), o13, o14, o15, o16] H0 := by
  obtain ⟨fI, fdI, M, bI, GI, _⟩ := L.VK.ini
  obtain ⟨fdT, FT, GT⟩ := L.init
  have bT := FT.binds (ps := ["self", "rows"]) fun _ _ _ _ _ _ us hl => match us, hl with | [_, _], _ => rfl
  obtain ⟨fE, fdE, mE, bE, GE, GO⟩ := L.eq
  have nd := scLw.nd
  have hu := hu_of hr
  refine ⟨_, pss_cons (ps_expr (pe_bm PySem.F.plainAttrs_list PySem.F.slot_list_append PySem.F.type_list_append mt_append (pv 12) (pa_cons (pe_callTy (r := rDk K) (call_dk rfl) rfl L.nD boot_dict' (pa_cons (pe_op op_cat (LiI.pe_listItems rfl (pv 5) rfl L.nL boot_list') (pe_lst (pa_cons (pe_tup (pa_cons pe_str (pa_cons (pe_dget hu (pv 5) pe_str (fun _ _ => rfl)) pa_nil))) pa_nil))) pa_nil)) pa_nil)))
    (pss_cons (ps_if (PW.pt (pw_or (pt_val (pe_callB (r := rAny K) (cr_any rfl) rfl L.nA (by decide +kernel) (pa_cons (pe_lc (own := [("other", 15)]) (tt := tYes) (g := gName 15) (te := tOp (rEqI C (spEqV K C CT) E0 id) (tVar 7) (tMake C (spVI K C EA.CV (RT CT)) [] E0 (tCons (tVar 4) (tCons (tVar 15) tNil)))) rfl nd (pi_list (pv 12)) (blkOk_by (N := NLw) (sc := defScope sLaw) (by decide +kernel)) (fun _ _ _ _ _ => pg_name (i := 15) nd rfl (Or.inl rfl)) (fun _ _ _ _ _ => pts_nil)
        (fun _ _ _ _ _ => pe_cmpR (op_eqI GE (hr.mono (by decide)) mE bE pass0) (pv 7) (pe_make M GI (hr.mono (by decide)) rfl L.VK.g bI .nil passL (pa_cons (pv 4) (pa_cons (pv 15) pa_nil))) (nomark _))) pa_nil)))
      (pw_or1 (pt_cmpR (op_eqI GE (hr.mono (by decide)) mE bE pass0) (pv 7) (pe_make M GI (hr.mono (by decide)) rfl L.VK.g bI .nil passL (pa_cons (pe_make L.made GT (hr.mono (by decide)) rfl L.gC bT .nil pass0 (pa_cons (pe_op op_cat (pv 3) (pv 3)) pa_nil)) (pa_cons (pv 5) pa_nil))) (nomark _))))) (pss_one ps_never) pss_nil) pr), ?_⟩
  intro D H00 H0 l ls r tb dl vw nm oa as os ns tbl ks led N o0 o2 o6 o9 o10 o11 o13 o14 o15 o16 B00 V00 vk s00 noa ooa los oth fin
  have kl := B00.ksh
  have B := B00.same s00
  have OT := (rt_rel CT).ok B.rt
  have both : ∀ x ∈ ks, NmOk x ∧ NmOk (led x) := fun x hx => ⟨B.kok x hx, OT.ok _ (B.li x hx)⟩
  refine ⟨_, rfl, .inl ⟨rfl, _, SqL.of ooa⟩, _, rfl, dl, _, rfl, B.odl, fun H1 p1 ts1 s1 _ _ _ o1 pr1 => ?_⟩
  have s1 : Same H0 H1 := s1
  have dg : DGet H1 dl (kV (Sum.inr "v0")) (valV (vN ks led) (Sum.inr "v0")) := DGet.k (k := Sum.inr "v0") (s1 _ _ B.odl)
  unfold vN at dg
  rw [dkv_val B.knd vk.1] at dg
  refine ⟨_, rfl, dl, _, rfl, dg, (by show 2 ≤ sizeLine; decide), fun t nt => ⟨(by show 1 ≤ sizeLine; decide), fun p np => ?_⟩⟩
  have st := same_new (o := .tup [.str "more", .str (led "v0")]) nt
  have ot : upd H1 t (.tup [.str "more", .str (led "v0")]) t = some (.tup [.str "more", .str (led "v0")]) := upd_same
  generalize upd H1 t (.tup [.str "more", .str (led "v0")]) = H2 at st ot np
  have sp := same_new (o := .lst [.ref t]) np
  have op : upd H2 p (.lst [.ref t]) p = some (.lst [.ref t]) := upd_same
  generalize upd H2 p (.lst [.ref t]) = H3 at sp op
  have k13 := st.trans sp
  have l1 : ts1.length = ks.length := by rw [Paired.length pr1]; exact dkv_len _ _
  refine ⟨p1, p, _, _, rfl, rfl, k13 _ _ o1, op, (by rw [sizeLine_eq, List.length_map]; show _ + 1 ≤ _; omega), fun p5 np5 => ?_⟩
  have s5 := same_new (o := .lst (ts1.map V.ref ++ [V.ref t])) np5
  have o5 : upd H3 p5 (.lst (ts1.map V.ref ++ [V.ref t])) p5 = some (.lst (ts1.map V.ref ++ [V.ref t])) := upd_same
  generalize upd H3 p5 (.lst (ts1.map V.ref ++ [V.ref t])) = H4 at s5 o5
  have k14 := k13.trans s5
  refine ⟨p5, ts1 ++ [t], vN ks led ++ [((Sum.inr "more" : Key), V.str (led "v0"))], rfl, SqL.of (by rw [List.map_append]; exact o5), paired_snoc (F := fun t (e : Key × V) => SqT K H4 t [kV e.1, e.2]) (SqT.of (s5 _ _ (sp _ _ ot))) (Paired.mapP pr1 fun x kv e => SqT.of (k14 _ _ e)), fun d nd' => ?_⟩
  have mnd : (ks ++ [("more" : Str)]).Nodup := List.nodup_append.mpr ⟨B.knd, by simp, fun a ha b hb e => by rw [List.mem_singleton.mp hb] at e; exact vk.2.2 (e ▸ ha)⟩
  have kn2 : ((vN (ks ++ [("more" : Str)]) (moreL led)).map (·.1)).Nodup := dkv_nd mnd
  rw [← vN_more vk.2.2, merge_nd kn2]
  have s6 := same_new (o := .dK (vN (ks ++ [("more" : Str)]) (moreL led))) nd'
  have od : upd H4 d (.dK (vN (ks ++ [("more" : Str)]) (moreL led))) d = some (.dK (vN (ks ++ [("more" : Str)]) (moreL led))) := upd_same
  generalize upd H4 d (.dK (vN (ks ++ [("more" : Str)]) (moreL led))) = H5 at s6 od
  have s05 := s1.trans (k14.trans s6)
  have ooa5 := s05 _ _ ooa
  refine ⟨oa, _, .ref d, rfl, rfl, ooa5, (by rw [sizeLine_eq, List.length_map]; omega), ?_⟩
  have sf : Same H00 (upd H5 oa (.lst (os.map V.ref ++ [.ref d]))) := upd_new (s00.trans s05) noa
  have o6' : upd H5 oa (.lst (os.map V.ref ++ [.ref d])) oa = some (.lst ((os ++ [d]).map V.ref)) := by rw [List.map_append]; exact upd_same
  have more_ok : NmOk "more" := by unfold NmOk; decide +kernel
  have oth6 : ∀ o ∈ os ++ [d], OthD (upd H5 oa (.lst (os.map V.ref ++ [.ref d]))) ns ks led o := fun o ho => by
    have base : OthD H5 ns ks led o := by
      rcases List.mem_append.mp ho with h | h
      · exact (oth o h).same s05
      · rw [List.mem_singleton.mp h]
        refine ⟨ks ++ [("more" : Str)], moreL led, od, mnd, by simp, fun x hx => ?_, fun x hx => ?_, by rw [List.length_append]; show _ + 1 < 100; omega, prs_ne (x := "more") (by simp) vk.2.2⟩
        · rcases List.mem_append.mp hx with h | h
          · exact B.kok x h
          · rw [List.mem_singleton.mp h]; exact more_ok
        · unfold moreL
          by_cases z : x = "more"
          · rw [if_pos z]; exact B.li _ vk.1
          · rw [if_neg z]
            rcases List.mem_append.mp hx with h | h
            · exact B.li x h
            · exact absurd (List.mem_singleton.mp h) z
    obtain ⟨k', l', oo, r'⟩ := base
    exact ⟨k', l', by rw [upd_ne (fun z => by rw [z, ooa5] at oo; cases oo)]; exact oo, r'⟩
  generalize upd H5 oa (.lst (os.map V.ref ++ [.ref d])) = H6 at sf o6' oth6
  have B6 := B00.same sf
  have V6 := V00.same sf
  have lo : (os ++ [d]).length ≤ 2 := by rw [List.length_append]; show _ + 1 ≤ 2; omega
  refine ⟨_, rfl, oa, rfl, ⟨_, SqL.of o6'⟩, lc_gen (((os ++ [d]).map fun _ => false).map V.bl) (by rw [List.length_map, List.length_map]; omega) (fun j H' s lt => ⟨_, _, SqL.of (s _ _ o6'), List.getElem?_eq_getElem (by rw [List.length_map, List.length_map] at lt; rw [List.length_map]; exact lt)⟩) (fun H' s => ⟨_, SqL.of (s _ _ o6'), by rw [List.length_map, List.length_map, List.length_map]; exact Nat.le_refl _⟩) ?_ ?_⟩
  · rintro j v y H7 H8 Cm Nm ey s7 ⟨rfl, ev⟩ yes
    have ev := ev _ (SqL.of (s7 _ _ o6'))
    rw [List.getElem?_map] at ev
    obtain ⟨o, eo, rfl⟩ := Option.map_eq_some_iff.mp ev
    rw [List.getElem?_map, List.getElem?_map, eo] at ey
    obtain rfl := Option.some.inj ey
    obtain ⟨k', l', oo, kn', kne', kok', li', ksh', ne'⟩ := (oth6 o (List.mem_of_getElem? eo)).same s7
    refine ⟨rfl, ?_⟩
    refine ⟨_, rfl, _, rfl, _, rfl, vw_body (B6.same s7).rt oo kn' kne' kok' li' ksh' fun H9 y9 s9 rv9 => ?_⟩
    obtain ⟨dx, fa, da, ha, hd, _⟩ := rv_inv (V6.same (s7.trans s9)).rv
    obtain ⟨dy, fb, db, hb, hdb, _⟩ := rv_inv rv9
    exact ne_vvQ ha hb hd hdb both (fun x hx => ⟨kok' x hx, OT.ok _ (li' x hx)⟩) ne' fun H10 s10 => yes H10 (s9.trans s10)
  · intro H7 Dl nDl oDl s7
    refine ⟨Dl, _, rfl, SqL.of oDl, _, rfl, ?_⟩
    have ef : (((os ++ [d]).map fun _ => false).any id) = false := by
      rw [List.any_eq_false]
      intro b hb
      obtain ⟨_, _, rfl⟩ := List.mem_map.mp hb
      decide
    rw [ef]
    refine iteF ?_
    have B7 := B6.same s7
    have V7 := V6.same s7
    refine ⟨_, rfl, _, rfl, _, rfl, r, r, _, _, rfl, rfl, B7.orr, B7.orr, (by rw [sizeLine_eq, List.length_map]; have z := Paired.length B7.rows; have := B7.ts; omega), fun rr nrr => ?_⟩
    have sr := same_new (o := .lst (as.map V.ref ++ as.map V.ref)) nrr
    have or' : upd H7 rr (.lst (as.map V.ref ++ as.map V.ref)) rr = some (.lst ((as ++ as).map V.ref)) := by rw [List.map_append]; exact upd_same
    generalize upd H7 rr (.lst (as.map V.ref ++ as.map V.ref)) = H8 at sr or'
    have B8 := B7.same sr
    have ts2 : (tbl ++ tbl).length < 100 := by rw [List.length_append]; have := B.ts; omega
    have tn : tbl ≠ [] := OT.tn
    refine tb_body (ns := ns) (tbl := tbl ++ tbl) or' (paired_two B8.drows B8.drows) (fun z => tn (List.append_eq_nil_iff.mp z).1) ts2 OT.ne OT.nd OT.ok OT.sh fun H9 x9 s9 rt9 => ?_
    have B9 := B8.same s9
    refine ⟨_, rfl, vw_body rt9 B9.odl B.knd B.kne B.kok B.li (by omega) fun H10 y10 s10 rv10 => ?_⟩
    have s710 := sr.trans (s9.trans s10)
    refine eq_vv id (V7.same s710).rv rv10 both OT.ok fun H11 s11 => ?_
    have ne2 : tbl ≠ tbl ++ tbl := fun z => by
      have := congrArg List.length z
      rw [List.length_append] at this
      exact tn (List.length_eq_zero_iff.mp (by omega))
    rw [decide_eq_false ne2]
    exact iteF (fin H11 (sf.trans (s7.trans (s710.trans s11))))
end
end L2.TB
/-! the law, whole -/
namespace L2.TB
open PySem PySem.Spec PyProof.Rows LamX MK
theorem all_false : ∀ ys : List V, (∀ (j : Nat) (y : V), ys[j]? = some y → y = .bl false) → ys = (List.replicate ys.length false).map V.bl
  | [], _ => rfl
  | y :: ys, h => by
    rw [List.length_cons, List.replicate_succ, List.map_cons, h 0 y rfl]
    exact congrArg _ (all_false ys fun j z e => h (j + 1) z (by simpa using e))
def spLawT (K : PySem.W.Frag) (T : List (Addr × Str)) : Sp := fun vs H Q _ => ∃ (a : Addr) (ns : List Int), vs = [.ref a] ∧ SqL K H a (ns.map V.int) ∧ ns.length ≤ 63 ∧ Tabs T H ∧ ∀ H', Q (.bl true) H'
section
variable {P : Program} {w : World} {K : PySem.W.Frag} {mg : Str → Option Value} {base : Heap} {f C CT fIn : Addr} {fd : FuncData} {EA : ErrA} {T : List (Addr × Str)} {cdv : Value} {A : Around} {outer : List Env} {s : Shared} {H : Hp} {E : XK} {rest : List Stmt} {u : TS}
theorem lw_9 (L : LwR P w K mg base C CT fIn EA T) (hr : Room 11 (A.deeper (envOfC "law" (defScope sLaw) s.heap.objs.size f cdv))) (pr : PSs (cxOf CX0 P w K mg base NLw "law" (defScope sLaw) f cdv A outer s H E).nox rest u) :
    ∃ t, PSs (cxOf CX0 P w K mg base NLw "law" (defScope sLaw) f cdv A outer s H E).nox (bodyL.getD 17 no0 :: rest) t ∧ ∀ (D : Ends) (H0 : Hp) (l ls r tb dl vw nm : Addr) (as : List Addr) (ns : List Str) (tbl : List (List Int)) (ks : List Str) (led : Str → Str) (N : Int) (o0 o2 o6 o9 o10 o11 o12 o13 o14 o15 o16 : Option V),
      LwB T CT H0 l ls r tb dl as ns tbl ks led N → LwV C CT H0 l ls vw nm ns tbl ks led →
      (∀ H', ExtN H0 H' → Tabs T H' → u D [o0, some (.ref l), o2, some (.ref r), some (.ref tb), some (.ref dl), o6, some (.ref vw), some (.ref nm), o9, o10, o11, o12, o13, o14, o15, o16] H') →
      t D [o0, some (.ref l), o2, some (.ref r), some (.ref tb), some (.ref dl), o6, some (.ref vw), some (.ref nm), o9, o10, o11, o12, o13, o14, o15, o16] H0 := by
  obtain ⟨f1, d1, g1, F1, G1⟩ := L.refR
  have b1 := F1.binds (ps := ["table", "view", "rows", "names"]) fun _ _ _ _ _ _ us hl => match us, hl with | [_, _, _, _], _ => rfl
  obtain ⟨fE, fdE, mE, bE, GE, GO⟩ := L.eq
  have nd := scLw.nd
  refine ⟨_, pss_cons (ps_if (PW.pt (pw_or (pt_val (pe_callB (r := rAny K) (cr_any rfl) rfl L.nA (by decide +kernel) (pa_cons (pe_lc (own := [("thing", 16)]) (tt := tYes) (g := gName 16) (te := tOp (rEqO K C (spEqVO K C) E0) (tVar 7) (tVar 16)) rfl nd (pi_seq (pe_tup (pa_cons pe_non (pa_cons pe_int (pa_cons (pv 5) (pa_cons pe_str pa_nil)))))) (blkOk_by (N := NLw) (sc := defScope sLaw) (by decide +kernel)) (fun _ _ _ _ _ => pg_name (i := 16) nd rfl (Or.inl rfl)) (fun _ _ _ _ _ => pts_nil)
        (fun _ _ _ _ _ => pe_cmpR (op_eqO GO (hr.mono (by decide)) mE bE pass0) (pv 7) (pv 16) (nomark _))) pa_nil)))
      (pw_or1 (pt_not (pt_val (pe_call G1 hr rfl g1 F1.kp b1 .nil pass0 (pa_cons (pv 4) (pa_cons (pv 7) (pa_cons (pv 3) (pa_cons (pv 8) pa_nil)))))))))) (pss_one ps_never) pss_nil) pr, ?_⟩
  intro D H0 l ls r tb dl vw nm as ns tbl ks led N o0 o2 o6 o9 o10 o11 o12 o13 o14 o15 o16 B VV fin
  obtain ⟨dx, fa, da, ha, _⟩ := rv_inv VV.rv
  refine ⟨_, rfl, (by show 4 ≤ sizeLine; decide), fun tt ntt => ?_⟩
  have s1 := same_new (o := .tup [.non, .int 5, .ref dl, .str "ab"]) ntt
  have ott : upd H0 tt (.tup [.non, .int 5, .ref dl, .str "ab"]) tt = some (.tup [.non, .int 5, .ref dl, .str "ab"]) := upd_same
  generalize upd H0 tt (.tup [.non, .int 5, .ref dl, .str "ab"]) = H1 at s1 ott
  refine lc_madeS (.inr ott) (by show 4 < 1000000; decide) (fun _ y _ => y = V.bl false) (fun _ _ _ _ _ _ h _ _ => h) ?_ ?_
  · rintro j v H2 Cn Nn ev s2 yes
    refine ⟨rfl, ?_⟩
    have one : ∀ (t : Value), TyX K H2 v t → (t = .type "NoneType" ∨ t = .type "int" ∨ t = .type "str" ∨ t = .type "dict" ∨ t = .ref CT) → rEqO K C (spEqVO K C) E0 (.ref vw) v H2 Cn := fun t ty ht =>
      ⟨vw, dx, _, t, rfl, (s1.trans s2) _ _ ha, ty, (L.far t ht).1, vw, v, t, rfl, ty, (L.far t ht).2, _, rfl, yes _ _ rfl (Same.refl _)⟩
    refine ⟨_, rfl, _, rfl, ?_⟩
    match j, ev with
    | 0, ev => obtain rfl := Option.some.inj ev; exact one _ (.base .non) (by simp)
    | 1, ev => obtain rfl := Option.some.inj ev; exact one _ (.base (.int _)) (by simp)
    | 2, ev => obtain rfl := Option.some.inj ev; exact one _ (.base (.dK ((s1.trans s2) _ _ B.odl))) (by simp)
    | 3, ev => obtain rfl := Option.some.inj ev; exact one _ (.base (.str _)) (by simp)
    | n + 4, ev => cases ev
  · intro H2 Dl ys nDl oDl ly ry s2
    have s02 := s1.trans s2
    rw [all_false ys ry] at oDl
    refine ⟨Dl, _, rfl, SqL.of oDl, _, rfl, ?_⟩
    have ef : ((List.replicate ys.length false).any id) = false := by
      rw [List.any_eq_false]
      intro b hb
      rw [List.eq_of_mem_replicate hb]
      decide
    rw [ef]
    refine iteF ?_
    have B2 := B.same s02
    have V2 := VV.same s02
    exact ⟨_, rfl, _, rfl, _, rfl, _, rfl, tb, vw, r, nm, as, ns, tbl, ks, led, rfl, ⟨B2.rt, V2.rv, B2.orr, B2.drows, V2.on, B.bd⟩, B2.T, fun H3 e3 T3 => ⟨_, rfl, iteF (fin H3 ((ExtN.of s02).trans e3) T3)⟩⟩
theorem ok_law (FE : Fun K "law" "law" sLaw f fd) (L : LwR P w K mg base C CT fIn EA T) : FnOk P w K mg base CX0 12 f fd ["script"] (spLawT K T) := by
  obtain ⟨fS, fdS, gS, FS⟩ := L.start
  have GS : FnOk P w K mg base CX0 1 fS fdS ["script"] (spStart K) := ok_start FS L.nL
  have bS := FS.binds (ps := ["script"]) fun _ _ _ _ _ _ us hl => match us, hl with | [_], _ => rfl
  refine FE.ok scLw (fun vs H Q E h => by obtain ⟨a, ns, e, _⟩ := h; rw [e]; rfl) fun cdv A outer s H vs Q E hr hsp => ?_
  obtain ⟨a, cs, rfl, hS, hn, hT, hq⟩ := hsp
  have nd := scLw.nd
  obtain ⟨t9, p9, r9⟩ := lw_9 (outer := outer) (H := H) (E := E) L hr pss_nil
  obtain ⟨t8, p8, r8⟩ := lw_8b (outer := outer) (H := H) (E := E) L hr p9
  obtain ⟨t8a, p8a, r8a⟩ := lw_8a (outer := outer) (H := H) (E := E) L hr p8
  obtain ⟨t7, p7, r7⟩ := lw_7 (outer := outer) (H := H) (E := E) L hr p8a
  obtain ⟨t6, p6, r6⟩ := lw_6 (outer := outer) (H := H) (E := E) L hr p7
  obtain ⟨t5, p5, r5⟩ := lw_5 (outer := outer) (H := H) (E := E) L hr p6
  obtain ⟨t4, p4, r4⟩ := lw_4 (outer := outer) (H := H) (E := E) L hr p5
  obtain ⟨t3, p3, r3⟩ := lw_3 (outer := outer) (H := H) (E := E) L hr p4
  obtain ⟨t2, p2, r2⟩ := lw_2 (outer := outer) (H := H) (E := E) L hr p3
  obtain ⟨t1, p1, r1⟩ := lw_1 (outer := outer) (H := H) (E := E) L hr p2
  refine ⟨_, PSs.nox (st := defBody sLaw) (pss_cons (ps_set (i := 1) nd rfl (Or.inr rfl) (pe_call GS (hr.mono (by decide)) rfl gS FS.kp bS .nil pass0 (pa_cons (pv 0) pa_nil)))
    (pss_cons (ps_for PassesOwn.never rfl (pi_range1 rfl L.nR (pa_cons pe_int pa_nil)) (pg_name (i := 2) nd rfl (Or.inl rfl)) p1)
    (pss_one (ps_ret pe_bl)))), ?_⟩
  refine ⟨_, rfl, a, cs, rfl, hS, by omega, fun H1 l ls nl k1 S1 nls => ?_⟩
  refine ⟨3, rfl, by decide, by decide, for_range (n := 3) (fun i σ H' => Strm H' l ls (10000 * (i : Int)) ∧ Tabs T H' ∧ ∃ s2 s3 s4 s5 s6 s7 s8 s9 s10 s11 s12 s13 s14 s15 s16, σ = [some (.ref a), some (.ref l), s2, s3, s4, s5, s6, s7, s8, s9, s10, s11, s12, s13, s14, s15, s16])
    ⟨by simpa using S1, hT.ext k1, _, _, _, _, _, _, _, _, _, _, _, _, _, _, _, rfl⟩ ?_ ?_⟩
  · rintro i σ H2 hi ⟨S2, T2, q2, q3, q4, q5, q6, q7, q8, q9, q10, q11, q12, q13, q14, q15, q16, rfl⟩
    refine r1 _ H2 l ls _ _ _ _ _ _ _ _ _ _ _ _ _ _ _ _ _ S2 (by omega) T2 fun H3 r tb dl as ns tbl ks led B3 vk => ?_
    refine r2 _ H3 l ls r tb dl as ns tbl ks led _ _ _ _ _ _ _ _ _ _ _ _ _ _ B3 fun H4 vw nm _ s4 V4 => ?_
    have B4 := B3.same s4
    refine r3 _ H4 l ls r tb dl vw nm as ns tbl ks led _ _ _ _ _ _ _ _ _ _ _ _ B4 V4 fun H5 _ s5 => ?_
    have B5 := B4.same s5
    have V5 := V4.same s5
    refine r4 _ H5 l ls r tb dl vw nm as ns tbl ks led _ _ _ _ _ _ _ _ _ _ _ _ B5 V5 (by omega) fun H6 b6 S6 => ?_
    have B6 := B5.but b6 S6
    have V6 := V5.but B5.S b6
    refine r5 _ H6 l ls r tb dl vw nm as ns tbl ks led _ _ _ _ _ _ _ _ _ _ _ _ B6 V6 (by omega) fun H7 t2' fr ks2 tw b7 S7 F7 => ?_
    have B7 := B6.but b7 S7
    have V7 := V6.but B6.S b7
    refine r6 _ H7 l ls r tb dl vw nm t2' fr as ns tbl ks led _ _ _ _ _ _ _ _ _ _ B7 ks2 tw V7 F7 (by omega) fun H8 b8 S8 => ?_
    have B8 := B7.but b8 S8
    have V8 := V7.but B7.S b8
    have F8 := F7.but B7.S b8
    refine r7 _ H8 l ls r tb dl vw nm t2' fr as ns tbl ks led _ _ _ _ _ _ _ _ _ _ B8 ks2 tw V8 F8 vk fun H9 s9 => ?_
    have B9 := B8.same s9
    have V9 := V8.same s9
    refine r8a _ H9 l ls r tb dl vw nm as ns tbl ks led _ _ _ _ _ _ _ _ _ _ _ _ B9 V9 fun H10 oa os s10 _ noa ooa los oth => ?_
    refine r8 _ H9 H10 l ls r tb dl vw nm oa as os ns tbl ks led _ _ _ _ _ _ _ _ _ _ _ B9 V9 vk s10 noa ooa los oth fun H11 s11 => ?_
    have B11 := B9.same s11
    refine r9 _ H11 l ls r tb dl vw nm as ns tbl ks led _ _ _ _ _ _ _ _ _ _ _ _ B11 (V9.same s11) fun H12 e12 T12 => ?_
    have S12 := (B11.S.ext e12).mono (M := 10000 * ((i + 1 : Nat) : Int)) (by omega)
    exact ⟨S12, T12, _, _, _, _, _, _, _, _, _, _, _, _, _, _, _, rfl⟩
  · rintro σ H2 ⟨S2, T2, q2, q3, q4, q5, q6, q7, q8, q9, q10, q11, q12, q13, q14, q15, q16, rfl⟩
    exact hq H2
end
end L2.TB
namespace L2.TB
open PySem PySem.Spec PyProof.Rows
open LamX MK
section
variable {K : PySem.W.Frag} {h : Heap} {mg : Str → Option Value}
theorem fun_ofD {x q : Str} {st : Stmt} {f : Addr} {fd : FuncData} (F : FunD K x q (defArgs st) (defBody st) (defScope st) [] [] f fd) : Fun K x q st f fd := by
  obtain ⟨⟨oc, od, dV, kV, doc, pm, an, cdv, ct, osl, e, lk, hc, hd, hk⟩, kp⟩ := F
  obtain rfl : dV = .none := hd.elim (fun z => z.2) fun z => absurd rfl z.1
  exact ⟨⟨oc, od, kV, doc, pm, an, cdv, ct, osl, e, lk, hc⟩, kp⟩
theorem def_at (c : He.SaysD faT fnT K) (X : K.In h) (G : h.Ns mainGlobals mg) (i k : Nat) {x : Str} {st : Stmt} (ei : faT[i]? = some (.glo x)) (ek : fnT[k]? = some (dfd (x, none) x x st [])) :
    mg x = some (.ref (He.ga K x)) ∧ ∃ fd, Fun K x x st (He.ga K x) fd := by
  obtain ⟨fd, F⟩ := c.def_ k ek
  exact ⟨He.glo_ok X G (c.fact i ei), fd, fun_ofD F⟩
theorem meth_at (c : He.SaysD faT fnT K) (i k : Nat) {m q : Str} {st : Stmt} (ei : faT[i]? = some (.meth "Table" m)) (ek : fnT[k]? = some (dfd ("Table", some m) m q st [])) :
    Meth K (He.ga K "Table") m (He.ma K (He.ga K "Table") m) ∧ ∃ fd, Fun K m q st (He.ma K (He.ga K "Table") m) fd := by
  obtain ⟨fd, F⟩ := c.def_ k ek
  exact ⟨He.meth_ok (c.fact i ei), fd, fun_ofD F⟩
theorem meth_atV (c : He.SaysD faT fnT K) (i k : Nat) {m q : Str} {st : Stmt} (ei : faT[i]? = some (.meth "View" m)) (ek : fnT[k]? = some (dfd ("View", some m) m q st [])) :
    Meth K (He.ga K "View") m (He.ma K (He.ga K "View") m) ∧ ∃ fd, Fun K m q st (He.ma K (He.ga K "View") m) fd := by
  obtain ⟨fd, F⟩ := c.def_ k ek
  exact ⟨He.meth_ok (c.fact i ei), fd, fun_ofD F⟩
theorem code_of {x : Str} {st : Stmt} {fd : FuncData} (F : Fun K x x st (He.ga K x) fd) : fd.code = .ref (He.cT K (x, none)).1 := by
  obtain ⟨⟨oc, od, kV, doc, pm, an, cdv, ct, osl, e, lk, hc⟩, kp⟩ := F
  obtain ⟨c, e2⟩ := He.codeIn_ref hc
  have e3 : fd.code = .ref c := by rw [e]; exact e2
  have lk2 : K.lookup (He.fAd K (x, none)) = some ⟨oc, od, .func fd, osl⟩ := lk
  rw [e3]
  exact congrArg Value.ref (He.codeOf_eq lk2 e3).symm
/-- an error's class -/
theorem err_at {P : Program} {w : World} {base : Heap} (c : SaysK h K) (X : K.In h) (G : h.Ns mainGlobals mg) (i k : Nat) {x fld q : Str} {st : Stmt} {p0 p1 p2 p3 : Pos} (ei : faT[i]? = some (.glo x)) (ek : fnT[k]? = some (dfd (x, some "__init__") "__init__" q st [])) (he : (x, fld) ∈ erT)
    (S : FnScope ["self", fld] ["self", fld] (defScope st)) (hb : defBody st = [.Assign [.Attribute (.Name "self" p0) fld p1] (.Name fld p2) p3]) (hv0 : Vis (defScope st) "self") (hv1 : Vis (defScope st) fld) (hdy : (fld == ("__debug__" : Str)) = false) (hcy : (fld == ("__classdict__" : Str)) = false)
    (bd : ∀ (kV doc pm : Value) (an : Option Addr) (cdv ct : Value) (us : List Value), us.length = 2 → bindArgs (PySem.W.fnOf "__init__" q (defArgs st) (defBody st) (defScope st) .none kV doc pm an cdv ct) ⟨us, []⟩ = pure ((["self", fld] : List Str).zip us)) : ErrF P w K mg base x (He.ga K x) fld := by
  obtain ⟨fd, F⟩ := c.d.def_ k ek
  have F' : Fun K "__init__" q st (He.ma K (He.ga K x) "__init__") fd := fun_ofD F
  exact ⟨He.glo_ok X G (c.d.fact i ei), _, fd, fld, errB_ok (c.er _ he), ok_errInit F' S hb hv0 hv1 hdy hcy, F'.binds bd⟩
/-- .. while an error is handled -/
theorem err_atH {P : Program} {w : World} {base : Heap} (c : SaysK h K) (X : K.In h) (G : h.Ns mainGlobals mg) (i k : Nat) {x fld q : Str} {st : Stmt} {p0 p1 p2 p3 : Pos} (ei : faT[i]? = some (.glo x)) (ek : fnT[k]? = some (dfd (x, some "__init__") "__init__" q st [])) (he : (x, fld) ∈ erT)
    (S : FnScope ["self", fld] ["self", fld] (defScope st)) (hb : defBody st = [.Assign [.Attribute (.Name "self" p0) fld p1] (.Name fld p2) p3]) (hv0 : Vis (defScope st) "self") (hv1 : Vis (defScope st) fld) (hdy : (fld == ("__debug__" : Str)) = false) (hcy : (fld == ("__classdict__" : Str)) = false)
    (bd : ∀ (kV doc pm : Value) (an : Option Addr) (cdv ct : Value) (us : List Value), us.length = 2 → bindArgs (PySem.W.fnOf "__init__" q (defArgs st) (defBody st) (defScope st) .none kV doc pm an cdv ct) ⟨us, []⟩ = pure ((["self", fld] : List Str).zip us)) : ErrH P w K mg base x (He.ga K x) fld := by
  obtain ⟨fd, F⟩ := c.d.def_ k ek
  have F' : Fun K "__init__" q st (He.ma K (He.ga K x) "__init__") fd := fun_ofD F
  exact ⟨He.glo_ok X G (c.d.fact i ei), _, fd, fld, errB_ok (c.er _ he), ok_errInitH F' S hb hv0 hv1 hdy hcy, F'.binds bd⟩
theorem fo_A {P : Program} {w : World} {base : Heap} {CX : CXT} {k : Nat} {f CA : Addr} {fd : FuncData} {ps : List Str} {RF : Hp → Addr → Fd → Prop} (F : FnOk P w K mg base CX k f fd ps (spFo w K RF CA)) : FnOk P w K mg base CX k f fd ps (spFoA w K RF) := F.imp fun vs H Q E hh => by
  obtain ⟨a, b, d, g, D, known, x, es, kvs, h, rfl, ask, tl, LA, AK, fin⟩ := hh
  exact ⟨a, b, d, g, D, known, x, es, kvs, h, rfl, ask, tl, LA, AK, .inl fin⟩
theorem an_A {P : Program} {w : World} {base : Heap} {CX : CXT} {k : Nat} {f CW : Addr} {fd : FuncData} {ps : List Str} {RF : Hp → Addr → Fd → Prop} (F : FnOk P w K mg base CX k f fd ps (spAnF RF CW)) : FnOk P w K mg base CX k f fd ps (spAnA RF) := F.imp fun vs H Q E hh => by
  obtain ⟨a, D, p, kvs, u, rfl, r, o, rd, um, hq⟩ := hh
  exact ⟨a, D, .ref p, rfl, r, .inl ⟨p, kvs, u, rfl, o, rd, um, hq⟩⟩
theorem far_ok {C : Addr} {t : Value} (h : farB K C t = true) : PySem.W.notFirst K C t = true ∧ PySem.W.kitOne K t (.ref C) = some false := by
  obtain ⟨a, b⟩ := He.ba h
  exact ⟨a, of_decide_eq_true b⟩
abbrev pT (K : PySem.W.Frag) (x : Str) : Addr := (He.cT K (x, none)).2
def qT (x : Str) : Str := x ++ ".<locals>." ++ "<lambda>"
def tbN : List Str := ["_law_refused_right"]
def tbL (K : PySem.W.Frag) : List (Addr × Str) := tbN.map fun x => (pT K x, qT x)
theorem cs_of {x : Str} (h : x ∈ tbN) : He.cT K (x, none) ∈ csL K := by
  have e : csL K = tbN.map fun x => He.cT K (x, none) := rfl
  rw [e]
  exact List.mem_map_of_mem (f := fun x => He.cT K (x, none)) h
theorem tabs_nil {H : Hp} (hT : ∀ p ∈ csL K, H p.2 = some (.tbl #[])) : Tabs (tbL K) H := fun p hp => by
  obtain ⟨x, hx, rfl⟩ := List.mem_map.mp hp
  exact TabS.nil (hT _ (cs_of hx))
theorem tb_mem {x : Str} (h : x ∈ tbN) : (pT K x, qT x) ∈ tbL K := List.mem_map.mpr ⟨x, h, rfl⟩
theorem tb_uni (np : (tfT.map fun p => (He.cT K p).2).Nodup) {x : Str} (h : x ∈ tbN) : ∀ p ∈ tbL K, p.1 = pT K x → p.2 = qT x := fun p hp e => by
  obtain ⟨y, hy, rfl⟩ := List.mem_map.mp hp
  have z : (tbN.map (pT K)).Nodup := np
  have inj : ∀ {l : List Str}, (l.map (pT K)).Nodup → ∀ {a b : Str}, a ∈ l → b ∈ l → pT K a = pT K b → a = b := by
    intro l
    induction l with
    | nil => intro _ a b ha; cases ha
    | cons c l ih =>
      intro nd a b ha hb e
      rw [List.map_cons, List.nodup_cons] at nd
      rcases List.mem_cons.mp ha with ea | ha
      · rcases List.mem_cons.mp hb with eb | hb
        · rw [ea, eb]
        · exact absurd (List.mem_map.mpr ⟨b, hb, by rw [← e, ea]⟩) nd.1
      · rcases List.mem_cons.mp hb with eb | hb
        · exact absurd (List.mem_map.mpr ⟨a, ha, by rw [e, eb]⟩) nd.1
        · exact ih nd.2 ha hb e
  rw [inj z hy h e]
end
theorem facts {P : Program} {w : World} {K : PySem.W.Frag} {h : Heap} {mg : Str → Option Value} {f : Addr} (X : K.In h) (G : h.Ns mainGlobals mg) (hfa : mg ("law" : Str) = some (.ref f)) (cc : SaysK h K) :
    ∃ fd : FuncData, (∀ (s : Shared) (v : Value), BindsTo s fd ⟨[v], []⟩ [("script", v)]) ∧ ∀ base : Heap, K.In base → base.Ns mainGlobals mg → (∀ p ∈ csL K, TabB base mg p.1 p.2) → FnOk P w K mg base CX0 12 f fd ["script"] (spLawT K (tbL K)) := by
  have c := cc.d
  obtain ⟨gStart, dStart, FStart⟩ := def_at c X G 0 0 (x := "_law_start") (st := sStart) rfl rfl
  obtain ⟨gDraw, dDraw, FDraw⟩ := def_at c X G 1 1 (x := "_law_draw") (st := sDraw) rfl rfl
  obtain ⟨gPick, dPick, FPick⟩ := def_at c X G 2 2 (x := "_law_pick") (st := sPick) rfl rfl
  obtain ⟨gMixed, dMixed, FMixed⟩ := def_at c X G 3 3 (x := "_law_mixed") (st := sMixed) rfl rfl
  obtain ⟨gNames, dNames, FNames⟩ := def_at c X G 4 4 (x := "_law_t_names") (st := sNames) rfl rfl
  obtain ⟨gRows, dRows, FRows⟩ := def_at c X G 5 5 (x := "_law_t_rows") (st := sRows) rfl rfl
  obtain ⟨gSome, dSome, FSome⟩ := def_at c X G 6 6 (x := "_law_t_some") (st := sSome) rfl rfl
  obtain ⟨gKey, dKey, FKey⟩ := def_at c X G 7 7 (x := "_law_t_key") (st := sKey) rfl rfl
  obtain ⟨gTells, dTells, FTells⟩ := def_at c X G 8 8 (x := "_law_t_tells") (st := sTells) rfl rfl
  obtain ⟨gSame, dSame, FSame⟩ := def_at c X G 9 9 (x := "_law_same") (st := sSame) rfl rfl
  obtain ⟨gFrozen, dFrozen, FFrozen⟩ := def_at c X G 10 10 (x := "_law_frozen") (st := sFrozen) rfl rfl
  obtain ⟨gTried, dTried, FTried⟩ := def_at c X G 11 11 (x := "_law_tried") (st := sTried) rfl rfl
  obtain ⟨gRefR, dRefR, FRefR⟩ := def_at c X G 12 12 (x := "_law_refused_right") (st := sRefR) rfl rfl
  obtain ⟨gFieldR, dFieldR, FFieldR⟩ := def_at c X G 13 13 (x := "_law_field_right") (st := sFieldR) rfl rfl
  obtain ⟨gPairR, dPairR, FPairR⟩ := def_at c X G 14 14 (x := "_law_pair_right") (st := sPairR) rfl rfl
  obtain ⟨gLaw, dLaw, FLaw⟩ := def_at c X G 15 15 (x := "law") (st := sLaw) rfl rfl
  obtain ⟨gIsInt, dIsInt, FIsInt⟩ := def_at c X G 16 16 (x := "is_integer") (st := sIsInt) rfl rfl
  obtain ⟨gIsList, dIsList, FIsList⟩ := def_at c X G 17 17 (x := "is_list") (st := sIsList) rfl rfl
  obtain ⟨gIsPair, dIsPair, FIsPair⟩ := def_at c X G 18 18 (x := "is_pair") (st := sIsPair) rfl rfl
  obtain ⟨gIsName, dIsName, FIsName⟩ := def_at c X G 19 19 (x := "is_name") (st := sIsName) rfl rfl
  obtain ⟨gIsOne, dIsOne, FIsOne⟩ := def_at c X G 20 20 (x := "is_one_of") (st := sIsOne) rfl rfl
  obtain ⟨gHasJust, dHasJust, FHasJust⟩ := def_at c X G 21 21 (x := "has_just") (st := sHasJust) rfl rfl
  obtain ⟨gAlike, dAlike, FAlike⟩ := def_at c X G 22 22 (x := "alike") (st := sAlike) rfl rfl
  obtain ⟨gIsParted, dIsParted, FIsParted⟩ := def_at c X G 23 23 (x := "is_parted") (st := sIsParted) rfl rfl
  obtain ⟨gFirst, dFirst, FFirst⟩ := def_at c X G 24 24 (x := "first_bad") (st := sFirst) rfl rfl
  obtain ⟨gCkK, dCkK, FCkK⟩ := def_at c X G 25 25 (x := "check_known") (st := sCkK) rfl rfl
  obtain ⟨gCkA, dCkA, FCkA⟩ := def_at c X G 26 26 (x := "check_asked") (st := sCkA) rfl rfl
  obtain ⟨gCkB, dCkB, FCkB⟩ := def_at c X G 27 27 (x := "check_both") (st := sCkB) rfl rfl
  obtain ⟨gCkLack, dCkLack, FCkLack⟩ := def_at c X G 28 28 (x := "check_lacking") (st := sCkLack) rfl rfl
  obtain ⟨gAreInts, dAreInts, FAreInts⟩ := def_at c X G 29 29 (x := "_are_integers") (st := sAreInts) rfl rfl
  obtain ⟨gBadRow, dBadRow, FBadRow⟩ := def_at c X G 30 30 (x := "_first_bad_row") (st := sBadRow) rfl rfl
  obtain ⟨mInit, dInit, FInit⟩ := meth_at c 67 31 (m := "__init__") (q := "Table.__init__") (st := sInit) rfl rfl
  obtain ⟨mEq, dEq, FEq⟩ := meth_at c 52 32 (m := "__eq__") (q := "Table.__eq__") (st := sEq) rfl rfl
  obtain ⟨mQs, dQs, FQs⟩ := meth_at c 53 33 (m := "questions") (q := "Table.questions") (st := sQs) rfl rfl
  obtain ⟨mHome, dHome, FHome⟩ := meth_at c 54 34 (m := "home") (q := "Table.home") (st := sHome) rfl rfl
  obtain ⟨mAnswers, dAnswers, FAnswers⟩ := meth_at c 55 35 (m := "answers") (q := "Table.answers") (st := sAnswers) rfl rfl
  obtain ⟨mIsTold, dIsTold, FIsTold⟩ := meth_at c 56 36 (m := "is_told") (q := "Table.is_told") (st := sIsTold) rfl rfl
  obtain ⟨mPlan, dPlan, FPlan⟩ := meth_at c 57 37 (m := "plan") (q := "Table.plan") (st := sPlan) rfl rfl
  obtain ⟨mIsPlan, dIsPlan, FIsPlan⟩ := meth_at c 58 38 (m := "is_plan") (q := "Table.is_plan") (st := sIsPlan) rfl rfl
  obtain ⟨mFound, dFound, FFound⟩ := meth_at c 59 39 (m := "found") (q := "Table.found") (st := sFound) rfl rfl
  obtain ⟨mApart, dApart, FApart⟩ := meth_at c 60 40 (m := "apart") (q := "Table.apart") (st := sApart) rfl rfl
  obtain ⟨mAreAp, dAreAp, FAreAp⟩ := meth_at c 61 41 (m := "are_apart") (q := "Table.are_apart") (st := sAreAp) rfl rfl
  obtain ⟨mDictOf, dDictOf, FDictOf⟩ := meth_at c 62 42 (m := "_dict_of") (q := "Table._dict_of") (st := sDictOf) rfl rfl
  obtain ⟨mIsWorld, dIsWorld, FIsWorld⟩ := meth_at c 63 43 (m := "_is_world") (q := "Table._is_world") (st := sIsWorld) rfl rfl
  obtain ⟨mPlaces, dPlaces, FPlaces⟩ := meth_at c 64 44 (m := "_places") (q := "Table._places") (st := sPlaces) rfl rfl
  obtain ⟨mParting, dParting, FParting⟩ := meth_at c 65 45 (m := "_parting_rows") (q := "Table._parting_rows") (st := sParting) rfl rfl
  obtain ⟨mPlanOf, dPlanOf, FPlanOf⟩ := meth_at c 66 46 (m := "_plan_of") (q := "Table._plan_of") (st := sPlanOf) rfl rfl
  obtain ⟨mVInit, dVInit, FVInit⟩ := meth_atV c 84 47 (m := "__init__") (q := "View.__init__") (st := sVInit) rfl rfl
  obtain ⟨mVEq, dVEq, FVEq⟩ := meth_atV c 72 48 (m := "__eq__") (q := "View.__eq__") (st := sVEq) rfl rfl
  obtain ⟨mVQs, dVQs, FVQs⟩ := meth_atV c 73 49 (m := "questions") (q := "View.questions") (st := sVQs) rfl rfl
  obtain ⟨mVHome, dVHome, FVHome⟩ := meth_atV c 74 50 (m := "home") (q := "View.home") (st := sVHome) rfl rfl
  obtain ⟨mVAnswers, dVAnswers, FVAnswers⟩ := meth_atV c 75 51 (m := "answers") (q := "View.answers") (st := sVAnswers) rfl rfl
  obtain ⟨mVIsTold, dVIsTold, FVIsTold⟩ := meth_atV c 76 52 (m := "is_told") (q := "View.is_told") (st := sVIsTold) rfl rfl
  obtain ⟨mVPlan, dVPlan, FVPlan⟩ := meth_atV c 77 53 (m := "plan") (q := "View.plan") (st := sVPlan) rfl rfl
  obtain ⟨mVIsPlan, dVIsPlan, FVIsPlan⟩ := meth_atV c 78 54 (m := "is_plan") (q := "View.is_plan") (st := sVIsPlan) rfl rfl
  obtain ⟨mVFound, dVFound, FVFound⟩ := meth_atV c 79 55 (m := "found") (q := "View.found") (st := sVFound) rfl rfl
  obtain ⟨mVApart, dVApart, FVApart⟩ := meth_atV c 80 56 (m := "apart") (q := "View.apart") (st := sVApart) rfl rfl
  obtain ⟨mVAreAp, dVAreAp, FVAreAp⟩ := meth_atV c 81 57 (m := "are_apart") (q := "View.are_apart") (st := sVAreAp) rfl rfl
  obtain ⟨mVNames, dVNames, FVNames⟩ := meth_atV c 82 58 (m := "names") (q := "View.names") (st := sVNames) rfl rfl
  obtain ⟨mVMeant, dVMeant, FVMeant⟩ := meth_atV c 83 59 (m := "_meant") (q := "View._meant") (st := sVMeant) rfl rfl
  have n_list : mg "list" = none := He.free_ok X G (c.fact 33 rfl)
  have n_len : mg "len" = none := He.free_ok X G (c.fact 34 rfl)
  have n_int : mg "int" = none := He.free_ok X G (c.fact 35 rfl)
  have n_range : mg "range" = none := He.free_ok X G (c.fact 36 rfl)
  have n_dict : mg "dict" = none := He.free_ok X G (c.fact 37 rfl)
  have n_tuple : mg "tuple" = none := He.free_ok X G (c.fact 38 rfl)
  have n_str : mg "str" = none := He.free_ok X G (c.fact 39 rfl)
  have n_bool : mg "bool" = none := He.free_ok X G (c.fact 40 rfl)
  have n_isinstance : mg "isinstance" = none := He.free_ok X G (c.fact 41 rfl)
  have n_all : mg "all" = none := He.free_ok X G (c.fact 42 rfl)
  have n_any : mg "any" = none := He.free_ok X G (c.fact 43 rfl)
  have n_enumerate : mg "enumerate" = none := He.free_ok X G (c.fact 44 rfl)
  have n_zip : mg "zip" = none := He.free_ok X G (c.fact 45 rfl)
  have n_sorted : mg "sorted" = none := He.free_ok X G (c.fact 46 rfl)
  have gC : mg "Table" = some (.ref (He.ga K "Table")) := He.glo_ok X G (c.fact 31 rfl)
  have gV : mg "View" = some (.ref (He.ga K "View")) := He.glo_ok X G (c.fact 32 rfl)
  have gLo := He.int_ok X G (c.fact (f := .int "LONGEST" 40) 47 rfl)
  have gSg := He.str_ok X G (c.fact (f := .str "SIGNS" "abcdefghijklmnopqrstuvwxyz0123456789.") 48 rfl)
  have T0 : TabC K (He.ga K "Table") := ⟨He.cls_ok (c.fact 49 rfl), He.noat_ok (c.fact 50 rfl), He.noat_ok (c.fact 51 rfl)⟩
  have vc : VwC K (He.ga K "View") := ⟨He.cls_ok (c.fact 69 rfl), He.noat_ok (c.fact 70 rfl), He.noat_ok (c.fact 71 rfl)⟩
  have T : TabM K (He.ga K "Table") _ _ _ _ := ⟨T0, ⟨_, FQs⟩, ⟨_, FIsTold⟩, ⟨_, FPlaces⟩, ⟨_, FParting⟩, mQs, mIsTold, mPlaces, mParting⟩
  have Ck : Chk K mg _ _ _ _ _ _ := ⟨⟨_, FFirst⟩, ⟨_, FIsList⟩, ⟨_, FIsOne⟩, ⟨_, FCkK⟩, ⟨_, FCkA⟩, ⟨_, FCkB⟩, gFirst, gIsList, gIsOne, gCkK, gCkA, gCkB, n_isinstance, n_list, n_tuple, n_str, n_enumerate⟩
  have M : Sm mg := ⟨n_isinstance, n_list, n_tuple, n_int, n_bool, n_len, n_all, n_zip⟩
  have MF : FzM mg := ⟨n_isinstance, n_list, n_tuple, n_dict⟩
  have MkT := He.mkr_ok (c.fact (f := .mkr "Table") 68 rfl)
  have MkV := He.mkr_ok (c.fact (f := .mkr "View") 85 rfl)
  obtain ⟨mT, mB⟩ := He.ba cc.mo
  obtain ⟨mV, mB⟩ := He.ba mB
  obtain ⟨mN, mB⟩ := He.ba mB
  obtain ⟨mA, mF⟩ := He.ba mB
  obtain ⟨t1, tB⟩ := He.ba mT
  obtain ⟨t2, tB⟩ := He.ba tB
  obtain ⟨t3, t4⟩ := He.ba tB
  obtain ⟨v1, vB⟩ := He.ba mV
  obtain ⟨v2, vB⟩ := He.ba vB
  obtain ⟨v3, v4⟩ := He.ba vB
  have IC : C8.InsC K (He.ga K "Table") := ⟨T0.cl, He.eqO_ok t1, He.eqO_ok t2, of_decide_eq_true t3, of_decide_eq_true t4, by unfold PySem.W.kitOne; rw [if_pos (by simp)]⟩
  have ICV : C8.InsC K (He.ga K "View") := ⟨vc.cl, He.eqO_ok v1, He.eqO_ok v2, of_decide_eq_true v3, of_decide_eq_true v4, by unfold PySem.W.kitOne; rw [if_pos (by simp)]⟩
  have e := hfa.symm.trans gLaw
  cases e
  have cRf := code_of FRefR
  obtain ⟨oc, od, kV, doc, pm, an, cdv, ct, osl, rfl, lk, hcd⟩ := id FLaw.ex
  refine ⟨PySem.W.fnOf "law" "law" (defArgs sLaw) (defBody sLaw) (defScope sLaw) .none kV doc pm an cdv ct, fun s v => .of_eq rfl, fun base _ _ hTB => ?_⟩
  have EBadView : ErrF P w K mg base "BadView" (He.ga K "BadView") "name" := err_at cc X G 86 60 (q := "BadView.__init__") (st := sIBadView) rfl rfl (by simp [erT]) ⟨rfl, rfl, rfl, by decide +kernel, rfl, by decide +kernel, by decide +kernel⟩ rfl (by first | exact .inl rfl | exact .inr (.inl rfl)) (by first | exact .inl rfl | exact .inr (.inl rfl)) (by decide +kernel) (by decide +kernel) (fun _ _ _ _ _ _ us hl => match us, hl with | [_, _], _ => rfl)
  have EBadKnown : ErrF P w K mg base "BadKnown" (He.ga K "BadKnown") "index" := err_at cc X G 87 61 (q := "BadKnown.__init__") (st := sIBadKnown) rfl rfl (by simp [erT]) ⟨rfl, rfl, rfl, by decide +kernel, rfl, by decide +kernel, by decide +kernel⟩ rfl (by first | exact .inl rfl | exact .inr (.inl rfl)) (by first | exact .inl rfl | exact .inr (.inl rfl)) (by decide +kernel) (by decide +kernel) (fun _ _ _ _ _ _ us hl => match us, hl with | [_, _], _ => rfl)
  have ENoQuestion : ErrF P w K mg base "NoQuestion" (He.ga K "NoQuestion") "name" := err_at cc X G 88 62 (q := "NoQuestion.__init__") (st := sINoQuestion) rfl rfl (by simp [erT]) ⟨rfl, rfl, rfl, by decide +kernel, rfl, by decide +kernel, by decide +kernel⟩ rfl (by first | exact .inl rfl | exact .inr (.inl rfl)) (by first | exact .inl rfl | exact .inr (.inl rfl)) (by decide +kernel) (by decide +kernel) (fun _ _ _ _ _ _ us hl => match us, hl with | [_, _], _ => rfl)
  have EBadWorld : ErrF P w K mg base "BadWorld" (He.ga K "BadWorld") "thing" := err_at cc X G 89 63 (q := "BadWorld.__init__") (st := sIBadWorld) rfl rfl (by simp [erT]) ⟨rfl, rfl, rfl, by decide +kernel, rfl, by decide +kernel, by decide +kernel⟩ rfl (by first | exact .inl rfl | exact .inr (.inl rfl)) (by first | exact .inl rfl | exact .inr (.inl rfl)) (by decide +kernel) (by decide +kernel) (fun _ _ _ _ _ _ us hl => match us, hl with | [_, _], _ => rfl)
  have EBadPlan : ErrF P w K mg base "BadPlan" (He.ga K "BadPlan") "thing" := err_at cc X G 90 64 (q := "BadPlan.__init__") (st := sIBadPlan) rfl rfl (by simp [erT]) ⟨rfl, rfl, rfl, by decide +kernel, rfl, by decide +kernel, by decide +kernel⟩ rfl (by first | exact .inl rfl | exact .inr (.inl rfl)) (by first | exact .inl rfl | exact .inr (.inl rfl)) (by decide +kernel) (by decide +kernel) (fun _ _ _ _ _ _ us hl => match us, hl with | [_, _], _ => rfl)
  have EBadAnswers : ErrF P w K mg base "BadAnswers" (He.ga K "BadAnswers") "thing" := err_at cc X G 91 65 (q := "BadAnswers.__init__") (st := sIBadAnswers) rfl rfl (by simp [erT]) ⟨rfl, rfl, rfl, by decide +kernel, rfl, by decide +kernel, by decide +kernel⟩ rfl (by first | exact .inl rfl | exact .inr (.inl rfl)) (by first | exact .inl rfl | exact .inr (.inl rfl)) (by decide +kernel) (by decide +kernel) (fun _ _ _ _ _ _ us hl => match us, hl with | [_, _], _ => rfl)
  have HBadAnswers : ErrH P w K mg base "BadAnswers" (He.ga K "BadAnswers") "thing" := err_atH cc X G 91 65 (q := "BadAnswers.__init__") (st := sIBadAnswers) rfl rfl (by simp [erT]) ⟨rfl, rfl, rfl, by decide +kernel, rfl, by decide +kernel, by decide +kernel⟩ rfl (by first | exact .inl rfl | exact .inr (.inl rfl)) (by first | exact .inl rfl | exact .inr (.inl rfl)) (by decide +kernel) (by decide +kernel) (fun _ _ _ _ _ _ us hl => match us, hl with | [_, _], _ => rfl)
  let EA : ErrA := ⟨He.ga K "BadView", He.ga K "BadKnown", He.ga K "NoQuestion", He.ga K "BadWorld", He.ga K "BadPlan", He.ga K "BadAnswers", He.ga K "BadView"⟩
  have gOf : ∀ cl ∈ clz6 EA, mg cl.x = some (.ref cl.C) ∧ cl.C = He.ga K cl.x ∧ (cl.x, cl.fld) ∈ erT := fun cl hm => by
    simp only [clz6, List.mem_cons, List.not_mem_nil, or_false] at hm
    rcases hm with rfl | rfl | rfl | rfl | rfl | rfl
    · exact ⟨EBadView.g, rfl, by simp [erT]⟩
    · exact ⟨EBadKnown.g, rfl, by simp [erT]⟩
    · exact ⟨ENoQuestion.g, rfl, by simp [erT]⟩
    · exact ⟨EBadWorld.g, rfl, by simp [erT]⟩
    · exact ⟨EBadPlan.g, rfl, by simp [erT]⟩
    · exact ⟨EBadAnswers.g, rfl, by simp [erT]⟩
  have O : ClzOk K mg (clz6 EA) EA.CU := by
    refine ⟨fun cl hm => (gOf cl hm).1, fun cl hm => ?_, fun cl hm cl' hm' => ?_, fun cl hm cl' hm' e => ?_⟩
    · obtain ⟨_, e1, e2⟩ := gOf cl hm
      have z := errB_ok (cc.er _ e2)
      rw [e1]
      exact ⟨z.xf, z.no⟩
    · simp only [clz6, List.mem_cons, List.not_mem_nil, or_false] at hm hm'
      rcases hm with rfl | rfl | rfl | rfl | rfl | rfl <;> rcases hm' with rfl | rfl | rfl | rfl | rfl | rfl
      · exact He.exm_ok (c.fact (f := .exm "BadView" "BadView" true) 92 rfl)
      · exact He.exm_ok (c.fact (f := .exm "BadView" "BadKnown" false) 93 rfl)
      · exact He.exm_ok (c.fact (f := .exm "BadView" "NoQuestion" false) 94 rfl)
      · exact He.exm_ok (c.fact (f := .exm "BadView" "BadWorld" false) 95 rfl)
      · exact He.exm_ok (c.fact (f := .exm "BadView" "BadPlan" false) 96 rfl)
      · exact He.exm_ok (c.fact (f := .exm "BadView" "BadAnswers" false) 97 rfl)
      · exact He.exm_ok (c.fact (f := .exm "BadKnown" "BadView" false) 98 rfl)
      · exact He.exm_ok (c.fact (f := .exm "BadKnown" "BadKnown" true) 99 rfl)
      · exact He.exm_ok (c.fact (f := .exm "BadKnown" "NoQuestion" false) 100 rfl)
      · exact He.exm_ok (c.fact (f := .exm "BadKnown" "BadWorld" false) 101 rfl)
      · exact He.exm_ok (c.fact (f := .exm "BadKnown" "BadPlan" false) 102 rfl)
      · exact He.exm_ok (c.fact (f := .exm "BadKnown" "BadAnswers" false) 103 rfl)
      · exact He.exm_ok (c.fact (f := .exm "NoQuestion" "BadView" false) 104 rfl)
      · exact He.exm_ok (c.fact (f := .exm "NoQuestion" "BadKnown" false) 105 rfl)
      · exact He.exm_ok (c.fact (f := .exm "NoQuestion" "NoQuestion" true) 106 rfl)
      · exact He.exm_ok (c.fact (f := .exm "NoQuestion" "BadWorld" false) 107 rfl)
      · exact He.exm_ok (c.fact (f := .exm "NoQuestion" "BadPlan" false) 108 rfl)
      · exact He.exm_ok (c.fact (f := .exm "NoQuestion" "BadAnswers" false) 109 rfl)
      · exact He.exm_ok (c.fact (f := .exm "BadWorld" "BadView" false) 110 rfl)
      · exact He.exm_ok (c.fact (f := .exm "BadWorld" "BadKnown" false) 111 rfl)
      · exact He.exm_ok (c.fact (f := .exm "BadWorld" "NoQuestion" false) 112 rfl)
      · exact He.exm_ok (c.fact (f := .exm "BadWorld" "BadWorld" true) 113 rfl)
      · exact He.exm_ok (c.fact (f := .exm "BadWorld" "BadPlan" false) 114 rfl)
      · exact He.exm_ok (c.fact (f := .exm "BadWorld" "BadAnswers" false) 115 rfl)
      · exact He.exm_ok (c.fact (f := .exm "BadPlan" "BadView" false) 116 rfl)
      · exact He.exm_ok (c.fact (f := .exm "BadPlan" "BadKnown" false) 117 rfl)
      · exact He.exm_ok (c.fact (f := .exm "BadPlan" "NoQuestion" false) 118 rfl)
      · exact He.exm_ok (c.fact (f := .exm "BadPlan" "BadWorld" false) 119 rfl)
      · exact He.exm_ok (c.fact (f := .exm "BadPlan" "BadPlan" true) 120 rfl)
      · exact He.exm_ok (c.fact (f := .exm "BadPlan" "BadAnswers" false) 121 rfl)
      · exact He.exm_ok (c.fact (f := .exm "BadAnswers" "BadView" false) 122 rfl)
      · exact He.exm_ok (c.fact (f := .exm "BadAnswers" "BadKnown" false) 123 rfl)
      · exact He.exm_ok (c.fact (f := .exm "BadAnswers" "NoQuestion" false) 124 rfl)
      · exact He.exm_ok (c.fact (f := .exm "BadAnswers" "BadWorld" false) 125 rfl)
      · exact He.exm_ok (c.fact (f := .exm "BadAnswers" "BadPlan" false) 126 rfl)
      · exact He.exm_ok (c.fact (f := .exm "BadAnswers" "BadAnswers" true) 127 rfl)
    · simp only [clz6, List.mem_cons, List.not_mem_nil, or_false] at hm hm'
      rcases hm with rfl | rfl | rfl | rfl | rfl | rfl <;> rcases hm' with rfl | rfl | rfl | rfl | rfl | rfl <;> first | rfl | (dsimp only at e; exact absurd e (by decide))
  have xm : PySem.W.exmOne K (.ref (He.ga K "BadAnswers")) (.ref (He.ga K "BadAnswers")) = some true := He.exm_ok (c.fact (f := .exm "BadAnswers" "BadAnswers" true) 127 rfl)
  have bQs := FQs.binds (ps := ["self"]) fun _ _ _ _ _ _ us hl => match us, hl with | [_], _ => rfl
  have bHo := FHome.binds (ps := ["self"]) fun _ _ _ _ _ _ us hl => match us, hl with | [_], _ => rfl
  have bAn := FAnswers.binds (ps := ["self", "world"]) fun _ _ _ _ _ _ us hl => match us, hl with | [_, _], _ => rfl
  have bTo := FIsTold.binds (ps := ["self", "known", "asked"]) fun _ _ _ _ _ _ us hl => match us, hl with | [_, _, _], _ => rfl
  have bPl := FPlan.binds (ps := ["self", "known", "asked"]) fun _ _ _ _ _ _ us hl => match us, hl with | [_, _, _], _ => rfl
  have bAp := FApart.binds (ps := ["self", "known", "asked"]) fun _ _ _ _ _ _ us hl => match us, hl with | [_, _, _], _ => rfl
  have bIp := FIsPlan.binds (ps := ["self", "known", "asked", "thing"]) fun _ _ _ _ _ _ us hl => match us, hl with | [_, _, _, _], _ => rfl
  have bAa := FAreAp.binds (ps := ["self", "known", "asked", "thing"]) fun _ _ _ _ _ _ us hl => match us, hl with | [_, _, _, _], _ => rfl
  have bFo := FFound.binds (ps := ["self", "known", "asked", "plan", "answers"]) fun _ _ _ _ _ _ us hl => match us, hl with | [_, _, _, _, _], _ => rfl
  have bEq := FEq.binds (ps := ["self", "other"]) fun _ _ _ _ _ _ us hl => match us, hl with | [_, _], _ => rfl
  have bVQs := FVQs.binds (ps := ["self"]) fun _ _ _ _ _ _ us hl => match us, hl with | [_], _ => rfl
  have bVHo := FVHome.binds (ps := ["self"]) fun _ _ _ _ _ _ us hl => match us, hl with | [_], _ => rfl
  have bVAn := FVAnswers.binds (ps := ["self", "world"]) fun _ _ _ _ _ _ us hl => match us, hl with | [_, _], _ => rfl
  have bVTo := FVIsTold.binds (ps := ["self", "known", "asked"]) fun _ _ _ _ _ _ us hl => match us, hl with | [_, _, _], _ => rfl
  have bVPl := FVPlan.binds (ps := ["self", "known", "asked"]) fun _ _ _ _ _ _ us hl => match us, hl with | [_, _, _], _ => rfl
  have bVAp := FVApart.binds (ps := ["self", "known", "asked"]) fun _ _ _ _ _ _ us hl => match us, hl with | [_, _, _], _ => rfl
  have bVIp := FVIsPlan.binds (ps := ["self", "known", "asked", "thing"]) fun _ _ _ _ _ _ us hl => match us, hl with | [_, _, _, _], _ => rfl
  have bVAa := FVAreAp.binds (ps := ["self", "known", "asked", "thing"]) fun _ _ _ _ _ _ us hl => match us, hl with | [_, _, _, _], _ => rfl
  have bVFo := FVFound.binds (ps := ["self", "known", "asked", "plan", "answers"]) fun _ _ _ _ _ _ us hl => match us, hl with | [_, _, _, _, _], _ => rfl
  have bVEq := FVEq.binds (ps := ["self", "other"]) fun _ _ _ _ _ _ us hl => match us, hl with | [_, _], _ => rfl
  have bVIn := FVInit.binds (ps := ["self", "field", "names"]) fun _ _ _ _ _ _ us hl => match us, hl with | [_, _, _], _ => rfl
  have bVNm := FVNames.binds (ps := ["self"]) fun _ _ _ _ _ _ us hl => match us, hl with | [_], _ => rfl
  have R : Trd P w K mg EA := ⟨O, ⟨_, _, gTried, FTried⟩, ⟨_, _, gFrozen, FFrozen⟩, MF⟩
  have VM : VwM P w K mg base (He.ga K "View") (He.ga K "BadKnown") (He.ga K "NoQuestion") _ _ _ _ _ _ _ := ⟨vc, Ck, EBadKnown, ENoQuestion, ⟨_, FVMeant⟩, mVMeant, n_list⟩
  have RT1 := rt_rel (He.ga K "Table")
  have RV1 : FRel (He.ga K "View") (RV (He.ga K "View") (RT (He.ga K "Table"))) := rv_rel RT1
  have RV2 : FRel (He.ga K "View") (RV (He.ga K "View") (RV (He.ga K "View") (RT (He.ga K "Table")))) := rv_rel RV1
  have GII : FnOk P w K mg base CX0 1 _ _ ["thing"] spIsIntP := ok_isIntP FIsInt n_isinstance n_int n_bool
  have GAI : FnOk P w K mg base CX0 2 _ _ ["thing"] spAreIntsX := ok_areIntsX FAreInts FIsInt gIsInt n_isinstance n_tuple n_all n_int n_bool
  have GJW := ok_hasJustW (P := P) (w := w) (K := K) (mg := mg) (base := base) FHasJust n_isinstance n_dict n_len n_all
  have GW := ok_isWorldX (P := P) (w := w) (base := base) FIsWorld T0 GJW FHasJust gHasJust GAI FAreInts gAreInts n_tuple
  have GPa : FnOk P w K mg base CX0 2 _ _ ["thing"] (spIsPair w K) := ok_isPair FIsPair FIsList gIsList n_isinstance n_list n_tuple n_len
  have GLk := ok_lackR (P := P) (w := w) (K := K) (mg := mg) (base := base) FCkLack EBadAnswers n_isinstance n_dict n_all
  have GAl : FnOk P w K mg base CX0 2 _ _ ["one", "other"] spAlikeI := ok_alikeI FAlike FIsList gIsList n_isinstance n_bool n_list n_tuple
  have GIP := ok_isPlan (P := P) (w := w) (base := base) FIsPlan T Ck FPlanOf mPlanOf FAreInts gAreInts GAI FIsInt gIsInt GII n_isinstance n_dict n_len n_all
  have tTo := fn_toX (tab_to (ok_isTold (P := P) (w := w) (base := base) FIsTold T Ck))
  have tPl := fn_toX (tab_pl (ok_plan (P := P) (w := w) (base := base) FPlan T Ck FPlanOf mPlanOf))
  have tAp := fn_toX (tab_ap (ok_apart (P := P) (w := w) (base := base) FApart T Ck FDictOf mDictOf n_zip))
  have tIp := fn_toX (tab_ip GIP)
  have tAa := fn_toX (tab_aa (ok_areAp (P := P) (w := w) (base := base) FAreAp T0 Ck FIsPair gIsPair GPa FIsWorld mIsWorld GW FIsParted gIsParted n_all))
  have tFo := tab_fo (ok_foundK (P := P) (w := w) (base := base) FFound T0 FIsPlan mIsPlan GIP FCkLack gCkLack GLk FAreInts gAreInts GAI EBadAnswers n_tuple)
  have tQs := tab_qs (ok_qs (P := P) (w := w) (base := base) FQs T0 n_list)
  have tHo := ok_home (P := P) (w := w) (base := base) FHome T0 FDictOf mDictOf n_zip
  have tAn := ok_answersT (P := P) (w := w) (base := base) FAnswers T0 FIsWorld mIsWorld GW EBadWorld
  have w1To := ok_vTold VM FVIsTold RT1 T0.cl mIsTold bTo tTo (by decide)
  have w1Pl := ok_vPlan VM FVPlan RT1 T0.cl mPlan bPl tPl (by decide)
  have w1Ap := ok_vApart VM FVApart RT1 T0.cl mApart bAp tAp (by decide)
  have w1Ip := ok_vIsPlan VM FVIsPlan RT1 T0.cl mIsPlan bIp tIp (by decide)
  have w1Aa := ok_vAreAp VM FVAreAp RT1 T0.cl mAreAp bAa tAa (by decide)
  have w1Fo := ok_vFound (k := 6) VM FVFound RT1 T0.cl mFound bFo tFo (by decide) mVIsPlan bVIp w1Ip (by decide) (by decide) FCkLack gCkLack GLk FAlike gAlike GAl EBadAnswers HBadAnswers xm
  have w1Qs := ok_vQs (P := P) (w := w) (mg := mg) (base := base) (RF := RT (He.ga K "Table")) FVQs vc n_list
  have w1Nm := ok_vNames (P := P) (w := w) (mg := mg) (base := base) (RF := RT (He.ga K "Table")) FVNames vc
  have w1Ho := ok_vHome FVHome vc RT1 T0.cl mHome bHo tHo
  have w1An := ok_vAns FVAnswers vc RT1 T0.cl mAnswers bAn tAn (by decide)
  have w2To := ok_vTold VM FVIsTold RV1 vc.cl mVIsTold bVTo w1To (by decide)
  have w2Pl := ok_vPlan VM FVPlan RV1 vc.cl mVPlan bVPl w1Pl (by decide)
  have w2Ap := ok_vApart VM FVApart RV1 vc.cl mVApart bVAp w1Ap (by decide)
  have w2Ip := ok_vIsPlan VM FVIsPlan RV1 vc.cl mVIsPlan bVIp w1Ip (by decide)
  have w2Aa := ok_vAreAp VM FVAreAp RV1 vc.cl mVAreAp bVAa w1Aa (by decide)
  have w2Fo := ok_vFoundA (k := 7) VM FVFound RV1 vc.cl mVFound bVFo (fo_A w1Fo) (by decide) mVIsPlan bVIp w2Ip (by decide) (by decide) FCkLack gCkLack GLk FAlike gAlike GAl EBadAnswers HBadAnswers xm
  have w2Ho := ok_vHome FVHome vc RV1 vc.cl mVHome bVHo w1Ho
  have w2An := ok_vAns FVAnswers vc RV1 vc.cl mVAnswers bVAn w1An (by decide)
  have VW1 : Vws P w K mg base (He.ga K "View") (RV (He.ga K "View") (RT (He.ga K "Table"))) := { cl := vc.cl, rel := RV1, told := ⟨_, _, mVIsTold, bVTo, w1To.mono (by decide)⟩, plan := ⟨_, _, mVPlan, bVPl, w1Pl.mono (by decide)⟩, apart := ⟨_, _, mVApart, bVAp, w1Ap.mono (by decide)⟩, isPlan := ⟨_, _, mVIsPlan, bVIp, w1Ip.mono (by decide)⟩, areAp := ⟨_, _, mVAreAp, bVAa, w1Aa.mono (by decide)⟩, home := ⟨_, _, mVHome, bVHo, (fn_toX w1Ho).mono (by decide)⟩, ans := ⟨_, _, mVAnswers, bVAn, (an_A w1An).mono (by decide)⟩, found := ⟨_, _, mVFound, bVFo, (fo_A w1Fo).mono (by decide)⟩ }
  have VW2 : Vws P w K mg base (He.ga K "View") (RV (He.ga K "View") (RV (He.ga K "View") (RT (He.ga K "Table")))) := { cl := vc.cl, rel := RV2, told := ⟨_, _, mVIsTold, bVTo, w2To.mono (by decide)⟩, plan := ⟨_, _, mVPlan, bVPl, w2Pl.mono (by decide)⟩, apart := ⟨_, _, mVApart, bVAp, w2Ap.mono (by decide)⟩, isPlan := ⟨_, _, mVIsPlan, bVIp, w2Ip.mono (by decide)⟩, areAp := ⟨_, _, mVAreAp, bVAa, w2Aa.mono (by decide)⟩, home := ⟨_, _, mVHome, bVHo, (fn_toX w2Ho).mono (by decide)⟩, ans := ⟨_, _, mVAnswers, bVAn, (an_A w2An).mono (by decide)⟩, found := ⟨_, _, mVFound, bVFo, w2Fo.mono (by decide)⟩ }
  have GSo := ok_some (P := P) (w := w) (base := base) FSome FMixed gMixed FDraw gDraw n_int n_len n_list n_range
  have GTl := ok_tells (P := P) (w := w) (base := base) FTells FKey gKey n_tuple
  have GSm : FnOk P w K mg base CX0 2 _ _ ["found", "due"] (spSameF w 1) := ok_sameF FSame gSame M 1
  have P1 := ok_pairR FPairR VW1 FKey gKey n_tuple
  have P2 := ok_pairR FPairR VW2 FKey gKey n_tuple
  have F1 := ok_fieldR FFieldR VW1 FSome gSome GSo FTells gTells GTl FSame gSame GSm FPairR gPairR P1 n_dict n_list
  have F2 := ok_fieldR FFieldR VW2 FSome gSome GSo FTells gTells GTl FSame gSame GSm FPairR gPairR P2 n_dict n_list
  have GNm := ok_isNameG (P := P) (w := w) (base := base) FIsName n_isinstance n_str n_len n_all gLo gSg
  have GOn := ok_isOneG (P := P) (w := w) (mg := mg) (base := base) FIsOne n_isinstance n_str
  have VK : VwK P w K mg base (He.ga K "View") (He.ga K "Table") EA.CV := ⟨gV, _, _, MkV, bVIn, ok_vInit FVInit vc RT1 T0.cl mQs bQs tQs EBadView FIsName gIsName GNm FIsOne gIsOne GOn n_isinstance n_dict n_len, ok_vInit FVInit vc RV1 vc.cl mVQs bVQs w1Qs EBadView FIsName gIsName GNm FIsOne gIsOne GOn n_isinstance n_dict n_len⟩
  have VR : VwR P w K mg base (He.ga K "View") (He.ga K "Table") EA := { cl := vc.cl, told := ⟨_, _, mVIsTold, bVTo, (ok_vToldR VM FVIsTold).mono (by decide)⟩, plan := ⟨_, _, mVPlan, bVPl, (ok_vPlanR VM FVPlan).mono (by decide)⟩, apart := ⟨_, _, mVApart, bVAp, (ok_vApartR VM FVApart).mono (by decide)⟩, ans := ⟨_, _, mVAnswers, bVAn, w1An.mono (by decide)⟩, foR := ⟨_, _, mVFound, bVFo, (ok_vFoR VM FVFound mVIsPlan bVIp w1Ip (by decide) RV1 FCkLack gCkLack GLk EBadPlan).mono (by decide)⟩, fo := ⟨_, _, mVFound, bVFo, w1Fo.mono (by decide)⟩, planA := ⟨_, _, mVPlan, bVPl, w1Pl.mono (by decide)⟩ }
  have oRf := ok_refR (T := tbL K) FRefR cRf R VR VK n_dict n_enumerate n_list (hTB _ (cs_of (by decide))) (tb_mem (by decide)) (tb_uni cc.np (by decide))
  have GEq := ok_eqT (P := P) (w := w) (base := base) FEq T0 IC gC n_isinstance
  have VEq := ok_vEq FVEq vc ICV gV n_isinstance n_list GEq mEq bEq
  have VEO := ok_vEqO (P := P) (w := w) (base := base) FVEq gV n_isinstance
  have GIn := ok_init (P := P) (w := w) (base := base) FInit T0 (ok_badRow FBadRow FIsList gIsList FIsInt gIsInt FIsName gIsName FHasJust gHasJust n_isinstance n_list n_tuple n_str n_enumerate n_len n_all n_dict n_int n_bool gLo gSg) FBadRow gBadRow n_list n_tuple
  have farV : ∀ t : Value, (t = .type "NoneType" ∨ t = .type "int" ∨ t = .type "str" ∨ t = .type "dict" ∨ t = .ref (He.ga K "Table")) → PySem.W.notFirst K (He.ga K "View") t = true ∧ PySem.W.kitOne K t (.ref (He.ga K "View")) = some false := fun t ht => by
    have al := List.all_eq_true.mp mA
    rcases ht with rfl | rfl | rfl | rfl | rfl
    · exact far_ok (al "NoneType" (by simp))
    · exact far_ok (al "int" (by simp))
    · exact far_ok (al "str" (by simp))
    · exact far_ok (al "dict" (by simp))
    · exact far_ok mF
  exact ok_law (C := He.ga K "View") (CT := He.ga K "Table") (EA := EA) (T := tbL K) FLaw { tc := T0, start := ⟨_, _, gStart, FStart⟩, rows := ⟨_, _, gRows, FRows, ok_rows FRows FNames gNames FPick gPick FDraw gDraw n_int n_len n_range n_dict⟩, draw := ⟨_, _, gDraw, FDraw⟩, pick := ⟨_, _, gPick, FPick, ok_pick FPick FDraw gDraw n_int n_len⟩, fieldR := ⟨_, _, gFieldR, FFieldR, F1, F2⟩, refR := ⟨_, _, gRefR, FRefR, oRf⟩, made := MkT, init := ⟨_, FInit, GIn⟩, gC := gC, VK := VK, vc := vc, qs := ⟨_, _, mVQs, bVQs, w1Qs⟩, nms := ⟨_, _, mVNames, bVNm, w1Nm⟩, eq := ⟨_, _, mVEq, bVEq, VEq, VEO⟩, ne := ⟨He.eqO_ok mN, of_decide_eq_true v4⟩, far := farV, tyT := fun H a dx fs h => .base (.ins h T0.cl (He.eqO_ok t1) (He.eqO_ok t2) (of_decide_eq_true t3) (of_decide_eq_true t4)), nR := n_range, nL := n_list, nD := n_dict, nN := n_len, nI := n_int, nS := n_str, nA := n_any }
end L2.TB
open PySem PySem.W PySem.Calls PyProof.Rows
set_option maxHeartbeats 0 in
theorem PySem.Challenge.cw_twoworlds_k11_views_holds : PySem.Challenge.rw_twoworlds_k11_views.Holds := by
  w_on; o_law
  refine HandSHeadRun.head_any (r := L2.TB.HdR.R) (q := L2.TB.HdR.qv) (H := L2.TB.hookK) (ob := L2.TB.obT) (M := 16000) (loose := L2.TB.HdR.names)
    (d := HandSHeadRun.topDef L2.TB.HdR.R.prog 49) (kwd := []) L2.TB.obT_eq
    (by kernel_rfl) (fun s => by kernel_rfl) L2.TB.HdR.run (by kernel_rfl) (by kernel_rfl) (by kernel_rfl) (by rfl)
    (by first | assumption | decide +kernel) (by decide +kernel) ⟨rfl, rfl, rfl, rfl, rfl, by decide +kernel⟩ ?hw ?hc
  case hw => w_witness2
  case hc =>
    refine LamX.walk_ofTsE (l := PySem.Challenge.rw_twoworlds_k11_views) (n := 63) (k := 12) (x := "script") (CX := fun _ => L2.CX0)
      rfl (by decide) (by kernel_rfl) ⟨rfl, by decide, by decide⟩ ?F (fun _ _ _ _ _ z => z)
    intro w mg fa h Y G hmg0
    obtain ⟨K, KX, c⟩ := Y
    have hmg : mg ("law" : PySem.Str) = some (.ref fa) := by
      have e : (HandSHeadRun.topDef L2.TB.HdR.R.prog 49).name = ("law" : PySem.Str) := by kernel_rfl
      rw [← e]; exact hmg0
    obtain ⟨fd, hb, hF⟩ := L2.TB.facts (P := PySem.Challenge.rw_twoworlds_k11_views.prog) (w := w) KX G hmg c
    exact ⟨K, KX, fd, L2.TB.csL K, L2.TB.spLawT K (L2.TB.tbL K), fun p hp => c.emptyC hp, fun p hp => c.outC hp, fun p hp => PySem.W.codeHd_of_K KX (c.hdC hp), hb, fun H a ns hl _ hT hS => ⟨a, ns, rfl, hS, by omega, L2.TB.tabs_nil hT, fun _ => rfl⟩, hF⟩
