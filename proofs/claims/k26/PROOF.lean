import PyProof.Rows.All
import Wide.All
import OpenK.AllK
import Wide.FinOn
import HandS.ForMost
import HandS.Exc
import HandS.ExcInit
import HandS.IsInst
import HandS.Defaults
import HandS.Wide
import HandS.Conv
import HandS.Dict
import HandS.DictTup
import HandS.DictComp
import HandS.Flow
import HandS.Style
import HandS.TupSets
import HandS.NoneIn
import HandS.ForExc
import HandS.TryMany
import HandS.ExcField
import HandS.WordsExc
import HandS.HeadHook1
import HandS.HeadHook2
import HandS.Head0
import HandS.Head1
import HandS.Head2
import HandS.HeadEnd
import HandS.HeadHook4
import HandS.Nested
import HandS.Iter
import KE.GoesEnum
import HandS.More
import HandS.HotCalls
import HandS.ExcIs
import KE.KExcIs
import HandS.Codes
import HandS.Lambda
import KE.KEqNest
import KE.DatumMore
import KE.DataEq
import HandS.OwnEq
import PyProof.InstEq
import HandS.ListItems
import HandS.DictEq
import HandS.Walk
import HandS.WordsDict
import HandS.Zip
import HandS.ExcOwn
import PyProof.DictUpdate
import HandS.HeadWalk
import PySem.Challenge.RW_twoworlds_k26_whole_net_papers
set_option Elab.async false
set_option linter.all false
set_option maxRecDepth 100000
set_option maxHeartbeats 40000000
namespace L2.TB
open PySem PySem.Spec PyProof.Rows
def topS (i : Nat) : Stmt := PySem.Challenge.pw_twoworlds_k26_whole_net_papers.main.body.getD i (.Pass ⟨0, 0, 0, 0⟩)
abbrev sStart : Stmt := topS 45
abbrev sDraw : Stmt := topS 46
abbrev sPick : Stmt := topS 47
abbrev sMixed : Stmt := topS 48
abbrev sSame : Stmt := topS 49
abbrev sNameL : Stmt := topS 50
abbrev sNamesL : Stmt := topS 51
abbrev sArcsL : Stmt := topS 52
abbrev sLeads : Stmt := topS 53
abbrev sLiveL : Stmt := topS 54
abbrev sNodesL : Stmt := topS 55
abbrev sWorldL : Stmt := topS 56
abbrev sWay : Stmt := topS 57
abbrev sIsWorldL : Stmt := topS 58
abbrev sSome : Stmt := topS 59
abbrev sOut : Stmt := topS 60
abbrev sIsSide : Stmt := topS 61
abbrev sIsPlanL : Stmt := topS 62
abbrev sTried : Stmt := topS 63
abbrev sErrL : Stmt := topS 64
abbrev sPlansL : Stmt := topS 65
abbrev sAreApartL : Stmt := topS 66
abbrev sPairs : Stmt := topS 67
abbrev sMade : Stmt := topS 68
abbrev sFinds : Stmt := topS 69
abbrev sLaw : Stmt := topS 70
abbrev sIsInt : Stmt := topS 14
abbrev sIsCount : Stmt := topS 15
abbrev sIsList : Stmt := topS 16
abbrev sIsPair : Stmt := topS 17
abbrev sIsName : Stmt := topS 18
abbrev sIsOne : Stmt := topS 19
abbrev sFirst : Stmt := topS 22
abbrev sCkK : Stmt := topS 23
abbrev sCkA : Stmt := topS 24
abbrev sCkB : Stmt := topS 25
abbrev sCkL : Stmt := topS 26
abbrev sCkC : Stmt := topS 27
abbrev sHasJust : Stmt := topS 20
abbrev sIsParted : Stmt := topS 21
abbrev sOnward : Stmt := topS 29
abbrev sBack : Stmt := topS 30
abbrev sEither : Stmt := topS 31
abbrev sReached : Stmt := topS 32
abbrev sWayTo : Stmt := topS 33
abbrev sJoined : Stmt := topS 34
abbrev sRing : Stmt := topS 35
abbrev sShifted : Stmt := topS 36
abbrev sInward : Stmt := topS 37
abbrev sFree : Stmt := topS 40
abbrev sFilled : Stmt := topS 41
abbrev sIsArc : Stmt := topS 42
abbrev sNodesOf : Stmt := topS 43
abbrev sTable : Stmt := topS 39
abbrev sInit : Stmt := inClass sTable 0
abbrev sHome : Stmt := inClass sTable 3
abbrev sArcs : Stmt := inClass sTable 11
abbrev sLive : Stmt := inClass sTable 13
abbrev sIsLive : Stmt := inClass sTable 14
abbrev sIsWorldM : Stmt := inClass sTable 18
abbrev sIsTold : Stmt := inClass sTable 5
abbrev sPlan : Stmt := inClass sTable 6
abbrev sIsPlan : Stmt := inClass sTable 7
abbrev sFoundM : Stmt := inClass sTable 8
abbrev sApart : Stmt := inClass sTable 9
abbrev sAreApart : Stmt := inClass sTable 10
abbrev sIsGiven : Stmt := inClass sTable 15
abbrev sOthers : Stmt := inClass sTable 16
abbrev sIsCut : Stmt := inClass sTable 17
abbrev sIBadArc : Stmt := inClass (topS 8) 0
abbrev sIBadNames : Stmt := inClass (topS 9) 0
abbrev sIBadWorld : Stmt := inClass (topS 3) 0
abbrev sIBadKnown : Stmt := inClass (topS 4) 0
abbrev sINoQuestion : Stmt := inClass (topS 5) 0
abbrev sIBadAmounts : Stmt := inClass (topS 10) 0
abbrev sIBadPlan : Stmt := inClass (topS 6) 0
abbrev sIBadAnswers : Stmt := inClass (topS 7) 0
end L2.TB
/-! several except clauses, each with a name for the exception or without one -/
namespace TA
open PySem PySem.Spec PyProof.Rows L2
abbrev Cl := Value × Option Nat × (Addr → Value → Option Addr → TS)
/-- the ends of a suite whose name goes behind it -/
def goesE (i : Nat) (D : Ends) : Ends := { nx := fun σ H => D.nx (σ.set i none) H, rt := D.rt, bk := fun σ H => D.bk (σ.set i none) H, ct := fun σ H => D.ct (σ.set i none) H }
/-- what a clause does with the exception at a -/
def cl1 (k : Cl) (D : Ends) (a : Addr) (cls : Value) (d : Option Addr) (σ : L2.St) (H : Hp) : Prop := match k.2.1 with
  | none => k.2.2 a cls d D σ H
  | some i => k.2.2 a cls d (goesE i D) (σ.set i (some (.ref a))) H
def wCls (K : PySem.W.Frag) (Wout : WX) (D : Ends) : List Cl → WX
  | [] => Wout
  | k :: r => fun cls d σ H => ∃ b, PySem.W.exmOne K cls k.1 = some b ∧ (b = true → ∀ a, H a = none → cl1 k D a cls d σ H) ∧ (b = false → wCls K Wout D r cls d σ H)
/-- the name of a clause is a slot -/
def NamedAs (X : Cx) : Option Str → Option Nat → Prop
  | none, none => True
  | some n, some i => X.N[i]? = some n ∧ X.env.kindOf n = some .local
  | _, _ => False
inductive Cls (X : Cx) : List ExceptHandler → List Cl → Prop
  | nil : Cls X [] []
  | cons {x : Str} {on : Option Str} {k : Cl} {b₀ : Stmt} {suite : List Stmt} {np q : Pos} {hds : List ExceptHandler} {l : List Cl} (hn : NamedAs X on k.2.1) (hc : Names X x k.1)
      (hsu : ∀ (a : Addr) (oe : Obj) (cls : Value) (d : Option Addr) (pn : List (Addr × Obj)), Zc cls d oe → (∃ vs, oe.data = .fields vs) → PSs (X.suite a ((a, oe) :: pn)) (b₀ :: suite) (k.2.2 a cls d)) (r : Cls X hds l) :
      Cls X (.ExceptHandler (some (.Name x np)) on (b₀ :: suite) q :: hds) (k :: l)
section
variable {X : Cx} {body : List Stmt} {h₀ : ExceptHandler} {hds : List ExceptHandler} {l : List Cl} {pos : Pos} {tb : WX → TS} {Wout : WX}
theorem ps_try_cls (hs : X.stack = X.env :: X.outer) (hf : X.env.frame = some X.env.locals) (hN : X.N.Nodup) (tk : Takes X Wout)
    (hb : ∀ (W : WX) (pn : List (Addr × Obj)) (xe : Value → Shared → Prop), Takes (X.tr pn xe) W → PassesOwn (model X.prog X.w) X.A X.env xe → PSs (X.tr pn xe) body (tb W))
    (hh : Cls X (h₀ :: hds) l) : PS X (.Try body (h₀ :: hds) [] [] pos) (fun D σ H => tb (wCls X.K Wout D l) D σ H) := by
  refine ⟨fun pins s σ H D I reading => ?_⟩
  have okX := I.ok
  have frA : X.A.frames = some (X.env :: X.outer) := by rw [okX.frames, hs]
  refine wpAny_Try_except (wpAny_mono ((hb (wCls X.K Wout D l) (X.pn ++ pins) (fun e s1 => wpAny (model X.prog X.w) X.A (noteFrame e X.env)
    (fun _ s2 => wpAny (model X.prog X.w) X.A (setFlight e none) (fun _ s3 => wpAny (model X.prog X.w) X.A (handleBy e X.env (h₀ :: hds)) (SP X pins D) X.xe s3) X.xe s2) X.xe s1)
    (fun ev s1 caught => ?_) PassesOwn.looking).run [] s σ H D (I.toTry _) reading) (fun fl s1 done => ?_) (fun _ _ z => z))
  · obtain ⟨a, B, sI, pinsT, σ1, H1, cls, d, rfl, JT, nb, up1, sky, fresh, osE, bare, wish⟩ := caught
    have J : Inv X pins σ1 H1 sI := JT.ofTry okX
    show wpAny (model X.prog X.w) X.A (noteFrame (.ref a) X.env) _ _ _
    refine Sky.land Zc.steady frA hf (by rw [← hs]; exact sky) fun hL landed upL => ?_
    have JL : Inv X pins σ1 H1 { s1 with heap := hL } := J.landed nb landed.1 (up1.trans upL) osE bare
    obtain ⟨oL, vL, eL, zL, dL⟩ := landed.there
    have offFrames : a ∉ frs (X.env :: X.outer) := fun hm => by
      obtain ⟨_, o2, e2, no⟩ := landed.2.2.1.mem hm
      rw [eL] at e2
      cases e2
      exact no _ dL
    have offLocals : a ≠ X.env.locals := fun z => offFrames (List.mem_filterMap.mpr ⟨X.env, List.mem_cons_self, by rw [hf, z]⟩)
    have offFs : a ∉ X.fs := fun hm => by
      obtain ⟨e, he, q⟩ := List.mem_filterMap.mp hm
      exact offFrames (List.mem_filterMap.mpr ⟨e, List.mem_cons_of_mem _ he, q⟩)
    have SL := JL.suite eL dL fresh offLocals offFs
    have along : ∀ {hd2 : List ExceptHandler} {l2 : List Cl}, Cls X hd2 l2 → wCls X.K Wout D l2 cls d σ1 H1 → wpAny (model X.prog X.w) X.A (handleBy (.ref a) X.env hd2) (SP X pins D) X.xe { s1 with heap := hL } := by
      intro hd2 l2 hk
      induction hk with
      | nil =>
        intro w
        refine wpAny_handleBy_nil ?_
        obtain ⟨_, _, _, oe, vs, T, oT, _, he, _, hd, h1, _⟩ := id landed
        unfold PySem.passOn
        refine wpAny_bind (wpAny_field he hd h1 ?_)
        rw [if_neg (by simp)]
        have out : wpAny (model X.prog X.w) X.A (setFlight (.ref a) X.env.frame) (fun _ s4 => wpAny (model X.prog X.w) X.A (throw (.ref a) : Sem Flow) (SP X pins D) X.xe s4) X.xe { s1 with heap := hL } := by
          rw [hf]
          exact HandSPX.setFlight_upZ landed fun h4 up4 more => wpAny_throw (tk _ _ ⟨a, B, sI, pins, σ1, H1, cls, d, rfl, J, nb, (up1.trans upL).trans more, .inr (.inr (by rw [hs]; exact up4)), fresh, osE, bare, w⟩)
        first
          | exact wpAny_bind (wpAny_pure (wpAny_bind out))
          | exact wpAny_bind out
      | @cons x on k b₀ suite np q hds3 l3 hn hc hsu r ih =>
        intro w
        obtain ⟨b, isIt, yes, no⟩ := w
        refine wpAny_handleBy_cons (codeAny_handlers_test ?_) (fun z => by cases z)
        have seesClass : PySem.W.Looks (model X.prog X.w) hL (typeOf (.ref a)) cls := fun A Q E s2 kk go => wpAny_typeOf_ref (kk _ _ eL) (by rw [zL.1]; exact go)
        have matched := PySem.W.exm_one (M := model X.prog X.w) JL.kIn seesClass isIt
        have named : ∀ {Q E : Value → Shared → Prop}, Q k.1 { s1 with heap := hL } → wpAny (model X.prog X.w) (X.A.mark (some (.ref a))) (eval (.Name x np) X.env) Q E { s1 with heap := hL } := fun {Q E} go => by
          rcases hc with ⟨g1, g2, g3 | ⟨g3, g4, g5⟩⟩
          · exact ld_glob (X := X.suite a ((a, oL) :: (X.pn ++ pins))) SL g1 g3 go g2
          · exact ld_blt (X := X.suite a ((a, oL) :: (X.pn ++ pins))) SL g1 g3 g4 go g5 g2
        refine named (matched.here ?_)
        cases b with
        | false => exact ih (no rfl)
        | true =>
          obtain ⟨kc, oi, kt⟩ := k
          match on, oi, hn with
          | none, none, _ =>
            refine codeAny_handlers_suite (HandSPX.lands_againZ landed fun h4 l4 up4 => ?_)
            have J4 : Inv X pins σ1 H1 { s1 with heap := h4 } := J.landed nb l4.1 ((up1.trans upL).trans up4) osE bare
            obtain ⟨o4, v4, e4, z4, d4⟩ := l4.there
            have S4 := J4.suite e4 d4 fresh offLocals offFs
            refine wpAny_mono ((hsu a o4 cls d (X.pn ++ pins) z4 ⟨_, d4⟩).run [] _ σ1 H1 D S4 (yes rfl a fresh)) (fun f2 s6 hsp => ?_) (fun _ _ z => False.elim z)
            cases f2 with
            | ret u =>
              obtain ⟨v6, σ6, H6, S6, r6, q6⟩ := hsp
              exact ⟨v6, σ6, H6, S6.unsuite okX, r6, q6⟩
            | next => exact hsp.imp fun σ6 z => z.imp fun H6 z => ⟨z.1.unsuite okX, z.2⟩
            | brk => exact hsp.imp fun σ6 z => z.imp fun H6 z => ⟨z.1.unsuite okX, z.2⟩
            | cont => exact hsp.imp fun σ6 z => z.imp fun H6 z => ⟨z.1.unsuite okX, z.2⟩
          | some n, some i, hn =>
            refine codeAny_handlers_suite_as (HandSPX.lands_againZ landed fun h4 l4 up4 => ?_)
            have J4 : Inv X pins σ1 H1 { s1 with heap := h4 } := J.landed nb l4.1 ((up1.trans upL).trans up4) osE bare
            obtain ⟨o4, v4, e4, z4, d4⟩ := l4.there
            have S4 := J4.suite e4 d4 fresh offLocals offFs
            refine store_ok (X := X.suite a ((a, o4) :: (X.pn ++ pins))) (v := .ref a) S4 hN hn.1 (.inl hn.2) rfl (fun s5 S5 => ?_) (.inr hn.2)
            refine wpAny_mono ((hsu a o4 cls d (X.pn ++ pins) z4 ⟨_, d4⟩).run [] s5 _ H1 _ S5 (yes rfl a fresh)) (fun f2 s6 hsp => ?_) (fun _ _ z => False.elim z)
            have gone : ∀ {σ6 : L2.St} {H6 : Hp} {Q : Shared → Prop}, Inv (X.suite a ((a, o4) :: (X.pn ++ pins))) [] σ6 H6 s6 → (∀ s7, Inv X pins (σ6.set i none) H6 s7 → Q s7) →
                wpAny (model X.prog X.w) X.A (do bindName X.env n .none; unbindBehindTheSuite X.env n q) (fun _ s7 => Q s7) X.xe s6 := fun S6 go => gone_ok (S6.unsuite okX) hN hn.1 hn.2 go
            cases f2 with
            | ret u =>
              obtain ⟨v6, σ6, H6, S6, r6, q6⟩ := hsp
              exact gone S6 fun _ J7 => ⟨v6, _, H6, J7, r6, q6⟩
            | next => obtain ⟨σ6, H6, S6, q6⟩ := hsp; exact gone S6 fun _ J7 => ⟨_, H6, J7, q6⟩
            | brk => obtain ⟨σ6, H6, S6, q6⟩ := hsp; exact gone S6 fun _ J7 => ⟨_, H6, J7, q6⟩
            | cont => obtain ⟨σ6, H6, S6, q6⟩ := hsp; exact gone S6 fun _ J7 => ⟨_, H6, J7, q6⟩
    exact along hh wish
  · cases fl with
    | ret u =>
      obtain ⟨v, σ1, H1, J1, r, q⟩ := done
      exact ⟨v, σ1, H1, J1.ofTry okX, r, q⟩
    | next =>
      obtain ⟨σ1, H1, J1, q⟩ := done
      exact wpAny_execs_nil ⟨σ1, H1, J1.ofTry okX, q⟩
    | brk => exact done.imp fun σ1 z => z.imp fun H1 z => ⟨z.1.ofTry okX, z.2⟩
    | cont => exact done.imp fun σ1 z => z.imp fun H1 z => ⟨z.1.ofTry okX, z.2⟩
end
end TA
/-! classes of errors with an `__init__` of one parameter: what the top's end must say, how such an error is raised -/
namespace L2.TB
open PySem PySem.Spec PyProof.Rows
/-- the class at C: an error over ValueError whose own bases are classes -/
def ownB (K : PySem.W.Frag) (C : Addr) : Bool := match K.lookup C with
  | some ⟨.type "type", _, .cls cd, sl⟩ => (match cd.mro, sl.toList with
    | .ref C' :: bm, [_, _, _, _, some (.builtin n), _] => C' == C && (n == "ValueError.__new__" && (!cd.hasDel && (cd.hasDict && PySem.HandSPX.refsVE bm)))
    | _, _ => false)
  | _ => false
theorem ownB_ok {K : PySem.W.Frag} {C : Addr} (h : ownB K C = true) :
    ∃ nm q N bs bm sn sub ab col dd k0 k1 k2 k3 k5, K.lookup C = some (excClassObj nm q C N bs bm true sn sub ab col dd k0 k1 k2 k3 k5 "ValueError.__new__") ∧ PySem.HandSPX.refsVE bm = true := by
  unfold ownB at h
  split at h
  · rename_i dd cd sl lk
    split at h
    · rename_i C' bm k0 k1 k2 k3 n k5 em es
      simp only [Bool.and_eq_true, beq_iff_eq, Bool.not_eq_true'] at h
      obtain ⟨rfl, rfl, hd, hh, hr⟩ := h
      obtain ⟨nm, bs, mro, ns, qn, hdc, sn, sub, ab, col, del⟩ := cd
      dsimp only at em hd hh
      subst em hd hh
      have e : sl = #[k0, k1, k2, k3, some (.builtin "ValueError.__new__"), k5] := by
        obtain ⟨l⟩ := sl
        simp only at es
        rw [es]
      subst e
      exact ⟨nm, qn, ns, bs, bm, sn, sub, ab, col, dd, k0, k1, k2, k3, k5, lk, hr⟩
    · cases h
  · cases h
def errB (K : PySem.W.Frag) (x f : Str) : Bool := ownB K (He.ga K x) &&
  (He.eqO (PySem.W.findIn K (.ref (He.ga K x)) "__setattr__") (some (some (.builtin "object.__setattr__"))) &&
  (decide (PySem.W.subIn K (.ref (He.ga K x)) (.type "BaseException") = some true) && (decide (PySem.W.typeIn K (.ref (He.ga K x)) = some (.type "type")) && (PySem.W.keepIn K (.ref (He.ga K x)) &&
  (He.eqO (PySem.W.findIn K (.ref (He.ga K x)) f) (some none) && (He.eqO (PySem.W.findIn K (.ref (He.ga K x)) "__init__") (some (some (.ref (He.ma K (He.ga K x) "__init__")))) &&
  (decide (PySem.W.typeIn K (.ref (He.ma K (He.ga K x) "__init__")) = some (.type "function")) && xfB K (He.ga K x))))))))
/-- a class of errors at C, its `__init__` at fI, its one field fld -/
structure ErrC (K : PySem.W.Frag) (C fI : Addr) (fld : Str) : Prop where
  o : OexC K C
  no : PySem.W.findIn K (.ref C) fld = some none
  ini : PySem.W.findIn K (.ref C) "__init__" = some (some (.ref fI))
  fn : PySem.W.typeIn K (.ref fI) = some (.type "function")
  xf : XfC K C
theorem errB_ok {K : PySem.W.Frag} {x f : Str} (h : errB K x f = true) : ErrC K (He.ga K x) (He.ma K (He.ga K x) "__init__") f := by
  obtain ⟨h1, h⟩ := He.ba h
  obtain ⟨h2, h⟩ := He.ba h
  obtain ⟨h3, h⟩ := He.ba h
  obtain ⟨h4, h⟩ := He.ba h
  obtain ⟨h5, h⟩ := He.ba h
  obtain ⟨h6, h⟩ := He.ba h
  obtain ⟨h7, h⟩ := He.ba h
  obtain ⟨h8, h9⟩ := He.ba h
  exact ⟨⟨ownB_ok h1, He.eqO_ok h2, of_decide_eq_true h3, of_decide_eq_true h4, h5⟩, He.eqO_ok h6, He.eqO_ok h7, of_decide_eq_true h8, xfB_ok h9⟩
/-- self.fld = it -/
def spErr (K : PySem.W.Frag) (fld : Str) : Sp := fun vs H Q _ => ∃ (a C : Addr) (v : V), vs = [.ref a, v] ∧ OexC K C ∧ PySem.W.findIn K (.ref C) fld = some none ∧ H a = some (exo a C none) ∧
  ∀ dx, H dx = none → dx ≠ a → Q .non (upd (upd H dx (exd dx [(fld, v)])) a (exo a C (some dx)))
section
variable {P : Program} {w : World} {K : PySem.W.Frag} {mg : Str → Option Value} {base : Heap} {f : Addr} {fd : FuncData}
theorem ok_errInit {q y fld : Str} {st : Stmt} {p0 p1 p2 p3 : Pos} (F : Fun K "__init__" q st f fd) (S : FnScope ["self", y] ["self", y] (defScope st)) (hb : defBody st = [.Assign [.Attribute (.Name "self" p0) fld p1] (.Name y p2) p3])
    (hv0 : Vis (defScope st) "self") (hv1 : Vis (defScope st) y) (hdy : (y == ("__debug__" : Str)) = false) (hcy : (y == ("__classdict__" : Str)) = false) : FnOk P w K mg base CX0 1 f fd ["self", y] (spErr K fld) := by
  refine F.ok S (fun vs H Q E h => by obtain ⟨a, C, v, e, _⟩ := h; rw [e]; rfl) fun cdv A outer s H vs Q E hr hsp => ?_
  obtain ⟨a, C, v, rfl, T, no, ha, hq⟩ := hsp
  rw [hb]
  refine ⟨_, pss_one (ps_ost (pe_var (i := 0) rfl hv0 (by decide) (by decide)) (pe_var (i := 1) rfl hv1 hdy hcy) rfl), ?_⟩
  exact ⟨_, rfl, _, rfl, a, C, rfl, T, no, .inl ⟨ha, hq⟩⟩
end
/-- x(e), to be raised -/
theorem pmk_err {X : Cx} {x fld : Str} {C fI : Addr} {fd : FuncData} {y : Str} {e : Expr} {te : TE} {p pos : Pos} (E : ErrC X.K C fI fld) (F : FnOk X.prog X.w X.K X.mg X.base CX0 1 fI fd ["self", y] (spErr X.K fld)) (hb : Binds X.K fd ["self", y] [])
    (hr : Room 2 X.A) (hg : Gl X x) (hm : X.mg x = some (.ref C)) (he : PE X e te) (hdb : (x == ("__debug__" : Str)) = false := by decide) (hs : starEach [e] X.env = (false, eval e X.env) :: starEach [] X.env := by rfl) :
    PMk X (.Call (.Name x p) [e] [] pos) (tMkO C (spErr X.K fld) [] (tCons te tNil)) := pmk_oex (x := x) (es := []) (ta := tCons te tNil) (ds := []) (dvs := []) E.o E.ini E.fn F hr hb .nil pass0 hg hm (pa_cons he pa_nil (hs := hs)) hdb hs rfl
/-- what must hold where x(v) flies: d is its dict -/
theorem mk_rs {K : PySem.W.Frag} {fld : Str} {C fI : Addr} {v : V} {H1 : Hp} {Q : XK} (E : ErrC K C fI fld) (h : ∀ d, H1 d = none → Q (.ref C) (some d) (upd H1 d (.xd [(fld, v)]))) :
    [v].length ≤ 1000 ∧ ∀ a, H1 a = none → spErr K fld (.ref a :: ([v] ++ [])) (upd H1 a (exo a C none))
      (fun v H2 => v = .non ∧ ∃ (d : Addr) (fs : List (Str × V)), H2 a = some (exo a C (some d)) ∧ H2 d = some (exd d fs) ∧ H1 d = none ∧ Q (.ref C) (some d) (upd (del H2 a) d (.xd fs))) (fun _ _ _ => False) := by
  refine ⟨by show 1 ≤ 1000; omega, fun a ha => ⟨a, C, v, rfl, E.o, E.no, upd_same, fun dx hdx ne => ⟨rfl, dx, _, upd_same, by rw [upd_ne ne, upd_same], ?_, ?_⟩⟩⟩
  · rw [upd_ne ne] at hdx; exact hdx
  · have n1 : H1 dx = none := by rw [upd_ne ne] at hdx; exact hdx
    have e : upd (del (upd (upd (upd H1 a (exo a C none)) dx (exd dx [(fld, v)])) a (exo a C (some dx))) a) dx (.xd [(fld, v)]) = upd H1 dx (.xd [(fld, v)]) := by
      funext b
      by_cases h1 : b = dx
      · subst h1; rw [upd_same, upd_same]
      · rw [upd_ne h1, upd_ne h1]
        by_cases h2 : b = a
        · subst h2; rw [del_same, ha]
        · rw [del_ne h2, upd_ne h2, upd_ne h1, upd_ne h2]
    rw [e]
    exact h dx n1
/-- an error of the class at C flies from here, v in its field -/
def Flies (C : Addr) (fld : Str) (v : V) (H : Hp) (E : XK) : Prop := ∀ d H', Same H H' → H d = none → H' d = some (.xd [(fld, v)]) → E (.ref C) (some d) H'
theorem Flies.same {C : Addr} {fld : Str} {v : V} {H H' : Hp} {E : XK} (h : Flies C fld v H E) (s : Same H H') : Flies C fld v H' E := fun d H2 s2 n e => h d H2 (s.trans s2) (by
  cases q : H d with
  | none => rfl
  | some o => rw [s _ _ q] at n; cases n) e
theorem Flies.mk {K : PySem.W.Frag} {fld : Str} {C fI : Addr} {v : V} {H1 : Hp} {Q : XK} (E : ErrC K C fI fld) (h : Flies C fld v H1 Q) :
    [v].length ≤ 1000 ∧ ∀ a, H1 a = none → spErr K fld (.ref a :: ([v] ++ [])) (upd H1 a (exo a C none))
      (fun v H2 => v = .non ∧ ∃ (d : Addr) (fs : List (Str × V)), H2 a = some (exo a C (some d)) ∧ H2 d = some (exd d fs) ∧ H1 d = none ∧ Q (.ref C) (some d) (upd (del H2 a) d (.xd fs))) (fun _ _ _ => False) :=
  mk_rs E fun d n => h d _ (fun b o e => by rw [upd_ne (ne_of_none e n)]; exact e) n upd_same
end L2.TB
namespace L2.TB
open PySem PySem.Spec PyProof.Rows
/-! ### what the top leaves, by addresses -/
def asK : List Nat := ([3, 6, 4, 21, 31, 51, 70, 89, 108, 127, 146, 165, 184, 193, 200, 207, 214, 219, 226, 231, 236, 243, 250, 257, 264, 269, 274, 279, 284, 291, 298, 305, 312, 319, 324, 331, 456, 465, 472, 479] : List Nat) ++
  ([486, 493, 500, 507, 512, 517, 522, 527, 534, 541, 546, 553, 558, 565, 570, 577, 584, 589, 594, 601, 608, 613, 618, 625, 630, 635, 642, 20, 30, 50, 69, 88, 107, 126, 145, 164, 183, 192, 199, 206] : List Nat) ++
  ([213, 218, 225, 230, 235, 242, 249, 256, 263, 268, 273, 278, 283, 290, 297, 304, 311, 318, 323, 330, 455, 464, 471, 478, 485, 492, 499, 506, 511, 516, 521, 526, 533, 540, 545, 552, 557, 564, 569, 576] : List Nat) ++
  ([583, 588, 593, 600, 607, 612, 617, 624, 629, 634, 641, 15, 16, 17, 18, 19, 29, 32, 48, 49, 67, 68, 86, 87, 105, 106, 124, 125, 143, 144, 162, 163, 181, 182, 187, 188, 189, 190, 191, 194] : List Nat) ++
  ([195, 196, 197, 198, 201, 202, 203, 204, 205, 208, 209, 210, 211, 212, 215, 216, 217, 220, 221, 222, 223, 224, 227, 228, 229, 232, 233, 234, 237, 238, 239, 240, 241, 244, 245, 246, 247, 248, 251, 252] : List Nat) ++
  ([253, 254, 255, 258, 259, 260, 261, 262, 265, 266, 267, 270, 271, 272, 275, 276, 277, 280, 281, 282, 285, 286, 287, 288, 289, 292, 293, 294, 295, 296, 299, 300, 301, 302, 303, 306, 307, 308, 309, 310] : List Nat) ++
  ([313, 314, 315, 316, 317, 320, 321, 322, 325, 326, 327, 328, 329, 343, 350, 357, 362, 367, 374, 379, 384, 389, 396, 403, 408, 415, 422, 429, 436, 441, 448, 453, 454, 457, 458, 461, 462, 463, 466, 467] : List Nat) ++
  ([468, 469, 470, 473, 474, 475, 476, 477, 480, 481, 482, 483, 484, 487, 488, 489, 490, 491, 494, 495, 496, 497, 498, 501, 502, 503, 504, 505, 508, 509, 510, 513, 514, 515, 518, 519, 520, 523, 524, 525] : List Nat) ++
  ([528, 529, 530, 531, 532, 535, 536, 537, 538, 539, 542, 543, 544, 547, 548, 549, 550, 551, 554, 555, 556, 559, 560, 561, 562, 563, 566, 567, 568, 571, 572, 573, 574, 575, 578, 579, 580, 581, 582, 585] : List Nat) ++
  ([586, 587, 590, 591, 592, 595, 596, 597, 598, 599, 602, 603, 604, 605, 606, 609, 610, 611, 614, 615, 616, 619, 620, 621, 622, 623, 626, 627, 628, 631, 632, 633, 636, 637, 638, 639, 640, 47, 66, 85] : List Nat) ++
  ([104, 123, 142, 161, 180, 342, 349, 356, 361, 366, 373, 378, 383, 388, 395, 402, 407, 414, 421, 428, 435, 440, 447, 452, 42, 43, 44, 45, 46, 61, 62, 63, 64, 65, 80, 81, 82, 83, 84, 99] : List Nat) ++
  ([100, 101, 102, 103, 118, 119, 120, 121, 122, 137, 138, 139, 140, 141, 156, 157, 158, 159, 160, 175, 176, 177, 178, 179, 339, 340, 341, 344, 345, 346, 347, 348, 351, 352, 353, 354, 355, 358, 359, 360] : List Nat) ++
  ([363, 364, 365, 368, 369, 370, 371, 372, 375, 376, 377, 380, 381, 382, 385, 386, 387, 390, 391, 392, 393, 394, 397, 398, 399, 400, 401, 404, 405, 406, 409, 410, 411, 412, 413, 416, 417, 418, 419, 420] : List Nat) ++
  ([423, 424, 425, 426, 427, 430, 431, 432, 433, 434, 437, 438, 439, 442, 443, 444, 445, 446, 449, 450, 451] : List Nat)
def dfd (p : Str × Option Str) (x q : Str) (st : Stmt) (dv : List He.Dv) : He.DefD := { at_ := p, name := x, qual := q, params := defArgs st, body := defBody st, scope := defScope st, dfl := dv }
def fnT : List He.DefD := ([dfd ("_law_start", none) "_law_start" "_law_start" sStart [], dfd ("_law_draw", none) "_law_draw" "_law_draw" sDraw [], dfd ("_law_pick", none) "_law_pick" "_law_pick" sPick [], dfd ("_law_mixed", none) "_law_mixed" "_law_mixed" sMixed [], dfd ("_law_same", none) "_law_same" "_law_same" sSame [], dfd ("_law_name", none) "_law_name" "_law_name" sNameL [], dfd ("_law_names", none) "_law_names" "_law_names" sNamesL [], dfd ("_law_c_arcs", none) "_law_c_arcs" "_law_c_arcs" sArcsL []] : List He.DefD) ++
  ([dfd ("_law_c_leads", none) "_law_c_leads" "_law_c_leads" sLeads [], dfd ("_law_c_live", none) "_law_c_live" "_law_c_live" sLiveL [], dfd ("_law_c_nodes", none) "_law_c_nodes" "_law_c_nodes" sNodesL [], dfd ("_law_c_world", none) "_law_c_world" "_law_c_world" sWorldL [], dfd ("_law_c_way", none) "_law_c_way" "_law_c_way" sWay [], dfd ("_law_c_is_world", none) "_law_c_is_world" "_law_c_is_world" sIsWorldL [], dfd ("_law_c_some", none) "_law_c_some" "_law_c_some" sSome [], dfd ("_law_c_out", none) "_law_c_out" "_law_c_out" sOut []] : List He.DefD) ++
  ([dfd ("_law_c_is_side", none) "_law_c_is_side" "_law_c_is_side" sIsSide [], dfd ("_law_c_is_plan", none) "_law_c_is_plan" "_law_c_is_plan" sIsPlanL [], dfd ("_law_tried", none) "_law_tried" "_law_tried" sTried [], dfd ("_law_error", none) "_law_error" "_law_error" sErrL [], dfd ("_law_c_plans", none) "_law_c_plans" "_law_c_plans" sPlansL [], dfd ("_law_c_are_apart", none) "_law_c_are_apart" "_law_c_are_apart" sAreApartL [], dfd ("_law_c_pairs", none) "_law_c_pairs" "_law_c_pairs" sPairs [], dfd ("_law_c_made", none) "_law_c_made" "_law_c_made" sMade []] : List He.DefD) ++
  ([dfd ("_law_c_finds", none) "_law_c_finds" "_law_c_finds" sFinds [], dfd ("law", none) "law" "law" sLaw [], dfd ("is_integer", none) "is_integer" "is_integer" sIsInt [], dfd ("is_count", none) "is_count" "is_count" sIsCount [], dfd ("is_list", none) "is_list" "is_list" sIsList [], dfd ("is_pair", none) "is_pair" "is_pair" sIsPair [], dfd ("is_name", none) "is_name" "is_name" sIsName [], dfd ("is_one_of", none) "is_one_of" "is_one_of" sIsOne []] : List He.DefD) ++
  ([dfd ("first_bad", none) "first_bad" "first_bad" sFirst [], dfd ("check_known", none) "check_known" "check_known" sCkK [], dfd ("check_asked", none) "check_asked" "check_asked" sCkA [], dfd ("check_both", none) "check_both" "check_both" sCkB [], dfd ("check_lacking", none) "check_lacking" "check_lacking" sCkL [], dfd ("check_counts", none) "check_counts" "check_counts" sCkC [], dfd ("has_just", none) "has_just" "has_just" sHasJust [], dfd ("is_parted", none) "is_parted" "is_parted" sIsParted []] : List He.DefD) ++
  ([dfd ("onward", none) "onward" "onward" sOnward [], dfd ("back", none) "back" "back" sBack [], dfd ("either_way", none) "either_way" "either_way" sEither [], dfd ("reached", none) "reached" "reached" sReached [], dfd ("way_to", none) "way_to" "way_to" sWayTo [], dfd ("is_joined", none) "is_joined" "is_joined" sJoined [], dfd ("ring_through", none) "ring_through" "ring_through" sRing [], dfd ("shifted", none) "shifted" "shifted" sShifted []] : List He.DefD) ++
  ([dfd ("inward", none) "inward" "inward" sInward [], dfd ("free_arcs", none) "free_arcs" "free_arcs" sFree [], dfd ("filled_world", none) "filled_world" "filled_world" sFilled [], dfd ("_is_arc", none) "_is_arc" "_is_arc" sIsArc [], dfd ("_nodes_of", none) "_nodes_of" "_nodes_of" sNodesOf [], dfd ("Net", some "__init__") "__init__" "Net.__init__" sInit [], dfd ("Net", some "home") "home" "Net.home" sHome [], dfd ("Net", some "arcs") "arcs" "Net.arcs" sArcs []] : List He.DefD) ++
  ([dfd ("Net", some "live") "live" "Net.live" sLive [], dfd ("Net", some "_is_live") "_is_live" "Net._is_live" sIsLive [], dfd ("Net", some "_is_world") "_is_world" "Net._is_world" sIsWorldM [], dfd ("Net", some "is_told") "is_told" "Net.is_told" sIsTold [], dfd ("Net", some "plan") "plan" "Net.plan" sPlan [], dfd ("Net", some "is_plan") "is_plan" "Net.is_plan" sIsPlan [], dfd ("Net", some "found") "found" "Net.found" sFoundM [], dfd ("Net", some "apart") "apart" "Net.apart" sApart []] : List He.DefD) ++
  ([dfd ("Net", some "are_apart") "are_apart" "Net.are_apart" sAreApart [], dfd ("Net", some "_is_given") "_is_given" "Net._is_given" sIsGiven [], dfd ("Net", some "_others") "_others" "Net._others" sOthers [], dfd ("Net", some "_is_cut") "_is_cut" "Net._is_cut" sIsCut [], dfd ("BadArc", some "__init__") "__init__" "BadArc.__init__" sIBadArc [], dfd ("BadNames", some "__init__") "__init__" "BadNames.__init__" sIBadNames [], dfd ("BadWorld", some "__init__") "__init__" "BadWorld.__init__" sIBadWorld [], dfd ("BadKnown", some "__init__") "__init__" "BadKnown.__init__" sIBadKnown []] : List He.DefD) ++
  ([dfd ("NoQuestion", some "__init__") "__init__" "NoQuestion.__init__" sINoQuestion [], dfd ("BadAmounts", some "__init__") "__init__" "BadAmounts.__init__" sIBadAmounts [], dfd ("BadPlan", some "__init__") "__init__" "BadPlan.__init__" sIBadPlan [], dfd ("BadAnswers", some "__init__") "__init__" "BadAnswers.__init__" sIBadAnswers []] : List He.DefD)
def faT : List He.Fa := ([.glo "_law_start", .glo "_law_draw", .glo "_law_pick", .glo "_law_mixed", .glo "_law_same", .glo "_law_name", .glo "_law_names", .glo "_law_c_arcs", .glo "_law_c_leads", .glo "_law_c_live", .glo "_law_c_nodes", .glo "_law_c_world", .glo "_law_c_way", .glo "_law_c_is_world", .glo "_law_c_some", .glo "_law_c_out"] : List He.Fa) ++
  ([.glo "_law_c_is_side", .glo "_law_c_is_plan", .glo "_law_tried", .glo "_law_error", .glo "_law_c_plans", .glo "_law_c_are_apart", .glo "_law_c_pairs", .glo "_law_c_made", .glo "_law_c_finds", .glo "law", .glo "is_integer", .glo "is_count", .glo "is_list", .glo "is_pair", .glo "is_name", .glo "is_one_of"] : List He.Fa) ++
  ([.glo "first_bad", .glo "check_known", .glo "check_asked", .glo "check_both", .glo "check_lacking", .glo "check_counts", .glo "has_just", .glo "is_parted", .glo "onward", .glo "back", .glo "either_way", .glo "reached", .glo "way_to", .glo "is_joined", .glo "ring_through", .glo "shifted"] : List He.Fa) ++
  ([.glo "inward", .glo "free_arcs", .glo "filled_world", .glo "_is_arc", .glo "_nodes_of", .glo "Net", .glo "WorldError", .free "list", .free "len", .free "int", .free "range", .free "dict", .free "tuple", .free "str", .free "bool", .free "isinstance"] : List He.Fa) ++
  ([.free "all", .free "any", .free "enumerate", .free "zip", .free "sum", .int "LONGEST" 40, .str "SIGNS" "abcdefghijklmnopqrstuvwxyz0123456789.", .cls "Net", .noat "Net" "_arcs", .noat "Net" "_nodes", .noat "Net" "_live", .meth "Net" "home", .meth "Net" "arcs", .meth "Net" "live", .meth "Net" "_is_live", .meth "Net" "_is_world"] : List He.Fa) ++
  ([.meth "Net" "is_told", .meth "Net" "plan", .meth "Net" "is_plan", .meth "Net" "found", .meth "Net" "apart", .meth "Net" "are_apart", .meth "Net" "_is_given", .meth "Net" "_others", .meth "Net" "_is_cut", .meth "Net" "__init__", .mkr "Net", .glo "BadArc", .glo "BadNames", .glo "BadWorld", .glo "BadKnown", .glo "NoQuestion"] : List He.Fa) ++
  ([.glo "BadAmounts", .glo "BadPlan", .glo "BadAnswers", .exm "BadPlan" "WorldError" true, .exm "BadAnswers" "WorldError" true] : List He.Fa)
/-- the defs that hold a def, a lambda -/
def tfT : List He.Defn := [("_law_c_finds", none), ("law", none)]
/-- the classes of errors, each with its field -/
def erT : List (Str × Str) := [("BadArc", "name"), ("BadNames", "index"), ("BadWorld", "thing"), ("BadKnown", "index"), ("NoQuestion", "name"), ("BadAmounts", "name"), ("BadPlan", "thing"), ("BadAnswers", "thing")]
/-- of the class besides -/
def clsB (K : PySem.W.Frag) (C : Addr) : Bool := He.eqO (PySem.W.findIn K (.ref C) "__class__") (some (some (.builtin "object.__class__"))) && (He.eqO (PySem.W.specialIn K (.builtin "object.__class__") "__get__") (some (some (.builtin "getset_descriptor.__get__"))) &&
  (decide (PySem.W.takesIn K (.builtin "object.__class__") = some true) && decide (PySem.W.mroIn K C (.type "object") = some true)))
def farB (K : PySem.W.Frag) (C : Addr) (t : Value) : Bool := PySem.W.notFirst K C t && decide (PySem.W.kitOne K t (.ref C) = some false)
/-- of a class of errors that isinstance is asked about -/
def excQ (K : PySem.W.Frag) (C : Addr) : Bool := clsB K C && ((PySem.W.clsIn K C).isSome && xfB K C)
def ownQ (K : PySem.W.Frag) (C : Addr) : Bool := clsB K C && (He.eqO (PySem.W.findIn K (.ref C) "__ne__") (some (some (.builtin "object.__ne__"))) && (["NoneType", "int", "dict", "list"].all fun t => farB K C (.type t)))
/-- the classes of _law_error, in their order -/
def ordT : List Str := ["BadKnown", "NoQuestion", "BadArc", "BadNames", "BadAmounts", "BadWorld", "BadPlan", "BadAnswers"]
def kitB2 (K : PySem.W.Frag) (x y : Str) : Bool := decide (PySem.W.kitOne K (.ref (He.ga K x)) (.ref (He.ga K y)) = some (decide (x = y)))
def moreT (K : PySem.W.Frag) : Bool := clsB K (He.ga K "Net") && (["BadPlan", "BadAnswers"].all fun x => excQ K (He.ga K x) && ordT.all fun y => kitB2 K x y)
def csL (K : PySem.W.Frag) : List (Addr × Addr) := tfT.map (He.cT K)
def diffT (K : PySem.W.Frag) : Bool := decide ((tfT.map fun p => (He.cT K p).2).Nodup) && ((erT.all fun p => errB K p.1 p.2) && moreT K)
def obsK (g : Addr → Option Obj) : He.AlD × Bool := (He.obsD faT fnT (He.frT g asK), diffT (He.frT g asK) && He.tabsB g tfT (He.frT g asK))
structure SaysK (h : Heap) (K : PySem.W.Frag) : Prop where
  d : He.SaysD faT fnT K
  np : (tfT.map fun p => (He.cT K p).2).Nodup
  er : ∀ p ∈ erT, errB K p.1 p.2 = true
  mo : moreT K = true
  hd : ∀ p ∈ tfT, PySem.W.codeHdIn K (He.cT K p).1 (He.cT K p).2 = true
  out : ∀ p ∈ tfT, K.lookup (He.cT K p).2 = none
  empty : ∀ p ∈ tfT, h.get? (He.cT K p).2 = some { cls := .none, data := .fields #[] }
theorem saysK_of {h : Heap} (e : obsK h.get? = (He.valD fnT, true)) : SaysK h (He.frT h.get? asK) := by
  have e1 : He.obsD faT fnT (He.frT h.get? asK) = He.valD fnT := congrArg (fun z : He.AlD × Bool => z.1) e
  have e2 : (diffT (He.frT h.get? asK) && He.tabsB h.get? tfT (He.frT h.get? asK)) = true := congrArg (fun z : He.AlD × Bool => z.2) e
  obtain ⟨h1, h2⟩ := He.ba e2
  have key : ∀ p ∈ tfT, PySem.W.codeHdIn (He.frT h.get? asK) (He.cT (He.frT h.get? asK) p).1 (He.cT (He.frT h.get? asK) p).2 = true ∧ ∃ o, h.get? (He.cT (He.frT h.get? asK) p).2 = some o ∧ He.emptyTab o = true := fun p hp => by
    obtain ⟨h3, h4⟩ := He.ba (List.all_eq_true.mp h2 p hp)
    refine ⟨h3, ?_⟩
    cases q : h.get? (He.cT (He.frT h.get? asK) p).2 with
    | none => rw [q] at h4; cases h4
    | some o => rw [q] at h4; exact ⟨o, rfl, h4⟩
  obtain ⟨h5, h6⟩ := He.ba h1
  obtain ⟨h6, h7⟩ := He.ba h6
  exact ⟨e1, of_decide_eq_true h5, fun p hp => List.all_eq_true.mp h6 p hp, h7, fun p hp => (key p hp).1, (fun p hp => by
    obtain ⟨_, o, q, z⟩ := key p hp
    exact He.frT_none q z), (fun p hp => by
    obtain ⟨_, o, q, z⟩ := key p hp
    rw [q, He.emptyTab_eq z])⟩
section
variable {h : Heap} {K : PySem.W.Frag}
theorem SaysK.hdC (c : SaysK h K) {p : Addr × Addr} (hp : p ∈ csL K) : PySem.W.codeHdIn K p.1 p.2 = true := by
  obtain ⟨q, hq, e⟩ := List.mem_map.mp hp
  rw [← e]
  exact c.hd q hq
theorem SaysK.outC (c : SaysK h K) {p : Addr × Addr} (hp : p ∈ csL K) : K.lookup p.2 = none := by
  obtain ⟨q, hq, e⟩ := List.mem_map.mp hp
  rw [← e]
  exact c.out q hq
theorem SaysK.emptyC (c : SaysK h K) {p : Addr × Addr} (hp : p ∈ csL K) : h.get? p.2 = some { cls := .none, data := .fields #[] } := by
  obtain ⟨q, hq, e⟩ := List.mem_map.mp hp
  rw [← e]
  exact c.empty q hq
end
def hookK : PySem.W.Hook where
  α := He.AlD × Bool
  obs := fun s => obsK s.heap.get?
  val := fun _ => (He.valD fnT, true)
  says := fun _ h => ∃ K : PySem.W.Frag, K.In h ∧ SaysK h K
  of := fun _ _ e => ⟨_, He.frT_in, saysK_of e⟩
  keeps := fun _ _ _ ⟨K, hK, c⟩ k => ⟨K, PySem.W.Frag.In.keeps hK k, ⟨c.d, c.np, c.er, c.mo, c.hd, c.out, fun p hp => k _ _ (c.empty p hp)⟩⟩
def obT (s : PySem.W.SharedT) : He.AlD × Bool := obsK (HandSHeadRun.getT s)
theorem obT_eq (s : PySem.W.SharedT) : obT s = hookK.obs s.abs := by
  have e : HandSHeadRun.getT s = s.abs.heap.get? := funext fun a => HandSHeadRun.getT_eq s a
  unfold obT
  rw [e] <;> rfl
namespace HdR
open PySem PySem.W PySem.Calls PyProof.Rows
abbrev R : OpenRow := OpenLaw.row PySem.Challenge.rw_twoworlds_k26_whole_net_papers
abbrev qv : Program := view R.prog [70]
def names : List PySem.Str := (["_wall", "WorldError", "BadWorld", "BadKnown", "NoQuestion", "BadPlan", "BadAnswers", "BadArc", "BadNames", "BadAmounts", "is_integer", "is_count", "is_list", "is_pair", "is_name", "is_one_of", "has_just", "is_parted", "first_bad", "check_known", "check_asked", "check_both", "check_lacking", "check_counts", "onward", "back", "either_way", "reached", "way_to", "is_joined"] : List PySem.Str) ++
  (["ring_through", "shifted", "inward", "Net", "free_arcs", "filled_world", "_is_arc", "_nodes_of", "_law_start", "_law_draw", "_law_pick", "_law_mixed", "_law_same", "_law_name", "_law_names", "_law_c_arcs", "_law_c_leads", "_law_c_live", "_law_c_nodes", "_law_c_world", "_law_c_way", "_law_c_is_world", "_law_c_some", "_law_c_out", "_law_c_is_side", "_law_c_is_plan", "_law_tried", "_law_error", "_law_c_plans", "_law_c_are_apart"] : List PySem.Str) ++
  (["_law_c_pairs", "_law_c_made", "_law_c_finds", "SIGNS", "LONGEST"] : List PySem.Str)
set_option maxHeartbeats 0 in
theorem run (w : World) : HandSHeadRun.RunEq R qv L2.TB.hookK L2.TB.obT 16000 names w := by
  intro os
  kernel_rfl
end HdR
end L2.TB
namespace L2.TB
open PySem PySem.Spec PyProof.Rows
/-! ### the spring of draws -/
structure StrmAt (H : Hp) (l ls : Addr) (cs : List Int) (g k m N : Int) : Prop where
  o : H l = some (.lst [.ref ls, .int g, .int k, .int m])
  c : H ls = some (.lst (cs.map V.int))
  ne : ls ≠ l
  g0 : 0 ≤ g
  k0 : 0 ≤ k
  k1 : k ≤ N
  m0 : 0 ≤ m
  m1 : m < 2147483647
  sz : cs.length ≤ 100
def Strm (H : Hp) (l ls : Addr) (N : Int) : Prop := ∃ cs g k m, StrmAt H l ls cs g k m N
/-- all but the spring is as it was -/
def But (l ls : Addr) (H H' : Hp) : Prop := ∀ b o, b ≠ l → b ≠ ls → H b = some o → H' b = some o
theorem But.refl (l ls : Addr) (H : Hp) : But l ls H H := fun _ _ _ _ e => e
theorem But.trans {l ls : Addr} {H H1 H2 : Hp} (a : But l ls H H1) (b : But l ls H1 H2) : But l ls H H2 := fun c o h1 h2 e => b c o h1 h2 (a c o h1 h2 e)
theorem But.of {l ls : Addr} {H H' : Hp} (a : Same H H') : But l ls H H' := fun c o _ _ e => a c o e
theorem But.upd {l ls a : Addr} {H : Hp} {o : HO} (h : a = l ∨ a = ls) : But l ls H (upd H a o) := fun b u h1 h2 e => by
  have ne : b ≠ a := by rcases h with h | h <;> (subst h; assumption)
  rw [upd_ne ne]; exact e
theorem dp_ints {K : PySem.W.Frag} {H : Hp} : ∀ cs : List Int, DpAll K H (cs.map V.int) (cs.map PyData.int)
  | [] => .nil
  | c :: cs => .cons (.int c) (dp_ints cs)
def spDraw : Sp := fun vs H Q _ => ∃ (l ls : Addr) (many N : Int), vs = [.ref l, .int many] ∧ Strm H l ls N ∧ N ≤ 1000000 ∧ 0 < many ∧ many < 1000000000 ∧
  ∀ H' r, 0 ≤ r → r < many → Strm H' l ls (N + 1) → But l ls H H' → Q (.int r) H'
theorem scDraw : FnScope ["stream", "many", "cell", "digit", "mixed"] ["stream", "many"] (defScope sDraw) := ⟨rfl, rfl, rfl, by decide +kernel, rfl, by decide +kernel, by decide +kernel⟩
theorem pow_nn (a : Int) (h : 0 ≤ a) : 0 ≤ a ^ (Int.toNat 5) := Int.pow_nonneg h
theorem at0 {a b c d : V} : atI [a, b, c, d] 0 = some a := rfl
theorem at1 {a b c d : V} : atI [a, b, c, d] 1 = some b := rfl
theorem at2 {a b c d : V} : atI [a, b, c, d] 2 = some c := rfl
theorem at3 {a b c d : V} : atI [a, b, c, d] 3 = some d := rfl
theorem draw_end {A B C many : Int} (h : 0 < many) : 0 ≤ A % B % many ∧ A % B % many < many :=
  ⟨Int.emod_nonneg _ (by omega), Int.emod_lt_of_pos _ h⟩
section
variable {P : Program} {w : World} {K : PySem.W.Frag} {mg : Str → Option Value} {base : Heap} {f : Addr} {fd : FuncData}
theorem ok_draw (F : Fun K "_law_draw" "_law_draw" sDraw f fd) (gI : mg "int" = none) : FnOk P w K mg base CX0 1 f fd ["stream", "many"] spDraw := by
  refine F.ok scDraw (fun vs H Q E h => by obtain ⟨l, ls, many, N, e, _⟩ := h; rw [e]; rfl) fun cdv A outer s H vs Q E hr hsp => ?_
  obtain ⟨l, ls, many, N, rfl, ⟨cs, g, k, m, S⟩, hN, h0, h1, hq⟩ := hsp
  have nd := scDraw.nd
  have hu := hu_of hr
  have hu64 := hr.units
  obtain ⟨tl, ptl, htl⟩ : ∃ t, PSs (cxOf CX0 P w K mg base ["stream", "many", "cell", "digit", "mixed"] "_law_draw" (defScope sDraw) f cdv A outer s H E).nox ((defBody sDraw).drop 2) t ∧
      ∀ (H1 : Hp) (c : Option V) (cs : List Int) (g k m : Int), StrmAt H1 l ls cs g k m (N + 1) → But l ls H H1 →
        t { nx := fun _ H' => Q .non H', rt := Q } [some (.ref l), some (.int many), c, none, none] H1 := by
    refine ⟨_, pss_cons (ps_if (pt_cmpR op_gt (pe_ix ix_list (pv 0) pe_int (fun _ _ => rfl)) pe_int (nomark _))
      (pss_cons (ps_set (i := 3) nd rfl (Or.inl rfl) (pe_op op_mod (pe_callTy call_int1 rfl gI boot_int (pa_cons (pe_ix ix_list (pv 0) pe_int (fun _ _ => rfl)) pa_nil)) (pv 1)))
      (pss_cons (ps_asg (pe_op op_fdiv (pe_ix ix_list (pv 0) pe_int (fun _ _ => rfl)) (pv 1)) (pg_sub (pv 0) pe_int set_list))
      (pss_one (ps_ret (pv 3)))))
      pss_nil)
    (pss_cons (ps_set (i := 4) nd rfl (Or.inl rfl) (pe_op op_mod (pe_callTy call_int1 rfl gI boot_int (pa_cons (pe_op op_pow (pe_op op_add (pe_op op_add (pe_ix ix_list (pv 0) pe_int (fun _ _ => rfl)) (pe_op op_mul pe_int (pe_ix ix_list (pv 0) pe_int (fun _ _ => rfl)))) pe_int) pe_int) pa_nil)) pe_int))
    (pss_one (ps_ret (pe_op op_mod (pe_op op_mod (pe_callTy call_int1 rfl gI boot_int (pa_cons (pe_op op_pow (pe_op op_add (pe_op op_add (pe_op op_mul (pv 4) pe_int) (pe_op op_mul pe_int (pe_ix ix_list (pv 0) pe_int (fun _ _ => rfl)))) pe_int) pe_int) pa_nil)) pe_int) (pv 1))))), fun H1 c cs g k m S hB => ?_⟩
    refine ⟨_, rfl, _, _, _, _, rfl, rfl, SqL.of S.o, at1, _, _, rfl, rfl, _, rfl, ite2 (fun e => ?_) (fun e => ?_)⟩
    · refine ⟨_, rfl, _, _, _, _, rfl, rfl, SqL.of S.o, at1, .inl ⟨_, rfl, ?_⟩⟩
      refine ⟨_, rfl, _, _, rfl, rfl, h0, ?_⟩
      refine ⟨_, rfl, _, _, _, _, rfl, rfl, SqL.of S.o, at1, _, rfl, _, _, rfl, rfl, ⟨h0, by omega⟩, ?_⟩
      refine ⟨_, rfl, _, _, _, _, rfl, rfl, S.o, rfl, ?_⟩
      refine ⟨_, rfl, ?_⟩
      refine hq _ _ (Int.emod_nonneg _ (by omega)) (Int.emod_lt_of_pos _ h0) ⟨cs, g / many, k, m, ⟨upd_same, ?_, S.ne, Int.ediv_nonneg S.g0 (by omega), S.k0, S.k1, S.m0, S.m1, S.sz⟩⟩ (hB.trans (But.upd (.inl rfl)))
      rw [upd_ne S.ne]; exact S.c
    · have hk := S.k1
      have hk0 := S.k0
      have hm := S.m0
      have hm1 := S.m1
      refine ⟨_, rfl, _, _, _, _, rfl, rfl, SqL.of S.o, at3, _, rfl, _, _, _, _, rfl, rfl, SqL.of S.o, at2, _, _, rfl, rfl, .inl ⟨by decide, by decide⟩, _, _, rfl, rfl, _, _, rfl, rfl, _, _, rfl, rfl, ⟨by decide, by decide, ?_⟩, ?_⟩
      · omega
      refine .inl ⟨_, rfl, _, _, rfl, rfl, (by show (0 : Int) < 2147483629; decide), ?_⟩
      have e1 := Int.emod_nonneg ((m + 7919 * k + 104729) ^ Int.toNat 5) (show (2147483629 : Int) ≠ 0 by decide)
      have e2 := Int.emod_lt_of_pos ((m + 7919 * k + 104729) ^ Int.toNat 5) (show (0 : Int) < 2147483629 by decide)
      generalize (m + 7919 * k + 104729) ^ Int.toNat 5 % 2147483629 = z at e1 e2 ⊢
      refine ⟨_, rfl, _, _, rfl, rfl, .inr ⟨by decide, by decide⟩, _, rfl, _, _, _, _, rfl, rfl, SqL.of S.o, at2, _, _, rfl, rfl, .inl ⟨by decide, by decide⟩, _, _, rfl, rfl, _, _, rfl, rfl, _, _, rfl, rfl, ⟨by decide, by decide, ?_⟩, ?_⟩
      · omega
      refine .inl ⟨_, rfl, _, _, rfl, rfl, (by show (0 : Int) < 1000000007; decide), _, rfl, _, _, rfl, rfl, h0, ?_⟩
      exact hq _ _ (Int.emod_nonneg _ (by omega)) (Int.emod_lt_of_pos _ h0) ⟨cs, g, k, m, S⟩ hB
  refine ⟨_, pss_cons (ps_asg (pe_op op_add (pe_ix ix_list (pv 0) pe_int (fun _ _ => rfl)) pe_int) (pg_sub (pv 0) pe_int set_list))
    (pss_cons (ps_if (PW.pt (pw_and (pt_cmpR op_eq (pe_ix ix_list (pv 0) pe_int (fun _ _ => rfl)) pe_int (nomark _))
        (pw_and1 (pt_cmpR (op_neD hu64) (pe_ix ix_list (pv 0) pe_int (fun _ _ => rfl)) (pe_lst pa_nil) (nomark _)))))
      (pss_cons (ps_set (i := 2) nd rfl (Or.inl rfl) (pe_bm PySem.F.plainAttrs_list PySem.F.slot_list_pop PySem.F.type_list_pop mt_popAt (pe_ix ix_list (pv 0) pe_int (fun _ _ => rfl)) (pa_cons pe_int pa_nil)))
      (pss_cons (ps_asg (pe_op op_mod (pe_callTy call_int1 rfl gI boot_int (pa_cons (pe_op op_add (pe_op op_add (pe_op op_mul (pe_ix ix_list (pv 0) pe_int (fun _ _ => rfl)) pe_int) (pv 2)) pe_int) pa_nil)) pe_int) (pg_sub (pv 0) pe_int set_list))
      (pss_one (ps_asg (pe_ifExp (pt_cmpR op_ge (pv 2) (pe_op op_pow pe_int pe_int) (nomark _)) (pv 2) pe_int) (pg_sub (pv 0) pe_int set_list)))))
      pss_nil) ptl), ?_⟩
  refine ⟨_, rfl, _, _, _, _, rfl, rfl, SqL.of S.o, at2, _, _, rfl, rfl, _, rfl, _, _, _, _, rfl, rfl, S.o, rfl, ?_⟩
  have S1 : StrmAt (upd H l (.lst [.ref ls, .int g, .int (k + 1), .int m])) l ls cs g (k + 1) m (N + 1) :=
    ⟨upd_same, by rw [upd_ne S.ne]; exact S.c, S.ne, S.g0, by have := S.k0; omega, by have := S.k1; omega, S.m0, S.m1, S.sz⟩
  have B1 : But l ls H (upd H l (.lst [.ref ls, .int g, .int (k + 1), .int m])) := But.upd (.inl rfl)
  refine ⟨_, rfl, _, _, _, _, rfl, rfl, SqL.of S1.o, at1, rfl, _, rfl, ite2 (fun e => ?_) (fun e => ?_)⟩
  · refine ⟨_, rfl, _, _, _, _, rfl, rfl, SqL.of S1.o, at0, Nat.zero_le _, fun q nq => ?_⟩
    have ql : q ≠ l := by
      intro z; rw [z, upd_same] at nq; cases nq
    have qs : q ≠ ls := by
      intro z; rw [z, upd_ne S.ne] at nq; rw [S.c] at nq; cases nq
    have S2 : StrmAt (upd (upd H l (.lst [.ref ls, .int g, .int (k + 1), .int m])) q (.lst [])) l ls cs g (k + 1) m (N + 1) :=
      ⟨by rw [upd_ne (Ne.symm ql)]; exact S1.o, by rw [upd_ne (Ne.symm qs)]; exact S1.c, S.ne, S1.g0, S1.k0, S1.k1, S1.m0, S1.m1, S1.sz⟩
    have B2 : But l ls H (upd (upd H l (.lst [.ref ls, .int g, .int (k + 1), .int m])) q (.lst [])) := B1.trans (But.of fun b o eb => by
      rw [upd_ne (ne_of_none eb nq)]; exact eb)
    refine ⟨.list (cs.map .int), .list [], .lst (SqL.of S2.c) (dp_ints cs), .lst (SqL.of upd_same) .nil, PySem.W.shaped_ints cs, by decide, ?_⟩
    cases cs with
    | nil =>
      refine ⟨_, rfl, iteF ?_⟩
      exact htl _ none [] g (k + 1) m S2 B2
    | cons c cs =>
      refine ⟨_, rfl, iteT ?_⟩
      refine ⟨_, rfl, _, _, _, _, rfl, rfl, SqL.of S2.o, at0, .inl ⟨rfl, _, SqL.of S2.c⟩, ?_⟩
      have ix0 : ixN ((c :: cs).map V.int).length 0 = some 0 := by
        simp [ixN]
      refine ⟨ls, _, 0, 0, .int c, rfl, rfl, S2.c, by decide, by decide, (ixN_seq ix0).1, rfl, ?_⟩
      have S3 : StrmAt (upd (upd (upd H l (.lst [.ref ls, .int g, .int (k + 1), .int m])) q (.lst [])) ls (.lst (cs.map V.int))) l ls cs g (k + 1) m (N + 1) :=
        ⟨by rw [upd_ne (Ne.symm S.ne)]; exact S2.o, upd_same, S.ne, S2.g0, S2.k0, S2.k1, S2.m0, S2.m1, by have := S2.sz; simp only [List.length_cons] at this; omega⟩
      have B3 := B2.trans (But.upd (l := l) (ls := ls) (a := ls) (H := upd (upd H l (.lst [.ref ls, .int g, .int (k + 1), .int m])) q (.lst [])) (o := .lst (cs.map V.int)) (.inr rfl))
      have hm0 := S.m0
      have hm1 := S.m1
      refine ⟨_, rfl, _, _, _, _, rfl, rfl, SqL.of S3.o, at3, _, _, rfl, rfl, .inl ⟨by omega, by omega⟩, _, rfl, _, _, rfl, rfl, _, _, rfl, rfl, .inl ⟨_, rfl, _, _, rfl, rfl, (by show (0 : Int) < 2147483647; decide), ?_⟩⟩
      refine ⟨_, rfl, _, _, _, _, rfl, rfl, S3.o, rfl, ?_⟩
      have S4 : StrmAt (upd (upd (upd (upd H l (.lst [.ref ls, .int g, .int (k + 1), .int m])) q (.lst [])) ls (.lst (cs.map V.int))) l (.lst [.ref ls, .int g, .int (k + 1), .int ((m * 8191 + c + 3) % 2147483647)])) l ls cs g (k + 1) ((m * 8191 + c + 3) % 2147483647) (N + 1) :=
        ⟨upd_same, by rw [upd_ne S.ne]; exact S3.c, S.ne, S3.g0, S3.k0, S3.k1, Int.emod_nonneg _ (by decide), Int.emod_lt_of_pos _ (by decide), S3.sz⟩
      have B4 := B3.trans (But.upd (l := l) (ls := ls) (a := l) (o := .lst [.ref ls, .int g, .int (k + 1), .int ((m * 8191 + c + 3) % 2147483647)]) (.inl rfl))
      refine ⟨_, rfl, _, _, rfl, rfl, ⟨by decide, by decide, by decide⟩, _, _, rfl, rfl, _, rfl, ite2 (fun e4 => ?_) (fun e4 => ?_)⟩
      · refine ⟨_, rfl, _, rfl, _, _, _, _, rfl, rfl, S4.o, rfl, ?_⟩
        have hc : (0 : Int) ≤ c := by
          have z := of_decide_eq_true e4
          have z2 : (0 : Int) ≤ 10 ^ (Int.toNat 18) := Int.pow_nonneg (by decide)
          omega
        exact htl _ (some (.int c)) cs c (k + 1) ((m * 8191 + c + 3) % 2147483647)
          ⟨upd_same, by rw [upd_ne S.ne]; exact S4.c, S.ne, hc, S4.k0, S4.k1, S4.m0, S4.m1, S4.sz⟩ (B4.trans (But.upd (.inl rfl)))
      · refine ⟨_, rfl, _, _, _, _, rfl, rfl, S4.o, rfl, ?_⟩
        exact htl _ (some (.int c)) cs 0 (k + 1) ((m * 8191 + c + 3) % 2147483647)
          ⟨upd_same, by rw [upd_ne S.ne]; exact S4.c, S.ne, by decide, S4.k0, S4.k1, S4.m0, S4.m1, S4.sz⟩ (B4.trans (But.upd (.inl rfl)))
  · refine iteF ?_
    exact htl _ none cs g (k + 1) m S1 B1
def spStart (K : PySem.W.Frag) : Sp := fun vs H Q _ => ∃ (a : Addr) (ns : List Int), vs = [.ref a] ∧ SqL K H a (ns.map V.int) ∧ ns.length ≤ 100 ∧
  ∀ H' l ls, H l = none → Same H H' → Strm H' l ls 0 → H ls = none → Q (.ref l) H'
theorem scStart : FnScope ["script"] ["script"] (defScope sStart) := ⟨rfl, rfl, rfl, by decide +kernel, rfl, by decide +kernel, by decide +kernel⟩
theorem ok_start (F : Fun K "_law_start" "_law_start" sStart f fd) (gL : mg "list" = none) : FnOk P w K mg base CX0 1 f fd ["script"] (spStart K) := by
  refine F.ok scStart (fun vs H Q E h => by obtain ⟨a, ns, e, _⟩ := h; rw [e]; rfl) fun cdv A outer s H vs Q E hr hsp => ?_
  obtain ⟨a, ns, rfl, hS, hn, hq⟩ := hsp
  refine ⟨_, pss_one (ps_ret (pe_lst (pa_cons (pe_callTy call_list_of rfl gL (by decide +kernel) (pa_cons (pv 0) pa_nil)) (pa_cons pe_int (pa_cons pe_int (pa_cons pe_int pa_nil)))))), ?_⟩
  refine ⟨_, rfl, _, _, rfl, .inl hS, fun ls hls => ⟨by rw [sizeLine_eq]; show 4 ≤ _; omega, fun l hl => ?_⟩⟩
  have ne : ls ≠ l := by
    intro z; rw [← z, upd_same] at hl; cases hl
  have hl2 : H l = none := by rw [upd_ne (Ne.symm ne)] at hl; exact hl
  exact hq _ l ls hl2 (fun b o e => by rw [upd_ne (ne_of_none e hl2), upd_ne (ne_of_none e hls)]; exact e)
    ⟨ns, 0, 0, 11, ⟨upd_same, by rw [upd_ne ne, upd_same], ne, by decide, by decide, by decide, by decide, by decide, hn⟩⟩ hls
def spPick (K : PySem.W.Frag) : Sp := fun vs H Q _ => ∃ (l ls c : Addr) (xs : List V) (N : Int), vs = [.ref l, .ref c] ∧ Strm H l ls N ∧ N ≤ 1000000 ∧
  c ≠ l ∧ c ≠ ls ∧ H c = some (.lst xs) ∧ 0 < xs.length ∧ xs.length < 1000 ∧
  ∀ H' x, x ∈ xs → Strm H' l ls (N + 1) → But l ls H H' → Q x H'
theorem scPick : FnScope ["stream", "some"] ["stream", "some"] (defScope sPick) := ⟨rfl, rfl, rfl, by decide +kernel, rfl, by decide +kernel, by decide +kernel⟩
theorem ok_pick {fD : Addr} {fdD : FuncData} (F : Fun K "_law_pick" "_law_pick" sPick f fd) (FD : Fun K "_law_draw" "_law_draw" sDraw fD fdD)
    (gD : mg "_law_draw" = some (.ref fD)) (gI : mg "int" = none) (gN : mg "len" = none) : FnOk P w K mg base CX0 2 f fd ["stream", "some"] (spPick K) := by
  have G : FnOk P w K mg base CX0 1 fD fdD ["stream", "many"] spDraw := ok_draw FD gI
  have b := FD.binds (ps := ["stream", "many"]) fun _ _ _ _ _ _ us hl => match us, hl with | [_, _], _ => rfl
  refine F.ok scPick (fun vs H Q E h => by obtain ⟨l, ls, c, xs, N, e, _⟩ := h; rw [e]; rfl) fun cdv A outer s H vs Q E hr hsp => ?_
  obtain ⟨l, ls, c, xs, N, rfl, hS, hN, n1, n2, hc, h0, h1, hq⟩ := hsp
  refine ⟨_, pss_one (ps_ret (pe_ix ix_list (pv 1) (pe_call G hr rfl gD FD.kp b .nil pass0 (pa_cons (pv 0) (pa_cons (pe_callB call_len rfl gN boot_len (pa_cons (pv 1) pa_nil)) pa_nil))) (fun _ _ => rfl))), ?_⟩
  refine ⟨_, rfl, _, rfl, _, rfl, _, xs.length, rfl, .inl ⟨_, SqL.of hc, rfl⟩, ?_⟩
  refine ⟨l, ls, _, N, rfl, hS, hN, by omega, by omega, fun H' r r0 r1 S' B' => ?_⟩
  have hr2 : r.toNat < xs.length := by omega
  refine ⟨_, _, _, xs[r.toNat], rfl, rfl, SqL.of (B' c _ n1 n2 hc), ?_, hq H' _ (List.getElem_mem _) S' B'⟩
  have e : ((r.toNat : Nat) : Int) = r := by omega
  have z := atI_nat (xs := xs) (j := r.toNat) (v := xs[r.toNat]) (by simp)
  rw [e] at z
  exact z
end
end L2.TB
namespace L2.TB
open PySem PySem.Spec PyProof.Rows
theorem same_new {H : Hp} {p : Addr} {o : HO} (n : H p = none) : Same H (upd H p o) := fun c u z => by rw [upd_ne (ne_of_none z n)]; exact z
theorem Strm.same {H H' : Hp} {l ls : Addr} {N : Int} (h : Strm H l ls N) (s : Same H H') : Strm H' l ls N := by
  obtain ⟨cs, g, k, m, S⟩ := h
  exact ⟨cs, g, k, m, s _ _ S.o, s _ _ S.c, S.ne, S.g0, S.k0, S.k1, S.m0, S.m1, S.sz⟩
theorem Strm.some {H : Hp} {l ls : Addr} {N : Int} (h : Strm H l ls N) : (∃ o, H l = some o) ∧ ∃ o, H ls = some o := by
  obtain ⟨cs, g, k, m, S⟩ := h
  exact ⟨⟨_, S.o⟩, ⟨_, S.c⟩⟩
/-- what was not there is not the spring -/
theorem Strm.apart {H H' : Hp} {l ls p : Addr} {N : Int} (h : Strm H l ls N) (s : Same H H') (n : H' p = none) : p ≠ l ∧ p ≠ ls := by
  obtain ⟨⟨o, e⟩, ⟨o', e'⟩⟩ := h.some
  exact ⟨(fun z => by rw [z, s _ _ e] at n; cases n), (fun z => by rw [z, s _ _ e'] at n; cases n)⟩
def spPickS : Sp := fun vs H Q _ => ∃ (l ls : Addr) (x : Str) (N : Int), vs = [.ref l, .str x] ∧ Strm H l ls N ∧ N ≤ 1000000 ∧ 0 < x.cps.size ∧ x.cps.size < 1000 ∧
  ∀ H' c, c ∈ x.cps.toList → Strm H' l ls (N + 1) → But l ls H H' → Q (.str ⟨#[c]⟩) H'
/-- a mixed list: what was in it, in some order -/
def spMixed (K : PySem.W.Frag) : Sp := fun vs H Q _ => ∃ (l ls c : Addr) (xs : List V) (N : Int), vs = [.ref l, .ref c] ∧ Strm H l ls N ∧ N ≤ 900000 ∧ SqL K H c xs ∧ xs.length < 1000 ∧
  ∀ H' q ys, ys.Perm xs → H q = none → H' q = some (.lst ys) → Strm H' l ls (N + xs.length) → But l ls H H' → Q (.ref q) H'
theorem scMixed : FnScope ["stream", "some", "left", "k"] ["stream", "some"] (defScope sMixed) := ⟨rfl, rfl, rfl, by decide +kernel, rfl, by decide +kernel, by decide +kernel⟩
theorem pop_perm : ∀ (l : List V) (k : Nat) (y : V), l[k]? = some y → (y :: l.eraseIdx k).Perm l
  | [], k, y, h => by simp at h
  | a :: l, 0, y, h => by
    obtain rfl : a = y := by simpa using h
    exact List.Perm.refl _
  | a :: l, k + 1, y, h => by
    have z := pop_perm l k y (by simpa using h)
    exact (List.Perm.swap a y _).trans (z.cons a)
section
variable {P : Program} {w : World} {K : PySem.W.Frag} {mg : Str → Option Value} {base : Heap} {f fD fP fM : Addr} {fd fdD fdP fdM : FuncData}
theorem ok_pickS (F : Fun K "_law_pick" "_law_pick" sPick f fd) (FD : Fun K "_law_draw" "_law_draw" sDraw fD fdD)
    (gD : mg "_law_draw" = some (.ref fD)) (gI : mg "int" = none) (gN : mg "len" = none) : FnOk P w K mg base CX0 2 f fd ["stream", "some"] spPickS := by
  have G : FnOk P w K mg base CX0 1 fD fdD ["stream", "many"] spDraw := ok_draw FD gI
  have b := FD.binds (ps := ["stream", "many"]) fun _ _ _ _ _ _ us hl => match us, hl with | [_, _], _ => rfl
  refine F.ok scPick (fun vs H Q E h => by obtain ⟨l, ls, x, N, e, _⟩ := h; rw [e]; rfl) fun cdv A outer s H vs Q E hr hsp => ?_
  obtain ⟨l, ls, x, N, rfl, hS, hN, h0, h1, hq⟩ := hsp
  refine ⟨_, pss_one (ps_ret (pe_ix ix_str (pv 1) (pe_call G hr rfl gD FD.kp b .nil pass0 (pa_cons (pv 0) (pa_cons (pe_callB call_len rfl gN boot_len (pa_cons (pv 1) pa_nil)) pa_nil))) (fun _ _ => rfl))), ?_⟩
  have hz : x.length ≤ sizeLine := by rw [sizeLine_eq]; show x.cps.size ≤ _; omega
  have hl : ((x.length : Nat) : Int) = (x.cps.size : Int) := rfl
  refine ⟨_, rfl, _, rfl, _, rfl, _, x.length, rfl, ⟨hz, rfl⟩, ?_⟩
  refine ⟨l, ls, _, N, rfl, hS, hN, by omega, by omega, fun H' r r0 r1 S' B' => ?_⟩
  have hr2 : r.toNat < x.cps.toList.length := by rw [Array.length_toList]; omega
  refine ⟨x, r, x.cps.toList[r.toNat], rfl, rfl, hz, ?_, hq H' _ (List.getElem_mem _) S' B'⟩
  have e : ((r.toNat : Nat) : Int) = r := by omega
  have z := atI_nat (xs := x.cps.toList) (j := r.toNat) (v := x.cps.toList[r.toNat]) (by simp)
  rw [e] at z
  exact z
theorem ok_mixed (F : Fun K "_law_mixed" "_law_mixed" sMixed f fd) (FD : Fun K "_law_draw" "_law_draw" sDraw fD fdD)
    (gD : mg "_law_draw" = some (.ref fD)) (gI : mg "int" = none) (gN : mg "len" = none) (gL : mg "list" = none) (gR : mg "range" = none) : FnOk P w K mg base CX0 2 f fd ["stream", "some"] (spMixed K) := by
  have G : FnOk P w K mg base CX0 1 fD fdD ["stream", "many"] spDraw := ok_draw FD gI
  have b := FD.binds (ps := ["stream", "many"]) fun _ _ _ _ _ _ us hl => match us, hl with | [_, _], _ => rfl
  refine F.ok scMixed (fun vs H Q E h => by obtain ⟨l, ls, c, xs, N, e, _⟩ := h; rw [e]; rfl) fun cdv A outer s H vs Q E hr hsp => ?_
  obtain ⟨l, ls, c, xs, N, rfl, hS, hN, hc, h1, hq⟩ := hsp
  have nd := scMixed.nd
  refine ⟨_, pss_cons (ps_set (i := 2) nd rfl (Or.inr rfl) (pe_callTy call_list_of rfl gL (by decide +kernel) (pa_cons (pv 1) pa_nil)))
    (pss_one (ps_ret (pe_lc (own := [("k", 3)]) (tt := tYes) (te := tBM K "list" rPopAt (tVar 2) (tCons (tCall spDraw [] E0 (tCons (tVar 0) (tCons (tCB (rLen K) (tCons (tVar 2) tNil)) tNil))) tNil)) rfl nd (pi_range1 rfl gR (pa_cons (pe_callB call_len rfl gN boot_len (pa_cons (pv 2) pa_nil)) pa_nil)) (blkOk_by (N := ["stream", "some", "left", "k"]) (sc := defScope sMixed) (by decide +kernel))
      (fun _ _ _ _ _ => pg_name (i := 3) nd rfl (Or.inl rfl)) (fun _ _ _ _ _ => pts_nil)
      (fun _ _ _ _ _ => pe_bm PySem.F.plainAttrs_list PySem.F.slot_list_pop PySem.F.type_list_pop mt_popAt (pv 2) (pa_cons (pe_call G hr rfl gD FD.kp b .nil pass0 (pa_cons (pv 0) (pa_cons (pe_callB call_len rfl gN boot_len (pa_cons (pv 2) pa_nil)) pa_nil))) pa_nil))))), ?_⟩
  refine ⟨_, rfl, c, xs, rfl, .inl hc, fun p np => ?_⟩
  have kp := same_new (o := .lst xs) np
  have ap := hS.apart (Same.refl _) np
  refine ⟨_, rfl, .ref p, xs.length, rfl, .inl ⟨_, SqL.of upd_same, rfl⟩, _, rfl, by omega, by omega, fun q nq => ?_⟩
  have aq := hS.apart kp nq
  have pq : p ≠ q := fun z => by rw [← z, upd_same] at nq; cases nq
  have nq0 : H q = none := Same.free kp nq
  refine lc_range (n := xs.length) (fun i H' => ∃ done rest, H' q = some (.lst done) ∧ H' p = some (.lst rest) ∧ done.length = i ∧ (done ++ rest).Perm xs ∧ Strm H' l ls (N + i) ∧ But l ls H H')
    ⟨[], xs, upd_same, by rw [upd_ne pq]; exact upd_same, rfl, List.Perm.refl _, by simpa using ((hS.same kp).same (same_new nq)), But.of (kp.trans (same_new nq))⟩ ?_ ?_
  · rintro i H3 hi ⟨done, rest, oq, op, ln, pm, S3, B3⟩
    have hlen : done.length + rest.length = xs.length := by rw [← pm.length_eq, List.length_append]
    refine ⟨rfl, ?_⟩
    refine ⟨_, rfl, .inl ⟨rfl, _, SqL.of op⟩, _, rfl, _, rfl, .ref p, rest.length, rfl, .inl ⟨_, SqL.of op, rfl⟩, ?_⟩
    refine ⟨l, ls, _, _, rfl, S3, by omega, by omega, by omega, fun H4 r r0 r1 S4 B4 => ?_⟩
    have hr2 : r.toNat < rest.length := by omega
    have er : ((r.toNat : Nat) : Int) = r := by omega
    have ix0 : ixN rest.length r = some r.toNat := by
      unfold ixN
      rw [if_pos r0, if_pos r1]
    refine ⟨p, rest, r, r.toNat, rest[r.toNat], rfl, rfl, B4 _ _ ap.1 ap.2 op, by omega, by omega, (ixN_seq ix0).1, by simp, done, ?_, (by rw [sizeLine_eq]; omega), done ++ [rest[r.toNat]], rest.eraseIdx r.toNat, upd_same, ?_, by simp [ln], ?_, ?_, ?_⟩
    · rw [upd_ne (Ne.symm pq)]; exact B4 _ _ aq.1 aq.2 oq
    · rw [upd_ne pq, upd_same]
    · have z := pop_perm rest r.toNat rest[r.toNat] (by simp)
      rw [List.append_assoc]
      exact (List.Perm.append_left done z).trans pm
    · obtain ⟨cs, g, k, m, S⟩ := S4
      have e1 : N + ((i + 1 : Nat) : Int) = N + (i : Int) + 1 := by omega
      rw [e1]
      exact ⟨cs, g, k, m, by rw [upd_ne (Ne.symm aq.1), upd_ne (Ne.symm ap.1)]; exact S.o, by rw [upd_ne (Ne.symm aq.2), upd_ne (Ne.symm ap.2)]; exact S.c, S.ne, S.g0, S.k0, S.k1, S.m0, S.m1, S.sz⟩
    · intro b o h1 h2 e
      have nb : b ≠ q := ne_of_none e nq0
      have nb2 : b ≠ p := ne_of_none e np
      rw [upd_ne nb, upd_ne nb2]
      exact B4 _ _ h1 h2 (B3 _ _ h1 h2 e)
  · rintro H3 ⟨done, rest, oq, op, ln, pm, S3, B3⟩
    have hlen : done.length + rest.length = xs.length := by rw [← pm.length_eq, List.length_append]
    have er : rest = [] := List.eq_nil_of_length_eq_zero (by omega)
    subst er
    rw [List.append_nil] at pm
    exact hq H3 q done pm nq0 oq S3 B3
end
end L2.TB
namespace L2.TB
open PySem PySem.Spec PyProof.Rows
theorem Strm.mono {H : Hp} {l ls : Addr} {N M : Int} (h : Strm H l ls N) (le : N ≤ M) : Strm H l ls M := by
  obtain ⟨cs, g, k, m, S⟩ := h
  exact ⟨cs, g, k, m, S.o, S.c, S.ne, S.g0, S.k0, by have := S.k1; omega, S.m0, S.m1, S.sz⟩
end L2.TB
namespace L2.TB
open PySem PySem.Spec PyProof.Rows
def signsL : List Nat := (Str.ofString "abcdefghijklmnopqrstuvwxyz0123456789.").cps.toList
/-- a name that is_name lets pass -/
def NmOk (x : Str) : Prop := 1 ≤ x.cps.toList.length ∧ x.cps.toList.length ≤ 40 ∧ ∀ c ∈ x.cps.toList, c ∈ signsL
def wordL : List Nat := (Str.ofString "abcdefghijklmnopqrstuvwxyz").cps.toList
def letL : List Nat := (Str.ofString "abcdefghijklmnop").cps.toList
/-- a name as the law draws it -/
def NmS (x : Str) : Prop := NmOk x ∧ x.cps.toList.length ≤ 8 ∧ ∀ c ∈ x.cps.toList, c ∈ wordL
theorem word_sub : ∀ c ∈ wordL, c ∈ signsL := by decide +kernel
theorem let_sub : ∀ c ∈ letL, c ∈ signsL := by decide +kernel
theorem join_flat : ∀ cs : List Nat, TL.joinL [] (cs.map fun c => [c]) = cs
  | [] => rfl
  | [c] => rfl
  | c :: d :: r => by
    show [c] ++ ([] ++ TL.joinL [] ((d :: r).map fun c => [c])) = _
    rw [join_flat (d :: r)]; rfl
theorem join_cps (cs : List Nat) : (Txt.join (Str.ofString "") (cs.map fun c => (⟨#[c]⟩ : Str))).cps.toList = cs := by
  rw [TL.join_eq]
  have e := TL.tl_join (Str.ofString "") (cs.map fun c => (⟨#[c]⟩ : Str))
  have e2 : (cs.map fun c => (⟨#[c]⟩ : Str)).map TL.tl = cs.map fun c => [c] := by rw [List.map_map]; rfl
  have e3 : TL.tl (Str.ofString "") = [] := by decide +kernel
  rw [e2, e3, join_flat] at e
  exact e
/-- the spare names: a letter, j and q -/
def spare (c : Nat) : Str := (⟨#[c]⟩ : Str) ++ Str.ofString "jq"
theorem spare_ok : ∀ c ∈ letL, NmS (spare c) := by
  unfold NmS NmOk
  decide +kernel
theorem spare_nd : (letL.map spare).Nodup := by decide +kernel
theorem str_inj (a b : Str) : eqV (.str a) (.str b) = decide (a = b) := by
  show (a == b) = _
  by_cases h : a = b
  · subst h; simp
  · rw [decide_eq_false h]; simpa using h
theorem inV_strs (x : Str) : ∀ xs : List Str, inV (.str x) (xs.map V.str) = decide (x ∈ xs)
  | [] => by simp [inV]
  | a :: xs => by
    have e := inV_strs x xs
    unfold inV at e ⊢
    rw [List.map_cons, List.any_cons, e, str_inj]
    by_cases h : a = x
    · subst h; simp
    · by_cases h2 : x ∈ xs
      · simp [h2]
      · simp [h, h2, Ne.symm h]
theorem flat_strs (xs : List Str) : (xs.map V.str).all flatV = true := by
  rw [List.all_map]; exact List.all_eq_true.mpr fun _ _ => rfl
/-- some spare name is not among the found ones -/
theorem spare_left (w : Str) (found : List Str) (h : found.length < 16) : ((w :: letL.map spare).filter fun x => decide (x ∉ found)) ≠ [] := by
  intro e
  have sub : ∀ x ∈ letL.map spare, x ∈ found := fun x hx => by
    by_cases h2 : x ∈ found
    · exact h2
    · have z : x ∈ (w :: letL.map spare).filter fun x => decide (x ∉ found) := List.mem_filter.mpr ⟨List.mem_cons_of_mem _ hx, by simp [h2]⟩
      rw [e] at z; cases z
  have le := List.Nodup.length_le_of_subset spare_nd (fun x hx => sub x hx)
  have e26 : (letL.map spare).length = 16 := by decide +kernel
  omega
def spNameL : Sp := fun vs H Q _ => ∃ (l ls : Addr) (N : Int), vs = [.ref l] ∧ Strm H l ls N ∧ N ≤ 990000 ∧ ∀ H' x, NmS x → Strm H' l ls (N + 9) → But l ls H H' → Q (.str x) H'
abbrev NNm : List Str := ["stream", "width", "k"]
theorem scNameL : FnScope NNm ["stream"] (defScope sNameL) := ⟨rfl, rfl, rfl, by decide +kernel, rfl, by decide +kernel, by decide +kernel⟩
theorem width_at {r : Int} (h0 : 0 ≤ r) (h1 : r < 6) : ∃ wd : Int, atI [V.int 1, .int 1, .int 2, .int 3, .int 5, .int 8] r = some (.int wd) ∧ 1 ≤ wd ∧ wd ≤ 8 := by
  have c : r = 0 ∨ r = 1 ∨ r = 2 ∨ r = 3 ∨ r = 4 ∨ r = 5 := by omega
  rcases c with rfl | rfl | rfl | rfl | rfl | rfl
  · exact ⟨1, rfl, by decide, by decide⟩
  · exact ⟨1, rfl, by decide, by decide⟩
  · exact ⟨2, rfl, by decide, by decide⟩
  · exact ⟨3, rfl, by decide, by decide⟩
  · exact ⟨5, rfl, by decide, by decide⟩
  · exact ⟨8, rfl, by decide, by decide⟩
section
variable {P : Program} {w : World} {K : PySem.W.Frag} {mg : Str → Option Value} {base : Heap} {f fD fP fM : Addr} {fd fdD fdP fdM : FuncData}
theorem ok_nameL (F : Fun K "_law_name" "_law_name" sNameL f fd) (FP : Fun K "_law_pick" "_law_pick" sPick fP fdP) (gP : mg "_law_pick" = some (.ref fP)) (FD : Fun K "_law_draw" "_law_draw" sDraw fD fdD)
    (gD : mg "_law_draw" = some (.ref fD)) (gI : mg "int" = none) (gN : mg "len" = none) (gR : mg "range" = none) : FnOk P w K mg base CX0 3 f fd ["stream"] spNameL := by
  have G : FnOk P w K mg base CX0 1 fD fdD ["stream", "many"] spDraw := ok_draw FD gI
  have b := FD.binds (ps := ["stream", "many"]) fun _ _ _ _ _ _ us hl => match us, hl with | [_, _], _ => rfl
  have GP : FnOk P w K mg base CX0 2 fP fdP ["stream", "some"] spPickS := ok_pickS FP FD gD gI gN
  have bP := FP.binds (ps := ["stream", "some"]) fun _ _ _ _ _ _ us hl => match us, hl with | [_, _], _ => rfl
  refine F.ok scNameL (fun vs H Q E h => by obtain ⟨l, ls, N, e, _⟩ := h; rw [e]; rfl) fun cdv A outer s H vs Q E hr hsp => ?_
  obtain ⟨l, ls, N, rfl, hS, hN, hq⟩ := hsp
  have nd := scNameL.nd
  refine ⟨_, pss_cons (ps_set (i := 1) nd rfl (Or.inl rfl) (pe_ix ix_list (pe_lst (pa_cons pe_int (pa_cons pe_int (pa_cons pe_int (pa_cons pe_int (pa_cons pe_int (pa_cons pe_int pa_nil))))))) (pe_call G (hr.mono (by decide)) rfl gD FD.kp b .nil pass0 (pa_cons (pv 0) (pa_cons pe_int pa_nil))) (fun _ _ => rfl)))
    (pss_one (ps_ret (pe_join pe_str (pe_lc (own := [("k", 2)]) (tt := tYes) rfl nd (pi_range1 rfl gR (pa_cons (pv 1) pa_nil)) (blkOk_by (N := NNm) (sc := defScope sNameL) (by decide +kernel)) (fun _ _ _ _ _ => pg_name (i := 2) nd rfl (Or.inl rfl)) (fun _ _ _ _ _ => pts_nil) (fun _ _ _ _ _ => pe_call GP hr rfl gP FP.kp bP .nil pass0 (pa_cons (pv 0) (pa_cons pe_str pa_nil))))))), ?_⟩
  refine ⟨(by show 6 ≤ sizeLine; decide), fun D1 n1 => ?_⟩
  have kd := same_new (o := .lst [.int 1, .int 1, .int 2, .int 3, .int 5, .int 8]) n1
  have od : upd H D1 (.lst [.int 1, .int 1, .int 2, .int 3, .int 5, .int 8]) D1 = _ := upd_same
  have ad := hS.apart (Same.refl _) n1
  generalize upd H D1 (.lst [.int 1, .int 1, .int 2, .int 3, .int 5, .int 8]) = H1 at kd od ⊢
  refine ⟨_, rfl, l, ls, 6, _, rfl, hS.same kd, by omega, by decide, by decide, fun H2 r r0 r1 S2 B2 => ?_⟩
  obtain ⟨wd, ew, w0, w1⟩ := width_at r0 r1
  refine ⟨D1, _, r, _, rfl, rfl, SqL.of (B2 _ _ ad.1 ad.2 od), ew, ?_⟩
  have B02 : But l ls H H2 := (But.of kd).trans B2
  refine ⟨⟨_, rfl⟩, _, rfl, wd, rfl, by omega, by omega, fun D nD => ?_⟩
  have aD := S2.apart (Same.refl _) nD
  refine lc_range (n := wd.toNat) (fun j H' => ∃ cs : List Nat, H' D = some (.lst (cs.map fun c => V.str ⟨#[c]⟩)) ∧ cs.length = j ∧ (∀ c ∈ cs, c ∈ wordL) ∧ Strm H' l ls (N + 1 + j) ∧ But l ls H2 H')
    ⟨[], upd_same, rfl, fun c hc => by simp at hc, by simpa using S2.same (same_new nD), But.of (same_new nD)⟩ ?_ ?_
  · rintro j H3 hj ⟨cs, oD, lc, cok, S3, B3⟩
    refine ⟨rfl, ?_⟩
    refine ⟨_, rfl, l, ls, _, _, rfl, S3, by omega, by decide +kernel, by decide +kernel, fun H4 c hc S4 B4 => ?_⟩
    have oD4 := B4 _ _ aD.1 aD.2 oD
    refine ⟨_, oD4, (by rw [sizeLine_eq, List.length_map]; omega), cs ++ [c], by rw [upd_same]; simp, by simp [lc], ?_, ?_, ?_⟩
    · intro d hd
      rcases List.mem_append.mp hd with h | h
      · exact cok d h
      · obtain rfl : d = c := by simpa using h
        exact hc
    · obtain ⟨cs', g, k, m, S⟩ := S4
      exact Strm.mono ⟨cs', g, k, m, by rw [upd_ne (Ne.symm aD.1)]; exact S.o, by rw [upd_ne (Ne.symm aD.2)]; exact S.c, S.ne, S.g0, S.k0, S.k1, S.m0, S.m1, S.sz⟩ (by omega)
    · intro b o h1 h2 e
      have nb : b ≠ D := ne_of_none e nD
      rw [upd_ne nb]
      exact B4 _ _ h1 h2 (B3 _ _ h1 h2 e)
  · rintro H3 ⟨cs, oD, lc, cok, S3, B3⟩
    have lc3 : 1 ≤ cs.length ∧ cs.length ≤ 8 := by omega
    have em : (cs.map fun c => V.str ⟨#[c]⟩) = (cs.map fun c => (⟨#[c]⟩ : Str)).map V.str := by rw [List.map_map]; rfl
    rw [em] at oD
    have sums : ∀ l : List Nat, ((l.map fun c => (⟨#[c]⟩ : Str)).map (·.length)).sum = l.length := fun l => by
      induction l with
      | nil => rfl
      | cons a l ih => rw [List.map_cons, List.map_cons, List.sum_cons, ih, List.length_cons]; show 1 + _ = _; omega
    refine ⟨_, D, _, rfl, rfl, .inl (SqL.of oD), ?_, ?_⟩
    · rw [sums, List.length_map]; show cs.length + cs.length * 0 ≤ _; omega
    have hw : (Txt.join (Str.ofString "") (cs.map fun c => (⟨#[c]⟩ : Str))).cps.toList = cs := join_cps cs
    generalize Txt.join (Str.ofString "") (cs.map fun c => (⟨#[c]⟩ : Str)) = wd at hw
    refine hq H3 wd ?_ (S3.mono (by omega)) (B02.trans B3)
    unfold NmS NmOk
    rw [hw]
    exact ⟨⟨lc3.1, by omega, fun c hc => word_sub c (cok c hc)⟩, by omega, cok⟩
end
end L2.TB
namespace L2.TB
open PySem PySem.Spec PyProof.Rows
def spNames : Sp := fun vs H Q _ => ∃ (l ls : Addr) (many N : Int), vs = [.ref l, .int many] ∧ Strm H l ls N ∧ N ≤ 900000 ∧ 0 ≤ many ∧ many ≤ 12 ∧
  ∀ H' q (ns : List Str), (ns.length : Int) = many → ns.Nodup → (∀ x ∈ ns, NmS x) → H q = none → H' q = some (.lst (ns.map V.str)) → Strm H' l ls (N + 9 * many) → But l ls H H' → Q (.ref q) H'
abbrev NN : List Str := ["stream", "many", "found", "k", "spare", "letter", "x"]
theorem scNames : FnScope NN ["stream", "many"] (defScope sNamesL) := ⟨rfl, rfl, rfl, by decide +kernel, rfl, by decide +kernel, by decide +kernel⟩
section
variable {P : Program} {w : World} {K : PySem.W.Frag} {mg : Str → Option Value} {base : Heap} {f fD fP fM fW : Addr} {fd fdD fdP fdM fdW : FuncData}
theorem ok_names (F : Fun K "_law_names" "_law_names" sNamesL f fd) (FW : Fun K "_law_name" "_law_name" sNameL fW fdW) (gW : mg "_law_name" = some (.ref fW)) (FP : Fun K "_law_pick" "_law_pick" sPick fP fdP) (gP : mg "_law_pick" = some (.ref fP)) (FD : Fun K "_law_draw" "_law_draw" sDraw fD fdD)
    (gD : mg "_law_draw" = some (.ref fD)) (gI : mg "int" = none) (gN : mg "len" = none) (gR : mg "range" = none) : FnOk P w K mg base CX0 4 f fd ["stream", "many"] spNames := by
  have GW : FnOk P w K mg base CX0 3 fW fdW ["stream"] spNameL := ok_nameL FW FP gP FD gD gI gN gR
  have bW := FW.binds (ps := ["stream"]) fun _ _ _ _ _ _ us hl => match us, hl with | [_], _ => rfl
  refine F.ok scNames (fun vs H Q E h => by obtain ⟨l, ls, many, N, e, _⟩ := h; rw [e]; rfl) fun cdv A outer s H vs Q E hr hsp => ?_
  obtain ⟨l, ls, many, N, rfl, hS, hN, h0, h1, hq⟩ := hsp
  have nd := scNames.nd
  refine ⟨_, pss_cons (ps_set (i := 2) nd rfl (Or.inr rfl) (pe_lst pa_nil))
    (pss_cons (ps_for PassesOwn.never rfl (pi_range1 rfl gR (pa_cons (pv 1) pa_nil)) (pg_name (i := 3) nd rfl (Or.inl rfl))
      (pss_cons (ps_set (i := 4) nd rfl (Or.inl rfl) (pe_op op_cat (pe_lst (pa_cons (pe_call GW hr rfl gW FW.kp bW .nil pass0 (pa_cons (pv 0) pa_nil)) pa_nil)) (pe_lc (own := [("letter", 5)]) (tt := tYes) rfl nd (pi_str pe_str) (blkOk_by (N := NN) (sc := defScope sNamesL) (by decide +kernel))
          (fun _ _ _ _ _ => pg_name (i := 5) nd rfl (Or.inl rfl)) (fun _ _ _ _ _ => pts_nil) (fun _ _ _ _ _ => pe_op op_add_str (pv 5) pe_str))))
      (pss_one (ps_expr (pe_bm PySem.F.plainAttrs_list PySem.F.slot_list_append PySem.F.type_list_append mt_append (pv 2) (pa_cons (pe_ix ix_list (pe_lc (own := [("x", 6)]) (tt := tTest (tOp (rIn K true) (tVar 6) (tVar 2))) rfl nd (pi_list (pv 4)) (blkOk_by (N := NN) (sc := defScope sNamesL) (by decide +kernel))
          (fun _ _ _ _ _ => pg_name (i := 6) nd rfl (Or.inl rfl)) (fun _ _ _ _ _ => pts_one (pt_cmpR op_notIn_seq (pv 6) (pv 2) rfl)) (fun _ _ _ _ _ => pv 6)) pe_int (fun _ _ => rfl)) pa_nil))))))
    (pss_one (ps_ret (pv 2)))), ?_⟩
  refine ⟨Nat.zero_le _, fun q nq => ?_⟩
  have aq := hS.apart (Same.refl _) nq
  refine ⟨_, rfl, many, rfl, by omega, by omega, for_range (n := many.toNat) (fun i σ H' => ∃ ns : List Str, H' q = some (.lst (ns.map V.str)) ∧ ns.length = i ∧ ns.Nodup ∧ (∀ x ∈ ns, NmS x) ∧ Strm H' l ls (N + 9 * i) ∧ But l ls H H' ∧
    ∃ s3 s4 s5 s6, σ = [some (.ref l), some (.int many), some (.ref q), s3, s4, s5, s6])
    ⟨[], upd_same, rfl, .nil, fun x hx => by simp at hx, by simpa using hS.same (same_new nq), But.of (same_new nq), _, _, _, _, rfl⟩ ?_ ?_⟩
  · rintro i σ H1 hi ⟨ns, oq, ln, nn, nok, S1, B1, s3, s4, s5, s6, rfl⟩
    have hi2 : (i : Int) < 12 := by omega
    -- the word
    refine ⟨_, rfl, l, ls, _, rfl, S1, by omega, fun H3 wd wok S3 B13 => ?_⟩
    have oq3 := B13 _ _ aq.1 aq.2 oq
    -- the spare names
    · refine ⟨(by rw [sizeLine_eq]; show 1 ≤ _; omega), fun a1 n1 => ?_⟩
      have k1 := same_new (o := .lst [.str wd]) n1
      have e26 : (Str.ofString "abcdefghijklmnop").cps.size = 16 := by decide +kernel
      have l26 : letL.length = 16 := by decide +kernel
      refine ⟨_, rfl, fun D2 nD2 => ⟨fun j m H' => m = 16 - j ∧ j ≤ 16 ∧ H' D2 = some (.lst ((letL.take j).map fun c => V.str (spare c))) ∧ Same (upd H3 a1 (.lst [.str wd])) H',
        ⟨16, rfl, by decide, upd_same, same_new nD2⟩, ?_⟩⟩
      rintro j m H4 ⟨rfl, hj, oD2, sm4⟩
      by_cases lt : j < 16
      · refine .inr ⟨(by show j < _; rw [e26]; exact lt), fun H' => H' D2 = some (.lst ((letL.take (j + 1)).map fun c => V.str (spare c))) ∧ Same (upd H3 a1 (.lst [.str wd])) H', fun H' h => ⟨16 - (j + 1), by omega, rfl, lt, h⟩, ?_⟩
        rintro v H' ⟨rfl, c, hc, rfl⟩
        have hc2 : letL[j]? = some c := by
          unfold letL
          rw [Array.getElem?_toList]; exact hc
        refine ⟨rfl, ?_⟩
        refine ⟨_, rfl, _, _, rfl, rfl, (by rw [sizeLine_eq]; show 1 + 2 ≤ _; omega), _, oD2, (by rw [sizeLine_eq, List.length_map, List.length_take]; omega), ?_, fun b o e => by rw [upd_ne (ne_of_none e nD2)]; exact sm4 b o e⟩
        rw [upd_same, List.take_succ, hc2]
        simp [spare]
      · have j26 : j = 16 := by omega
        refine .inl ⟨(by show _ ≤ j; rw [e26]; omega), ?_⟩
        have et : letL.take j = letL := List.take_of_length_le (by omega)
        rw [et] at oD2
        refine ⟨a1, D2, _, _, rfl, rfl, sm4 _ _ upd_same, oD2, (by rw [sizeLine_eq, List.length_map, l26]; show 1 + 16 ≤ _; omega), fun p np => ?_⟩
        have esp : [V.str wd] ++ letL.map (fun c => V.str (spare c)) = (wd :: letL.map spare).map V.str := by simp [List.map_map]
        rw [esp]
        have spl : (wd :: letL.map spare).length = 17 := by rw [List.length_cons, List.length_map, l26]
        have spok : ∀ x ∈ (wd :: letL.map spare), NmS x := fun x hx => by
          rcases List.mem_cons.mp hx with h | h
          · rw [h]; exact wok
          · obtain ⟨c, hc, rfl⟩ := List.mem_map.mp h
            exact spare_ok c hc
        have hne := spare_left wd ns (by omega)
        generalize wd :: letL.map spare = sp at spl spok hne
        have k5 := same_new (o := .lst (sp.map V.str)) np
        have k35 := (k1.trans sm4).trans k5
        refine ⟨_, rfl, .inl ⟨rfl, _, SqL.of (k35 _ _ oq3)⟩, _, rfl, p, rfl, ⟨_, SqL.of upd_same⟩, fun D3 nD3 => ?_⟩
        refine lc_list (xs := sp.map V.str) (fun j H' => H' D3 = some (.lst (((sp.take j).filter fun x => decide (x ∉ ns)).map V.str)) ∧ Same (upd H4 p (.lst (sp.map V.str))) H')
          ⟨by rw [upd_same]; rfl, same_new nD3⟩ (fun j H' _ h => SqL.of (h.2 _ _ upd_same)) ?_ ?_
        · rintro j v H6 ev ⟨oD3, sm6⟩
          rw [List.getElem?_map] at ev
          obtain ⟨x, ex, rfl⟩ := Option.map_eq_some_iff.mp ev
          have et2 : sp.take (j + 1) = sp.take j ++ [x] := by rw [List.take_succ, ex]; rfl
          refine ⟨rfl, ?_⟩
          refine ⟨_, rfl, _, rfl, q, ns.map V.str, rfl, .inl (SqL.of (sm6 _ _ (k35 _ _ oq3))), rfl, flat_strs ns, _, rfl, ?_⟩
          rw [inV_strs]
          by_cases hx : x ∈ ns
          · rw [decide_eq_true hx]
            refine iteF ?_
            refine ⟨?_, sm6⟩
            rw [et2, List.filter_append]
            simpa [hx] using oD3
          · rw [decide_eq_false hx]
            refine iteT ?_
            refine ⟨_, rfl, _, oD3, ?_, ?_, fun b o e => by rw [upd_ne (ne_of_none e nD3)]; exact sm6 b o e⟩
            · have z := List.length_filter_le (fun x => decide (x ∉ ns)) (sp.take j)
              rw [List.length_take] at z
              rw [sizeLine_eq, List.length_map]; omega
            · rw [upd_same, et2, List.filter_append]
              simp [hx]
        · rintro H6 ⟨oD3, sm6⟩
          have ef : sp.take (sp.map V.str).length = sp := List.take_of_length_le (by rw [List.length_map]; omega)
          rw [ef] at oD3
          have oq6 := sm6 _ _ (k35 _ _ oq3)
          cases efl : sp.filter fun x => decide (x ∉ ns) with
          | nil => exact absurd efl hne
          | cons y rest =>
            rw [efl] at oD3
            have hy : y ∈ sp.filter fun x => decide (x ∉ ns) := by rw [efl]; exact List.mem_cons_self
            obtain ⟨hy1, hy2⟩ := List.mem_filter.mp hy
            have hy3 : y ∉ ns := by simpa using hy2
            refine ⟨D3, _, 0, .str y, rfl, rfl, SqL.of oD3, atI_nat (j := 0) (by simp), ?_⟩
            refine ⟨q, ns.map V.str, .str y, rfl, rfl, oq6, (by rw [sizeLine_eq, List.length_map]; omega), ns ++ [y], by rw [upd_same]; simp, by simp [ln], ?_, ?_, ?_, ?_, _, _, _, _, rfl⟩
            · rw [List.nodup_append]
              exact ⟨nn, by simp, fun a ha b hb => by
                obtain rfl : b = y := by simpa using hb
                exact fun z => hy3 (z ▸ ha)⟩
            · intro x hx
              rcases List.mem_append.mp hx with h | h
              · exact nok x h
              · obtain rfl : x = y := by simpa using h
                exact spok _ hy1
            · obtain ⟨cs', g, k, m, S⟩ := (S3.same k35).same sm6
              exact Strm.mono ⟨cs', g, k, m, by rw [upd_ne (Ne.symm aq.1)]; exact S.o, by rw [upd_ne (Ne.symm aq.2)]; exact S.c, S.ne, S.g0, S.k0, S.k1, S.m0, S.m1, S.sz⟩ (by omega)
            · intro b o h1 h2 e
              have nb : b ≠ q := ne_of_none e nq
              rw [upd_ne nb]
              exact sm6 _ _ (k35 _ _ (B13 _ _ h1 h2 (B1 _ _ h1 h2 e)))
  · rintro σ H1 ⟨ns, oq, ln, nn, nok, S1, B1, s3, s4, s5, s6, rfl⟩
    have em : ((many.toNat : Nat) : Int) = many := by omega
    rw [em] at S1
    exact ⟨_, rfl, hq H1 q ns (by omega) nn nok nq oq S1 B1⟩
end
end L2.TB
namespace L2.TB
open PySem
open PySem.Spec PyProof.Rows
/-! for i, x in enumerate(thing), thing a list or a tuple -/
abbrev tupIter (t : Addr) : Obj := { cls := .type "tuple_iterator", data := .fields #[.ref t, .int 0 0] }
abbrev enumRec (q : Addr) : Obj := { cls := .type "enumerate", data := .fields #[.none, .bool false, .ref q, rawInt 0, .none, .none] }
section
variable {P : Program} {w : World}
/-- what enumerate's maker does with a tuple -/
theorem made_enum (t : Addr) (ys : Array Value) : Meets (Builtin.«enumerate.__new__» ⟨[.type "enumerate", .ref t], []⟩) fun _ done z =>
    z.heap.IsTuple t ys ∧ done (.ok (.ret (.ref (z.heap.push (tupIter t)).objs.size))) { z with heap := (z.heap.push (tupIter t)).push (enumRec z.heap.objs.size) } :=
  .of_wp fun _ _ _ _ z hz => by
    obtain ⟨h0, gs, ds, tk, os⟩ := z
    obtain ⟨isT, fin⟩ := hz
    have sub := sub_enumerate
    have step : ∀ {A' : Around} {E' : Value → Shared → Prop} {Q' : Value → Shared → Prop} {P' : Program} {w' : World}, Q' (.ref h0.objs.size) ⟨h0.push (tupIter t), gs, ds, tk, os⟩ → wpAny (model P' w') A' (pyIter (.ref t)) Q' E' ⟨h0, gs, ds, tk, os⟩ :=
      fun more => wpAny_pyIter_tuple (s := ⟨h0, gs, ds, tk, os⟩) isT more
    wp_walk using step
    refine wpAny_stack_any (fun _ => wpAny_pure ?_)
    split
    · rename_i c _ _ _ _ _
      rcases (c == Value.type "enumerate") with _ | _ <;> (wp_walk using step; exact ⟨_, rfl, fin⟩)
    · wp_walk using step
      exact ⟨_, rfl, fin⟩
/-- the call -/
theorem enum_of_tuple {A : Around} {z : Shared} {E Q : Value → Shared → Prop} {t : Addr} {ys : Array Value} (isT : z.heap.IsTuple t ys)
    (more : IsEnum ((z.heap.push (tupIter t)).push (enumRec z.heap.objs.size)) (z.heap.objs.size + 1) z.heap.objs.size 0 .none →
      Q (.ref (z.heap.objs.size + 1)) { z with heap := (z.heap.push (tupIter t)).push (enumRec z.heap.objs.size) }) : wpAny (model P w) A (call (.type "enumerate") [.ref t]) Q E z := by
  refine callType_new F.called_enumerate (by decide) (F.typeCall_enumerate_1 _) (F.newCall_enumerate_1 _) (fun b => F.args_object_init_2 b _) F.entry_enumerate_new (made_enum t ys) ⟨isT, ?_⟩
  have size1 : (z.heap.push (tupIter t)).objs.size = z.heap.objs.size + 1 := Heap.size_push ..
  have rec1 := Heap.get?_push_size (z.heap.push (tupIter t)) (o := enumRec z.heap.objs.size) rfl
  rw [size1] at rec1
  show _ ∧ _
  rw [size1]
  exact ⟨⟨_, rec1, rfl⟩, more rec1⟩
end
/-- the items of the tuple at t, each in a new pair with its number -/
def IteT (K : PySem.W.Frag) (t : Addr) : It where
  go i H := ∃ (ys : List V) (y : V), SqT K H t ys ∧ ys[i]? = some y
  yld i H v H' := ∃ T y, v = .ref T ∧ H T = none ∧ H' = upd H T (.tup [.int (i : Nat), y]) ∧ ∀ ys, SqT K H t ys → ys[i]? = some y
  stop i H := ∃ ys : List V, SqT K H t ys ∧ ys.length ≤ i
/-- three records of three classes stand at three places -/
theorem three {h : Heap} {t q r : Addr} {ys : Array Value} {i : Nat} {c : Int} {old : Value} (isT : h.IsTuple t ys) (isQ : h.IsTupleIter q t i) (isR : IsEnum h r q c old) : t ≠ q ∧ r ≠ t := by
  obtain ⟨ot, gt, ct, _⟩ := isT
  obtain ⟨oq, gq, cq, _⟩ := isQ
  have ct : ot.cls = Value.type "tuple" := ct
  have cq : oq.cls = Value.type "tuple_iterator" := cq
  constructor
  · rintro rfl
    rw [gt] at gq
    injection gq with same
    rw [← same, ct] at cq
    exact absurd cq (by decide)
  · rintro rfl
    have gr := isR
    unfold IsEnum at gr
    rw [gt] at gr
    injection gr with same
    rw [same] at ct
    exact absurd (show Value.type "enumerate" = Value.type "tuple" from ct) (by decide)
theorem two_of {b r q : Addr} {p : Addr → Prop} (hr : p r) (hq : p q) (hb : b ∈ [r, q]) : p b := by
  rcases List.mem_cons.mp hb with rfl | hb
  · exact hr
  · obtain rfl := List.mem_singleton.mp hb
    exact hq
theorem turn_enumT {P : Program} {w : World} {K : PySem.W.Frag} {elts : List Expr} {kk : Nat} {tpos : Pos} (t r q : Addr) :
    Turn P w K (.Tuple elts kk tpos) (IteT K t) [r, q] r (fun i h => r ≠ q ∧ h.IsTupleIter q t i ∧ ∃ old, IsEnum h r q ((i : Nat) : Int) old) := by
  refine ⟨List.mem_cons_self, fun i h st b hb => ?_, fun i h h' st same => ?_, ?_, ?_, fun A i z Q E st more => ?_⟩
  · obtain ⟨_, ⟨oq, gq, _, dq⟩, old, gr⟩ := st
    exact two_of (p := fun b => ∃ o, h.get? b = some o ∧ ∀ v, o.data ≠ .cell v) ⟨_, gr, fun _ e => nomatch e⟩ ⟨oq, gq, fun _ e => by rw [dq] at e; exact nomatch e⟩ hb
  · obtain ⟨ne, gq, old, gr⟩ := st
    exact ⟨ne, gq.at fun o e => same q (List.mem_cons_of_mem _ List.mem_cons_self) o e, old, same r List.mem_cons_self _ gr⟩
  · rintro X rfl rfl rfl calm i pins z σ H E I room ⟨ne, gq, old, gr⟩ ⟨ys, y, isY, nth⟩
    obtain ⟨vs, rel, isT, _⟩ := I.tuple isY
    obtain ⟨v, nthV, relV⟩ := rel.get nth
    have isT : z.heap.IsTuple t vs.toArray := isT
    obtain ⟨tq, rt⟩ := three isT gq gr
    have lr : r < z.heap.objs.size := Heap.lt_size gr
    have lq : q < z.heap.objs.size := gq.elim fun _ e => Heap.lt_size e.1
    have inside : i < vs.toArray.size := by
      have := (List.getElem?_eq_some_iff.mp nthV).1
      simpa using this
    have draws := Draws.tuple (prog := X.prog) (w := X.w) (A := X.A.in1) (I.ok.hd calm) q t tq vs.toArray
    refine wpAny_pyNext_enum_itemC draws gr ⟨gq, isT⟩ inside ne (fun m => two_of (p := fun b => r = b → False) ne rt m rfl) fun v' h1 tk hv out stQ newT _ kept1 => ?_
    obtain rfl : v' = v := by
      have hv : vs.toArray[i]? = some v' := hv
      rw [List.getElem?_toArray, nthV] at hv
      exact (Option.some.inj hv).symm
    refine ⟨_, rfl, wpAny_letOwnedTupleGo_enum (s := { z with heap := h1, toks := tk + 1 }) out fun h2 back same2 => ?_⟩
    have at2 : ∀ b o, b ∉ [r, q] → z.heap.get? b = some o → h2.get? b = some o := fun b o away e =>
      (same2.2 b fun k => away (k ▸ List.mem_cons_self)).trans (kept1 b o (fun k => away (k ▸ List.mem_cons_self)) (fun k => away (k ▸ List.mem_cons_of_mem _ List.mem_cons_self)) e)
    have pair : ObjOk X.prog X.w (upd H z.heap.objs.size (.tup [.int (i : Nat), y])) h2 z.heap.objs.size (.tup [.int (i : Nat), y]) :=
      ⟨show 2 ≤ sizeLine by decide, [.int i tk, v'], .cons ⟨tk, rfl⟩ (.cons relV .nil), _, (same2.2 _ (Nat.ne_of_gt lr)).trans newT, rfl, _, rfl⟩
    refine ⟨.ref z.heap.objs.size, _, I.turnedNew (t' := tk + 1) at2 room (Nat.le_refl _) pair, rfl, ⟨_, y, rfl, I.hok.fresh (Nat.le_refl _), rfl, fun ys' is' => ?_⟩, ⟨ne, ?_, v', ?_⟩, fun b hb => ?_⟩
    · rw [I.tuple_inj is' isY]; exact nth
    · exact stQ.1.at fun o e => (same2.2 q ne.symm).trans e
    · rw [show ((i + 1 : Nat) : Int) = (i : Int) + 1 from by omega]; exact back
    · have lb : b < z.heap.objs.size := two_of (p := fun b => b < z.heap.objs.size) lr lq hb
      rw [upd_ne (Nat.ne_of_lt lb)]
      exact (room b hb).1
  · rintro X rfl rfl rfl calm i pins z σ H E I room ⟨ne, gq, old, gr⟩ ⟨ys, isY, past⟩
    obtain ⟨vs, rel, isT, _⟩ := I.tuple isY
    have isT : z.heap.IsTuple t vs.toArray := isT
    obtain ⟨k0, k1, k2, k3, k4, k5⟩ := room q (List.mem_cons_of_mem _ List.mem_cons_self)
    have isE : z.TypeIs (.ref r) "enumerate" := ⟨_, gr, rfl⟩
    have len := rel.length
    have past : vs.toArray[i]? = none := by rw [List.getElem?_toArray, List.getElem?_eq_none_iff]; omega
    unfold pyNext
    refine wpAny_bind (wpAny_attempt (wpAny_callSpecial?_slot (name := Str.ofString "__next__") isE F.slot_enumerate_next (wpAny_call_entry F.slot_enumerate_next isE F.entry_enumerate_next ?_ (F.args_enumerate_next_1 _))))
    show wpAny _ _ (field (.ref r) 2 >>= _) _ _ z
    refine wpAny_bind (wpAny_field gr rfl (x := .ref q) rfl (wpAny_bind (wpAny_nextOf_tuple_end (I.ok.hd calm) gq isT past fun h1 x but ⟨ox, gx, cx⟩ => ?_)))
    exact wpAny_bind (wpAny_isInstance (T := "StopIteration") (b := true) ⟨ox, gx, cx⟩ isSubtype_stop (wpAny_pure ⟨rfl, I.turned (t' := z.toks) (fun b o away e => but b o away e) k0 k1 k3 k4 k5⟩))
  · obtain ⟨_, _, old, gr⟩ := st
    exact wpAny_pyIter_enum gr more
/-- the reading of enumerate over a list or over a tuple -/
def iEnumS (K : PySem.W.Frag) (ta : TA) : TI := fun σ H R => ta σ H fun vs H1 => ∃ a xs, vs = [.ref a] ∧ ((SqL K H1 a xs ∧ R (Ite K a) H1) ∨ (SqT K H1 a xs ∧ R (IteT K a) H1))
theorem pi_enumS {X : Cx} {e : Expr} {ta : TA} {p pos tpos : Pos} {elts : List Expr} {kk : Nat} (hg : Gl X "enumerate") (hm : X.mg "enumerate" = none) (ha : PA X [e] ta) (hs : starEach [e] X.env = [(false, eval e X.env)] := by rfl) :
    PI X (.Tuple elts kk tpos) (.Call (.Name "enumerate" p) [e] [] pos) (iEnumS X.K ta) := by
  refine PI.mk fun pins z σ H R I reading => Call_ (ld_blt I hg hm boot_enumerate (PyProof.Rows.callWith_type1 (thn (ha.run pos pins z σ H _ I reading) fun us z1 hu => ?_) hs rfl))
  obtain ⟨vs, H1, I1, rel, a, xs, rfl, cases2⟩ := hu
  match us, rel with
  | [u], .cons ru .nil =>
    obtain rfl : u = Value.ref a := ru
    have fresh : ∀ b ∈ [z1.heap.objs.size + 1, z1.heap.objs.size], FpOk X pins H1 b := fun b hb =>
      have far : z1.heap.objs.size ≤ b := two_of (p := fun b => z1.heap.objs.size ≤ b) (Nat.le_succ _) (Nat.le_refl _) hb
      I1.fpOk far (I1.hok.fresh far)
    rcases cases2 with ⟨sq, q⟩ | ⟨sq, q⟩
    · obtain ⟨its, rv, isL, _⟩ := I1.list sq
      exact call_enumerate_list isL.isList fun h' gE gI _ kept => wpAny_pyIter_enum gE ⟨_, _, _, _, H1, rfl, I1.kept (t' := z1.toks) kept, turn_enum a _ _, ⟨⟨.none, gE⟩, gI, Nat.succ_ne_self _⟩, fresh, q⟩
    · obtain ⟨its, rv, isT, _⟩ := I1.tuple sq
      have isT : z1.heap.IsTuple a its.toArray := isT
      refine enum_of_tuple isT fun gE => wpAny_pyIter_enum gE ⟨_, _, _, _, H1, rfl, I1.kept (t' := z1.toks) fun b o e => ?_, turn_enumT a _ _, ⟨Nat.succ_ne_self _, ?_, .none, gE⟩, fresh, q⟩
      · exact Heap.get?_push_of_some _ (Heap.get?_push_of_some _ e)
      · exact ⟨_, Heap.get?_push_of_some _ (Heap.get?_push_size _ rfl), rfl, rfl⟩
end L2.TB
namespace L2.TB
open PySem PySem.Spec PyProof.Rows
/-! the program's looks at what it is passed -/
theorem boot_int' : bootBuiltins "int" = some (.type "int") := by decide +kernel
theorem boot_bool' : bootBuiltins "bool" = some (.type "bool") := by decide +kernel
theorem boot_str' : bootBuiltins "str" = some (.type "str") := by decide +kernel
theorem boot_list' : bootBuiltins "list" = some (.type "list") := by decide +kernel
theorem boot_tuple' : bootBuiltins "tuple" = some (.type "tuple") := by decide +kernel
theorem boot_dict' : bootBuiltins "dict" = some (.type "dict") := by decide +kernel
theorem boot_isi : bootBuiltins "isinstance" = some (.builtin "isinstance") := by decide +kernel
/-- the list or the tuple at a -/
def SqA (K : PySem.W.Frag) (H : Hp) (a : Addr) (xs : List V) : Prop := H a = some (.lst xs) ∨ H a = some (.tup xs)
theorem SqA.seq {K : PySem.W.Frag} {H : Hp} {a : Addr} {xs : List V} (h : SqA K H a xs) : SqL K H a xs ∨ SqT K H a xs := h.imp SqL.of SqT.of
theorem SqA.same {K : PySem.W.Frag} {H H' : Hp} {a : Addr} {xs : List V} (h : SqA K H a xs) (s : Same H H') : SqA K H' a xs := h.imp (s _ _) (s _ _)
theorem kit_two_l {K : PySem.W.Frag} : PySem.W.kitAny K (.type "list") [.type "list", .type "tuple"] = some true := by
  unfold PySem.W.kitAny
  rw [kit_ty (K := K) (a := "list") (b := "list") (r := true) (by decide +kernel)]
theorem kit_two_t {K : PySem.W.Frag} : PySem.W.kitAny K (.type "tuple") [.type "list", .type "tuple"] = some true := by
  unfold PySem.W.kitAny
  rw [kit_ty (K := K) (a := "tuple") (b := "list") (r := false) (by decide +kernel)]
  dsimp only
  unfold PySem.W.kitAny
  rw [kit_ty (K := K) (a := "tuple") (b := "tuple") (r := true) (by decide +kernel)]
def spIsInt : Sp := fun vs H Q _ => ∃ k : Int, vs = [.int k] ∧ Q (.bl true) H
def spIsList (K : PySem.W.Frag) : Sp := fun vs H Q _ => ∃ (a : Addr) (xs : List V), vs = [.ref a] ∧ SqA K H a xs ∧ ∀ H', Same H H' → Q (.bl true) H'
def spIsOne (K : PySem.W.Frag) : Sp := fun vs H Q _ => ∃ (c : Addr) (ns : List Str) (x : Str), vs = [.ref c, .str x] ∧ SqL K H c (ns.map V.str) ∧ Q (.bl (decide (x ∈ ns))) H
/-- no bad one -/
def spFirst (K : PySem.W.Frag) : Sp := fun vs H Q _ => ∃ (c a : Addr) (ns known : List Str), vs = [.ref c, .ref a] ∧ H c = some (.lst (ns.map V.str)) ∧ SqA K H a (known.map V.str) ∧ known.Nodup ∧ (∀ x ∈ known, x ∈ ns) ∧ known.length < 1000 ∧ ∀ H', Same H H' → Q .non H'
theorem scIsInt : FnScope ["thing"] ["thing"] (defScope sIsInt) := ⟨rfl, rfl, rfl, by decide +kernel, rfl, by decide +kernel, by decide +kernel⟩
theorem scIsList : FnScope ["thing"] ["thing"] (defScope sIsList) := ⟨rfl, rfl, rfl, by decide +kernel, rfl, by decide +kernel, by decide +kernel⟩
theorem scIsOne : FnScope ["names", "thing"] ["names", "thing"] (defScope sIsOne) := ⟨rfl, rfl, rfl, by decide +kernel, rfl, by decide +kernel, by decide +kernel⟩
abbrev NF : List Str := ["names", "things", "seen", "index", "thing"]
theorem scFirst : FnScope NF ["names", "things"] (defScope sFirst) := ⟨rfl, rfl, rfl, by decide +kernel, rfl, by decide +kernel, by decide +kernel⟩
section
variable {P : Program} {w : World} {K : PySem.W.Frag} {mg : Str → Option Value} {base : Heap} {f fL fO : Addr} {fd fdL fdO : FuncData}
theorem ok_isInt (F : Fun K "is_integer" "is_integer" sIsInt f fd) (gI : mg "isinstance" = none) (gInt : mg "int" = none) (gB : mg "bool" = none) : FnOk P w K mg base CX0 1 f fd ["thing"] spIsInt := by
  refine F.ok scIsInt (fun vs H Q E h => by obtain ⟨k, e, _⟩ := h; rw [e]; rfl) fun cdv A outer s H vs Q E hr hsp => ?_
  obtain ⟨k, rfl, hq⟩ := hsp
  refine ⟨_, pss_one (ps_ret (pe_and (pe_callB (r := rIsi K) call_isi rfl gI boot_isi (pa_cons (pv 0) (pa_cons (pe_bltn (v := .ty "int") rfl gInt boot_int' rfl) pa_nil)))
    (pe_one (pe_not (pe_callB (r := rIsi K) call_isi rfl gI boot_isi (pa_cons (pv 0) (pa_cons (pe_bltn (v := .ty "bool") rfl gB boot_bool' rfl) pa_nil))))))), ?_⟩
  exact ⟨_, rfl, _, _, _, _, true, rfl, .ty _, .base (.int k), kit_ty (by decide +kernel), true, rfl, _, rfl, _, _, _, _, false, rfl, .ty _, .base (.int k), kit_ty (by decide +kernel), false, rfl, hq⟩
theorem ok_isList (F : Fun K "is_list" "is_list" sIsList f fd) (gI : mg "isinstance" = none) (gL : mg "list" = none) (gT : mg "tuple" = none) : FnOk P w K mg base CX0 1 f fd ["thing"] (spIsList K) := by
  refine F.ok scIsList (fun vs H Q E h => by obtain ⟨a, xs, e, _⟩ := h; rw [e]; rfl) fun cdv A outer s H vs Q E hr hsp => ?_
  obtain ⟨a, xs, rfl, hS, hq⟩ := hsp
  refine ⟨_, pss_one (ps_ret (pe_callB (r := rIsiT K) call_isiT rfl gI boot_isi (pa_cons (pv 0) (pa_cons (pe_tup (pa_cons (pe_bltn (v := .ty "list") rfl gL boot_list' rfl) (pa_cons (pe_bltn (v := .ty "tuple") rfl gT boot_tuple' rfl) pa_nil))) pa_nil)))), ?_⟩
  refine ⟨_, rfl, (by show 2 ≤ sizeLine; decide), fun t nt => ?_⟩
  have kt := same_new (o := .tup [.ty "list", .ty "tuple"]) nt
  rcases hS.same kt with e | e
  · exact ⟨_, _, _, _, _, true, rfl, upd_same, .cons (.ty _) (.cons (.ty _) .nil), .base (.lst e), kit_two_l, hq _ kt⟩
  · exact ⟨_, _, _, _, _, true, rfl, upd_same, .cons (.ty _) (.cons (.ty _) .nil), .base (.tup e), kit_two_t, hq _ kt⟩
theorem ok_isOne (F : Fun K "is_one_of" "is_one_of" sIsOne f fd) (gI : mg "isinstance" = none) (gS : mg "str" = none) : FnOk P w K mg base CX0 1 f fd ["names", "thing"] (spIsOne K) := by
  refine F.ok scIsOne (fun vs H Q E h => by obtain ⟨c, ns, x, e, _⟩ := h; rw [e]; rfl) fun cdv A outer s H vs Q E hr hsp => ?_
  obtain ⟨c, ns, x, rfl, hS, hq⟩ := hsp
  refine ⟨_, pss_one (ps_ret (pe_and (pe_callB (r := rIsi K) call_isi rfl gI boot_isi (pa_cons (pv 1) (pa_cons (pe_bltn (v := .ty "str") rfl gS boot_str' rfl) pa_nil)))
    (pe_one (pe_cmpR op_in_seq (pv 1) (pv 0) rfl)))), ?_⟩
  refine ⟨_, rfl, _, _, _, _, true, rfl, .ty _, .base (.str x), kit_ty (by decide +kernel), true, rfl, _, rfl, _, rfl, c, _, rfl, .inl hS, rfl, flat_strs ns, ?_⟩
  rw [inV_strs]
  exact hq
/-- the dict of what was seen -/
def seenD (xs : List Str) : List (Key × V) := xs.map fun x => (Sum.inr x, V.bl true)
theorem seen_none {xs : List Str} {x : Str} (h : x ∉ xs) : valV (seenD xs) (Sum.inr x) = none := by
  cases e : valV (seenD xs) (Sum.inr x) with
  | none => rfl
  | some v =>
    exfalso
    have z : (valV (seenD xs) (Sum.inr x)).isSome = true := by rw [e]; rfl
    rw [← valV_any, List.any_eq_true] at z
    obtain ⟨q, hq, hq2⟩ := z
    obtain ⟨y, hy, rfl⟩ := List.mem_map.mp hq
    have hq3 : (Sum.inr y : Key) = Sum.inr x := of_decide_eq_true hq2
    exact h (Sum.inr.inj hq3 ▸ hy)
theorem seen_put {xs : List Str} {x : Str} (h : x ∉ xs) : putK (seenD xs) (Sum.inr x) (.bl true) = seenD (xs ++ [x]) := by
  rw [putK_new (.bl true) (seen_none h)]
  simp [seenD]
/-- what the for loop asks of its turns -/
def ForW (J : It) (g : TG) (tb : TS) (D : Ends) (σ : St) (H : Hp) : Prop := ∃ W : Nat → Nat → St → Hp → Prop, (∃ m, W 0 m σ H) ∧ ∀ i m σ H, W i m σ H →
  (J.stop i H ∧ D.nx σ H) ∨ (J.go i H ∧ ∃ N : St → Hp → Prop, (∀ σ' H', N σ' H' → ∃ m', m' < m ∧ W (i + 1) m' σ' H') ∧ ∀ x H', J.yld i H x H' → g x σ H' fun σ2 H2 => tb { D with nx := N, ct := N, bk := D.nx } σ2 H2)
theorem enum_seq {K : PySem.W.Frag} {a : Addr} {xs : List V} {o : HO} {g : TG} {tb : TS} {D : Ends} {σ : St} {H : Hp} (ko : o = .lst xs ∨ o = .tup xs) (Pv : Nat → St → Hp → Prop) (h0 : Pv 0 σ H) (hl : ∀ i σ H, i ≤ xs.length → Pv i σ H → H a = some o)
    (hs : ∀ i x σ H T, xs[i]? = some x → Pv i σ H → H T = none → g (.ref T) σ (upd H T (.tup [.int (i : Nat), x])) fun σ2 H2 => tb { D with nx := Pv (i + 1), ct := Pv (i + 1), bk := D.nx } σ2 H2) (hd : ∀ σ H, Pv xs.length σ H → D.nx σ H) :
    ∃ b ys, [V.ref a] = [V.ref b] ∧ ((SqL K H b ys ∧ ForW (Ite K b) g tb D σ H) ∨ (SqT K H b ys ∧ ForW (IteT K b) g tb D σ H)) := by
  have fin : ∀ J : It, (∀ i H, i < xs.length → H a = some o → J.go i H) → (∀ i H, i = xs.length → H a = some o → J.stop i H) → (∀ i H v H', i < xs.length → H a = some o → J.yld i H v H' → ∃ T x, v = .ref T ∧ H T = none ∧ H' = upd H T (.tup [.int (i : Nat), x]) ∧ xs[i]? = some x) → ForW J g tb D σ H := by
    intro J go stop yld
    refine ⟨fun i m σ H => m = xs.length - i ∧ i ≤ xs.length ∧ Pv i σ H, ⟨_, rfl, Nat.zero_le _, h0⟩, ?_⟩
    rintro i m σ H ⟨rfl, le, p⟩
    have q := hl i σ H le p
    by_cases lt : i < xs.length
    · refine .inr ⟨go i H lt q, Pv (i + 1), fun σ' H' p' => ⟨xs.length - (i + 1), by omega, rfl, lt, p'⟩, fun v H' y => ?_⟩
      obtain ⟨T, x, rfl, nT, rfl, ex⟩ := yld i H v H' lt q y
      exact hs i x σ H T ex p nT
    · obtain rfl : i = xs.length := by omega
      exact .inl ⟨stop _ H rfl q, hd σ H p⟩
  have q0 := hl 0 σ H (Nat.zero_le _) h0
  rcases ko with rfl | rfl
  · exact ⟨a, xs, rfl, .inl ⟨SqL.of q0, fin _ (fun i H lt q => ⟨xs, xs[i], SqL.of q, by simp [lt]⟩) (fun i H e' q => ⟨xs, SqL.of q, by omega⟩)
      (fun i H v H' lt q ⟨T, x, e1, e2, e3, e4⟩ => ⟨T, x, e1, e2, e3, e4 xs (SqL.of q)⟩)⟩⟩
  · exact ⟨a, xs, rfl, .inr ⟨SqT.of q0, fin _ (fun i H lt q => ⟨xs, xs[i], SqT.of q, by simp [lt]⟩) (fun i H e' q => ⟨xs, SqT.of q, by omega⟩)
      (fun i H v H' lt q ⟨T, x, e1, e2, e3, e4⟩ => ⟨T, x, e1, e2, e3, e4 xs (SqT.of q)⟩)⟩⟩
theorem ok_first (F : Fun K "first_bad" "first_bad" sFirst f fd) (FL : Fun K "is_list" "is_list" sIsList fL fdL) (gIL : mg "is_list" = some (.ref fL)) (FO : Fun K "is_one_of" "is_one_of" sIsOne fO fdO) (gIO : mg "is_one_of" = some (.ref fO))
    (gI : mg "isinstance" = none) (gL : mg "list" = none) (gT : mg "tuple" = none) (gS : mg "str" = none) (gE : mg "enumerate" = none) : FnOk P w K mg base CX0 2 f fd ["names", "things"] (spFirst K) := by
  have GL : FnOk P w K mg base CX0 1 fL fdL ["thing"] (spIsList K) := ok_isList FL gI gL gT
  have bL := FL.binds (ps := ["thing"]) fun _ _ _ _ _ _ us hl => match us, hl with | [_], _ => rfl
  have GO : FnOk P w K mg base CX0 1 fO fdO ["names", "thing"] (spIsOne K) := ok_isOne FO gI gS
  have bO := FO.binds (ps := ["names", "thing"]) fun _ _ _ _ _ _ us hl => match us, hl with | [_, _], _ => rfl
  refine F.ok scFirst (fun vs H Q E h => by obtain ⟨c, a, ns, known, e, _⟩ := h; rw [e]; rfl) fun cdv A outer s H vs Q E hr hsp => ?_
  obtain ⟨c, a, ns, known, rfl, hc, hS, nd1, sub, short, hq⟩ := hsp
  have nd := scFirst.nd
  have hu := hu_of hr
  refine ⟨_, pss_cons (ps_if (pt_not (pt_val (pe_call GL hr rfl gIL FL.kp bL .nil pass0 (pa_cons (pv 1) pa_nil)))) (pss_one ps_never) pss_nil)
    (pss_cons (ps_set (i := 2) nd rfl (Or.inl rfl) pe_dnewK)
    (pss_cons (ps_for PassesOwn.never rfl (pi_enumS rfl gE (pa_cons (pv 1) pa_nil)) (pg_tup rfl (pgs_cons (pg_name (i := 3) nd rfl (Or.inl rfl)) (pgs_cons (pg_name (i := 4) nd rfl (Or.inl rfl)) pgs_nil)))
      (pss_cons (ps_if (PW.pt (pw_or (pt_not (pt_val (pe_call GO hr rfl gIO FO.kp bO .nil pass0 (pa_cons (pv 0) (pa_cons (pv 4) pa_nil))))) (pw_or1 (pt_cmp (pc_din hu (pv 4) (pv 2)))))) (pss_one ps_never) pss_nil)
      (pss_one (ps_dput hu (pv 2) (pv 4) pe_bl rfl))))
    (pss_one (ps_ret pe_non)))), ?_⟩
  refine ⟨_, rfl, a, _, rfl, hS, fun H1 k1 => ⟨_, rfl, iteF fun d nd2 => ?_⟩⟩
  have kd := same_new (o := .dK []) nd2
  obtain ⟨o, ho, ko⟩ : ∃ o, H1 a = some o ∧ (o = .lst (known.map V.str) ∨ o = .tup (known.map V.str)) := by
    rcases hS.same k1 with e | e
    · exact ⟨_, e, .inl rfl⟩
    · exact ⟨_, e, .inr rfl⟩
  refine ⟨_, rfl, enum_seq ko (fun i σ H' => H' d = some (.dK (seenD (known.take i))) ∧ Same H1 H' ∧ ∃ s3 s4, σ = [some (.ref c), some (.ref a), some (.ref d), s3, s4])
    ⟨upd_same, kd, _, _, rfl⟩ (fun i σ H' _ h => h.2.1 _ _ ho) ?_ ?_⟩
  · rintro i v σ H2 T ev ⟨od, s2, s3, s4, rfl⟩ nT
    rw [List.getElem?_map] at ev
    obtain ⟨x, ex, rfl⟩ := Option.map_eq_some_iff.mp ev
    have hi : i < known.length := (List.getElem?_eq_some_iff.mp ex).1
    have kT := same_new (o := .tup [.int (i : Nat), .str x]) nT
    refine ⟨T, _, rfl, SqT.of upd_same, rfl, ?_⟩
    have e1 : known.take (i + 1) = known.take i ++ [x] := by rw [List.take_succ, ex]; rfl
    have notin : x ∉ known.take i := fun m => by
      have z := nd1
      rw [← List.take_append_drop (i + 1) known, e1, List.append_assoc, List.nodup_append] at z
      exact z.2.2 x m x (by simp) rfl
    have xin : x ∈ ns := sub x (List.mem_of_getElem? ex)
    refine ⟨_, _, rfl, _, _, rfl, rfl, ?_⟩
    refine ⟨_, rfl, _, rfl, c, ns, x, rfl, SqL.of (kT _ _ (s2 _ _ (k1 _ _ hc))), _, rfl, ?_⟩
    rw [decide_eq_true xin]
    refine iteF ⟨_, rfl, _, rfl, d, _, rfl, DGet.k (k := Sum.inr x) (kT _ _ od), ?_⟩
    rw [seen_none notin]
    refine ⟨_, rfl, iteF ?_⟩
    have small : (seenD (known.take i)).length < sizeLine := by
      rw [sizeLine_eq]
      unfold seenD
      rw [List.length_map, List.length_take]; omega
    refine ⟨_, rfl, _, rfl, d, _, rfl, DPut.k (k := Sum.inr x) (kT _ _ od) small, ?_, ?_, _, _, rfl⟩
    · rw [upd_same, seen_put notin, ← e1]
    · intro b u e
      have nb : b ≠ d := ne_of_none e nd2
      rw [upd_ne nb]
      exact kT _ _ (s2 _ _ e)
  · rintro σ H2 ⟨od, s2, s3, s4, rfl⟩
    exact hq _ (k1.trans s2)
end
end L2.TB
namespace L2.TB
open PySem PySem.Spec PyProof.Rows
/-! the checks, where nothing is wrong -/
def spCkA (K : PySem.W.Frag) : Sp := fun vs H Q _ => ∃ (c : Addr) (ns : List Str) (x : Str), vs = [.ref c, .str x] ∧ SqL K H c (ns.map V.str) ∧ x ∈ ns ∧ Q .non H
def spCkB (K : PySem.W.Frag) : Sp := fun vs H Q _ => ∃ (c a : Addr) (ns known : List Str) (x : Str), vs = [.ref c, .ref a, .str x] ∧ H c = some (.lst (ns.map V.str)) ∧ SqA K H a (known.map V.str) ∧ known.Nodup ∧ (∀ x ∈ known, x ∈ ns) ∧ known.length < 1000 ∧ x ∈ ns ∧ ∀ H', Same H H' → Q .non H'
theorem scCkK : FnScope ["names", "known", "index"] ["names", "known"] (defScope sCkK) := ⟨rfl, rfl, rfl, by decide +kernel, rfl, by decide +kernel, by decide +kernel⟩
theorem scCkA : FnScope ["names", "asked"] ["names", "asked"] (defScope sCkA) := ⟨rfl, rfl, rfl, by decide +kernel, rfl, by decide +kernel, by decide +kernel⟩
theorem scCkB : FnScope ["names", "known", "asked"] ["names", "known", "asked"] (defScope sCkB) := ⟨rfl, rfl, rfl, by decide +kernel, rfl, by decide +kernel, by decide +kernel⟩
/-- what the checks need of the module -/
structure Chk (K : PySem.W.Frag) (mg : Str → Option Value) (aF aL aO aK aA aB : Addr) : Prop where
  F : ∃ fd, Fun K "first_bad" "first_bad" sFirst aF fd
  L : ∃ fd, Fun K "is_list" "is_list" sIsList aL fd
  O : ∃ fd, Fun K "is_one_of" "is_one_of" sIsOne aO fd
  CK : ∃ fd, Fun K "check_known" "check_known" sCkK aK fd
  CA : ∃ fd, Fun K "check_asked" "check_asked" sCkA aA fd
  CB : ∃ fd, Fun K "check_both" "check_both" sCkB aB fd
  gF : mg "first_bad" = some (.ref aF)
  gL : mg "is_list" = some (.ref aL)
  gO : mg "is_one_of" = some (.ref aO)
  gCK : mg "check_known" = some (.ref aK)
  gCA : mg "check_asked" = some (.ref aA)
  gCB : mg "check_both" = some (.ref aB)
  nI : mg "isinstance" = none
  nL : mg "list" = none
  nT : mg "tuple" = none
  nS : mg "str" = none
  nE : mg "enumerate" = none
section
variable {P : Program} {w : World} {K : PySem.W.Frag} {mg : Str → Option Value} {base : Heap} {aF aL aO aK aA aB : Addr} {fd : FuncData}
theorem ok_ckK (C : Chk K mg aF aL aO aK aA aB) (F : Fun K "check_known" "check_known" sCkK aK fd) : FnOk P w K mg base CX0 3 aK fd ["names", "known"] (spFirst K) := by
  obtain ⟨fdF, FF⟩ := C.F
  obtain ⟨fdL, FL⟩ := C.L
  obtain ⟨fdO, FO⟩ := C.O
  have G : FnOk P w K mg base CX0 2 aF fdF ["names", "things"] (spFirst K) := ok_first FF FL C.gL FO C.gO C.nI C.nL C.nT C.nS C.nE
  have b := FF.binds (ps := ["names", "things"]) fun _ _ _ _ _ _ us hl => match us, hl with | [_, _], _ => rfl
  refine F.ok scCkK (fun vs H Q E h => by obtain ⟨c, a, ns, known, e, _⟩ := h; rw [e]; rfl) fun cdv A outer s H vs Q E hr hsp => ?_
  obtain ⟨c, a, ns, known, rfl, hc, hS, nd1, sub, short, hq⟩ := hsp
  have nd := scCkK.nd
  refine ⟨_, pss_cons (ps_set (i := 2) nd rfl (Or.inl rfl) (pe_call G hr rfl C.gF FF.kp b .nil pass0 (pa_cons (pv 0) (pa_cons (pv 1) pa_nil))))
    (pss_one (ps_if (pt_cmp (pc_notN (pv 2))) (pss_one ps_never) pss_nil)), ?_⟩
  refine ⟨_, rfl, _, rfl, c, a, ns, known, rfl, hc, hS, nd1, sub, short, fun H1 k1 => ?_⟩
  exact ⟨_, rfl, _, rfl, iteF (hq H1 k1)⟩
theorem ok_ckA (C : Chk K mg aF aL aO aK aA aB) (F : Fun K "check_asked" "check_asked" sCkA aA fd) : FnOk P w K mg base CX0 2 aA fd ["names", "asked"] (spCkA K) := by
  obtain ⟨fdO, FO⟩ := C.O
  have G : FnOk P w K mg base CX0 1 aO fdO ["names", "thing"] (spIsOne K) := ok_isOne FO C.nI C.nS
  have b := FO.binds (ps := ["names", "thing"]) fun _ _ _ _ _ _ us hl => match us, hl with | [_, _], _ => rfl
  refine F.ok scCkA (fun vs H Q E h => by obtain ⟨c, ns, x, e, _⟩ := h; rw [e]; rfl) fun cdv A outer s H vs Q E hr hsp => ?_
  obtain ⟨c, ns, x, rfl, hc, xin, hq⟩ := hsp
  refine ⟨_, pss_one (ps_if (pt_not (pt_val (pe_call G hr rfl C.gO FO.kp b .nil pass0 (pa_cons (pv 0) (pa_cons (pv 1) pa_nil))))) (pss_one ps_never) pss_nil), ?_⟩
  refine ⟨_, rfl, _, rfl, c, ns, x, rfl, hc, _, rfl, ?_⟩
  rw [decide_eq_true xin]
  exact iteF hq
theorem ok_ckB (C : Chk K mg aF aL aO aK aA aB) (F : Fun K "check_both" "check_both" sCkB aB fd) : FnOk P w K mg base CX0 4 aB fd ["names", "known", "asked"] (spCkB K) := by
  obtain ⟨fdK, FK⟩ := C.CK
  obtain ⟨fdA, FA⟩ := C.CA
  have GK := ok_ckK (P := P) (w := w) (base := base) C FK
  have bK := FK.binds (ps := ["names", "known"]) fun _ _ _ _ _ _ us hl => match us, hl with | [_, _], _ => rfl
  have GA := ok_ckA (P := P) (w := w) (base := base) C FA
  have bA := FA.binds (ps := ["names", "asked"]) fun _ _ _ _ _ _ us hl => match us, hl with | [_, _], _ => rfl
  refine F.ok scCkB (fun vs H Q E h => by obtain ⟨c, a, ns, known, x, e, _⟩ := h; rw [e]; rfl) fun cdv A outer s H vs Q E hr hsp => ?_
  obtain ⟨c, a, ns, known, x, rfl, hc, hS, nd1, sub, short, xin, hq⟩ := hsp
  refine ⟨_, pss_cons (ps_expr (pe_call GK hr rfl C.gCK FK.kp bK .nil pass0 (pa_cons (pv 0) (pa_cons (pv 1) pa_nil))))
    (pss_one (ps_expr (pe_call GA (hr.mono (by decide)) rfl C.gCA FA.kp bA .nil pass0 (pa_cons (pv 0) (pa_cons (pv 2) pa_nil))))), ?_⟩
  refine ⟨_, rfl, _, rfl, c, a, ns, known, rfl, hc, hS, nd1, sub, short, fun H1 k1 => ?_⟩
  exact ⟨_, rfl, _, rfl, c, ns, x, rfl, SqL.of (k1 _ _ hc), xin, hq H1 k1⟩
end
end L2.TB
namespace L2.TB
open PySem PySem.Spec PyProof.Rows
/-! what is walked is a list or a tuple -/
def iSeq (K : PySem.W.Frag) (tl : TE) : TI := fun σ H R => tl σ H fun x H1 => ∃ a xs, x = .ref a ∧ ((SqL K H1 a xs ∧ R (Itl K a) H1) ∨ (SqT K H1 a xs ∧ R (Itt K a) H1))
theorem pi_seq {X : Cx} {tg l : Expr} {tl : TE} (hl : PE X l tl) : PI X tg l (iSeq X.K tl) := by
  refine PI.mk fun pins z σ H R I reading => thn (hl.run pins z σ H _ I reading) fun v z1 ⟨x, H1, I1, rel, a, xs, ex, both⟩ => ?_
  subst ex
  obtain rfl : v = Value.ref a := rel
  have one : ∀ (o : Obj), FpOk X pins H1 z1.heap.objs.size := fun _ => I1.fpOk (Nat.le_refl _) (I1.hok.fresh (Nat.le_refl _))
  have fresh : ∀ b ∈ [z1.heap.objs.size], FpOk X pins H1 b := fun b hb => by
    obtain rfl := List.mem_singleton.mp hb
    exact I1.fpOk (Nat.le_refl _) (I1.hok.fresh (Nat.le_refl _))
  rcases both with ⟨sq, q⟩ | ⟨sq, q⟩
  · obtain ⟨its, rv, isL, _⟩ := I1.list sq
    exact wpAny_pyIter_list isL.isList ⟨_, _, _, _, H1, rfl, I1.kept (t' := z1.toks) (fun b o e => Heap.get?_push_of_some _ e), turn_list a _, ⟨_, Heap.get?_push_size _ rfl, rfl, rfl⟩, fresh, q⟩
  · obtain ⟨its, rv, isT, _⟩ := I1.tuple sq
    exact wpAny_pyIter_tuple (show z1.heap.IsTuple a its.toArray from isT) ⟨_, _, _, _, H1, rfl, I1.kept (t' := z1.toks) (fun b o e => Heap.get?_push_of_some _ e), turn_tuple a _, ⟨_, Heap.get?_push_size _ rfl, rfl, rfl⟩, fresh, q⟩
/-- a for loop over it -/
theorem for_seq {K : PySem.W.Frag} {a : Addr} {xs : List V} {o : HO} {g : TG} {tb : TS} {D : Ends} {σ : St} {H : Hp} (ko : o = .lst xs ∨ o = .tup xs) (Pv : Nat → St → Hp → Prop) (h0 : Pv 0 σ H) (hl : ∀ i σ H, i ≤ xs.length → Pv i σ H → H a = some o)
    (hs : ∀ i x σ H, xs[i]? = some x → Pv i σ H → g x σ H fun σ2 H2 => tb { D with nx := Pv (i + 1), ct := Pv (i + 1), bk := D.nx } σ2 H2) (hd : ∀ σ H, Pv xs.length σ H → D.nx σ H) :
    ∃ b ys, V.ref a = V.ref b ∧ ((SqL K H b ys ∧ ForW (Itl K b) g tb D σ H) ∨ (SqT K H b ys ∧ ForW (Itt K b) g tb D σ H)) := by
  have q0 := hl 0 σ H (Nat.zero_le _) h0
  rcases ko with rfl | rfl
  · exact ⟨a, xs, rfl, .inl ⟨SqL.of q0, for_list Pv h0 (fun i σ H le p => SqL.of (hl i σ H le p)) hs hd⟩⟩
  · exact ⟨a, xs, rfl, .inr ⟨SqT.of q0, for_tup Pv h0 (fun i σ H le p => SqT.of (hl i σ H le p)) hs hd⟩⟩
/-- what a list comprehension asks of its turns -/
def LcW (J : It) (g : TG) (tt : TT) (te : TE) (vs : List Nat) (σ : St) (H1 : Hp) (Q : Addr → Hp → Prop) : Prop := ∀ D, H1 D = none → ∃ W : Nat → Nat → Hp → Prop, (∃ m, W 0 m (upd H1 D (.lst []))) ∧ ∀ i m H, W i m H →
  (J.stop i H ∧ Q D H) ∨ (J.go i H ∧ ∃ Nx : Hp → Prop, (∀ H', Nx H' → ∃ m', m' < m ∧ W (i + 1) m' H') ∧ ∀ x H', J.yld i H x H' → g x (wipe σ vs) H' fun σ2 H2 => wipe σ2 vs = wipe σ vs ∧ tt σ2 H2 fun b H3 =>
    if b = true then te σ2 H3 fun y H4 => ∃ acc, H4 D = some (.lst acc) ∧ acc.length < sizeLine ∧ Nx (upd H4 D (.lst (acc ++ [y]))) else Nx H3)
/-- a turn of a comprehension: keep tells whether x is kept, fv x is what is made of it; nothing that was there is changed -/
def LcTurn (g : TG) (tt : TT) (te : TE) (vs : List Nat) (σ : St) (xs : List V) (keep : V → Bool) (fv : V → V) (H1 : Hp) : Prop :=
  ∀ (i : Nat) (x : V) (H : Hp) (C : V → Hp → Prop) (N : Hp → Prop), xs[i]? = some x → Same H1 H → (keep x = true → ∀ H4, Same H H4 → C (fv x) H4) → (keep x = false → ∀ H4, Same H H4 → N H4) →
    g x (wipe σ vs) H fun σ2 H2 => wipe σ2 vs = wipe σ vs ∧ tt σ2 H2 fun b H3 => if b = true then te σ2 H3 C else N H3
theorem filter_snoc (keep : V → Bool) (fv : V → V) {xs : List V} {i : Nat} {x : V} (ex : xs[i]? = some x) :
    ((xs.take (i + 1)).filter keep).map fv = ((xs.take i).filter keep).map fv ++ (if keep x = true then [fv x] else []) := by
  have e1 : xs.take (i + 1) = xs.take i ++ [x] := by rw [List.take_succ, ex]; rfl
  rw [e1, List.filter_append, List.map_append]
  congr 1
  cases h : keep x <;> simp [h]
theorem lc_seq {K : PySem.W.Frag} {a : Addr} {xs : List V} {o : HO} {g : TG} {tt : TT} {te : TE} {vs : List Nat} {σ : St} {H1 : Hp} {Q : Addr → Hp → Prop} (ko : o = .lst xs ∨ o = .tup xs) (ho : H1 a = some o) (short : xs.length < 1000000) (keep : V → Bool) (fv : V → V)
    (turn : LcTurn g tt te vs σ xs keep fv H1) (fin : ∀ H D, H1 D = none → H D = some (.lst ((xs.filter keep).map fv)) → Same H1 H → Q D H) :
    ∃ b ys, V.ref a = V.ref b ∧ ((SqL K H1 b ys ∧ LcW (Itl K b) g tt te vs σ H1 Q) ∨ (SqT K H1 b ys ∧ LcW (Itt K b) g tt te vs σ H1 Q)) := by
  have go : ∀ D, H1 D = none → ∀ (i : Nat) (x : V) (H : Hp), xs[i]? = some x → (H D = some (.lst (((xs.take i).filter keep).map fv)) ∧ Same H1 H) → g x (wipe σ vs) H fun σ2 H2 => wipe σ2 vs = wipe σ vs ∧ tt σ2 H2 fun b H3 =>
      if b = true then te σ2 H3 fun y H4 => ∃ acc, H4 D = some (.lst acc) ∧ acc.length < sizeLine ∧ ((upd H4 D (.lst (acc ++ [y]))) D = some (.lst (((xs.take (i + 1)).filter keep).map fv)) ∧ Same H1 (upd H4 D (.lst (acc ++ [y])))) else (H3 D = some (.lst (((xs.take (i + 1)).filter keep).map fv)) ∧ Same H1 H3) := by
    rintro D nD i x H ex ⟨oD, s1⟩
    refine turn i x H _ _ ex s1 (fun k H4 s4 => ⟨_, s4 _ _ oD, ?_, ?_, ?_⟩) (fun k H4 s4 => ⟨?_, s1.trans s4⟩)
    · rw [sizeLine_eq, List.length_map]
      have := List.length_filter_le keep (xs.take i)
      rw [List.length_take] at this
      omega
    · rw [upd_same, filter_snoc keep fv ex, if_pos k]
    · intro b u e
      have nb : b ≠ D := ne_of_none e nD
      rw [upd_ne nb]
      exact s4 _ _ (s1 _ _ e)
    · rw [filter_snoc keep fv ex, k]
      simpa using s4 _ _ oD
  have all : xs.take xs.length = xs := List.take_length
  rcases ko with rfl | rfl
  · exact ⟨a, xs, rfl, .inl ⟨SqL.of ho, fun D nD => lc_list (xs := xs) (fun i H => H D = some (.lst (((xs.take i).filter keep).map fv)) ∧ Same H1 H) ⟨upd_same, same_new nD⟩ (fun i H _ p => SqL.of (p.2 _ _ ho)) (fun i x H ex p => go D nD i x H ex p)
      (fun H p => fin H D nD (by rw [all] at p; exact p.1) p.2)⟩⟩
  · exact ⟨a, xs, rfl, .inr ⟨SqT.of ho, fun D nD => lc_tup (xs := xs) (fun i H => H D = some (.lst (((xs.take i).filter keep).map fv)) ∧ Same H1 H) ⟨upd_same, same_new nD⟩ (fun i H _ p => SqT.of (p.2 _ _ ho)) (fun i x H ex p => go D nD i x H ex p)
      (fun H p => fin H D nD (by rw [all] at p; exact p.1) p.2)⟩⟩
end L2.TB
namespace L2.TB
open PySem PySem.Spec PyProof.Rows
theorem boot_all' : bootBuiltins "all" = some (.builtin "all") := by decide +kernel
/-- a comprehension without a test over anything: ys is what it makes -/
theorem lc_gen {J : It} {g : TG} {tt : TT} {te : TE} {vs : List Nat} {σ : St} {H1 : Hp} {Q : Addr → Hp → Prop} (ys : List V) (short : ys.length < 1000000) (go : ∀ i H, Same H1 H → i < ys.length → J.go i H) (stop : ∀ H, Same H1 H → J.stop ys.length H)
    (turn : ∀ (i : Nat) (x y : V) (H H' : Hp) (C : V → Hp → Prop) (N : Hp → Prop), ys[i]? = some y → Same H1 H → J.yld i H x H' → (∀ H4, Same H H4 → C y H4) → g x (wipe σ vs) H' fun σ2 H2 => wipe σ2 vs = wipe σ vs ∧ tt σ2 H2 fun b H3 => if b = true then te σ2 H3 C else N H3)
    (fin : ∀ H D, H1 D = none → H D = some (.lst ys) → Same H1 H → Q D H) : LcW J g tt te vs σ H1 Q := by
  intro D nD
  refine ⟨fun i m H => m = ys.length - i ∧ i ≤ ys.length ∧ H D = some (.lst (ys.take i)) ∧ Same H1 H, ⟨_, rfl, Nat.zero_le _, upd_same, same_new nD⟩, ?_⟩
  rintro i m H ⟨rfl, le, oD, s1⟩
  by_cases lt : i < ys.length
  · refine .inr ⟨go i H s1 lt, fun H' => H' D = some (.lst (ys.take (i + 1))) ∧ Same H1 H', fun H' h => ⟨ys.length - (i + 1), by omega, rfl, lt, h⟩, fun x H' yl => ?_⟩
    have ey : ys[i]? = some ys[i] := List.getElem?_eq_getElem lt
    refine turn i x ys[i] H H' _ _ ey s1 yl fun H4 s4 => ⟨_, s4 _ _ oD, ?_, ?_, ?_⟩
    · rw [sizeLine_eq, List.length_take]; omega
    · rw [upd_same, List.take_succ, ey]; rfl
    · intro b u e
      rw [upd_ne (ne_of_none e nD)]
      exact s4 _ _ (s1 _ _ e)
  · obtain rfl : i = ys.length := by omega
    rw [List.take_length] at oD
    exact .inl ⟨stop H s1, fin H D nD oD s1⟩
def bools (n : Nat) : List V := List.replicate n (V.bl true)
theorem bools_map (n : Nat) : bools n = (List.replicate n true).map V.bl := by unfold bools; rw [List.map_replicate]
theorem bools_at {n i : Nat} {y : V} (h : (bools n)[i]? = some y) : y = .bl true ∧ i < n := by
  unfold bools at h
  rw [List.getElem?_replicate] at h
  split at h
  · exact ⟨(Option.some.inj h).symm, by assumption⟩
  · cases h
theorem bools_len (n : Nat) : (bools n).length = n := List.length_replicate
theorem all_true (n : Nat) : (List.replicate n true).all id = true := by simp
def spIsName : Sp := fun vs H Q _ => ∃ x : Str, vs = [.str x] ∧ NmOk x ∧ ∀ H', Same H H' → Q (.bl true) H'
abbrev NIn : List Str := ["thing", "sign"]
theorem scIsName : FnScope NIn ["thing"] (defScope sIsName) := ⟨rfl, rfl, rfl, by decide +kernel, rfl, by decide +kernel, by decide +kernel⟩
/-- a dict has just these names, all true -/
def spHasJust : Sp := fun vs H Q _ => ∃ (d c : Addr) (kvs : List (Key × V)) (ns : List Str), vs = [.ref d, .ref c] ∧ H d = some (.dK kvs) ∧ H c = some (.lst (ns.map V.str)) ∧ kvs.map (·.1) = ns.map Sum.inr ∧ ns.length < 1000 ∧ ∀ H', Same H H' → Q (.bl true) H'
abbrev NHj : List Str := ["thing", "names", "name"]
theorem scHasJust : FnScope NHj ["thing", "names"] (defScope sHasJust) := ⟨rfl, rfl, rfl, by decide +kernel, rfl, by decide +kernel, by decide +kernel⟩
section
variable {P : Program} {w : World} {K : PySem.W.Frag} {mg : Str → Option Value} {base : Heap} {f : Addr} {fd : FuncData}
theorem ok_isName (F : Fun K "is_name" "is_name" sIsName f fd) (gI : mg "isinstance" = none) (gS : mg "str" = none) (gN : mg "len" = none) (gA : mg "all" = none) (gL : ∃ t, mg "LONGEST" = some (.int 40 t)) (gSg : ∃ t, mg "SIGNS" = some (.str (Str.ofString "abcdefghijklmnopqrstuvwxyz0123456789.") t)) :
    FnOk P w K mg base CX0 1 f fd ["thing"] spIsName := by
  obtain ⟨tL, gL⟩ := gL
  obtain ⟨tS, gSg⟩ := gSg
  refine F.ok scIsName (fun vs H Q E h => by obtain ⟨x, e, _⟩ := h; rw [e]; rfl) fun cdv A outer s H vs Q E hr hsp => ?_
  obtain ⟨x, rfl, ok, hq⟩ := hsp
  obtain ⟨l1, l2, chars⟩ := ok
  have nd := scIsName.nd
  refine ⟨_, pss_cons (ps_if (PW.pt (pw_or (pt_not (pt_val (pe_callB (r := rIsi K) call_isi rfl gI boot_isi (pa_cons (pv 0) (pa_cons (pe_bltn (v := .ty "str") rfl gS boot_str' rfl) pa_nil)))))
      (pw_or1 (pt_not (pt_chain op_le op_le pe_int (pe_callB call_len_str rfl gN boot_len (pa_cons (pv 0) pa_nil)) (pe_glob (v := .int 40) rfl gL ⟨_, rfl⟩)))))) (pss_one ps_never) pss_nil)
    (pss_one (ps_ret (pe_callB (cr_all rfl) rfl gA boot_all' (pa_cons (pe_lc (own := [("sign", 1)]) (tt := tYes) rfl nd (pi_str (pv 0)) (blkOk_by (N := NIn) (sc := defScope sIsName) (by decide +kernel)) (fun _ _ _ _ _ => pg_name (i := 1) nd rfl (Or.inl rfl)) (fun _ _ _ _ _ => pts_nil)
      (fun _ _ _ _ _ => pe_cmpR op_in_sign (pv 1) (pe_glob (v := .str (Str.ofString "abcdefghijklmnopqrstuvwxyz0123456789.")) rfl gSg ⟨_, rfl⟩) rfl)) pa_nil)))), ?_⟩
  have lz : x.length = x.cps.toList.length := (Array.length_toList (xs := x.cps)).symm
  refine ⟨_, rfl, _, _, _, _, true, rfl, .ty _, .base (.str x), kit_ty (by decide +kernel), _, rfl, iteF ?_⟩
  refine ⟨_, rfl, x, rfl, (by rw [sizeLine_eq]; omega), _, _, rfl, rfl, _, rfl, ?_⟩
  rw [decide_eq_true (by omega : (1 : Int) ≤ (x.length : Nat))]
  refine iteT ⟨_, _, rfl, rfl, _, rfl, ?_⟩
  rw [decide_eq_true (by omega : ((x.length : Nat) : Int) ≤ 40)]
  refine iteF ?_
  refine ⟨_, rfl, x, rfl, lc_gen (bools x.cps.toList.length) (by rw [bools_len]; omega) (fun i H' _ lt => ?_) (fun H' _ => ?_) ?_ ?_⟩
  · rw [bools_len, Array.length_toList] at lt; exact lt
  · rw [bools_len, Array.length_toList]; exact Nat.le_refl _
  · rintro i v y H2 H3 Cn Nn ey s2 ⟨rfl, c, ec, rfl⟩ yes
    obtain ⟨rfl, lt⟩ := bools_at ey
    have cin : c ∈ signsL := chars c (List.mem_of_getElem? (by rw [Array.getElem?_toList]; exact ec))
    refine ⟨rfl, ?_⟩
    refine ⟨_, rfl, c, _, rfl, rfl, ?_⟩
    have z := yes H3 (Same.refl _)
    have e : decide (c ∈ (Str.ofString "abcdefghijklmnopqrstuvwxyz0123456789.").cps.toList) = true := decide_eq_true cin
    rw [e]
    exact z
  · intro H2 D nD oD s2
    rw [bools_map] at oD
    refine ⟨D, _, rfl, SqL.of oD, ?_⟩
    rw [all_true]
    exact hq H2 s2
end
end L2.TB
/-! a def that is handed the error that is handled -/
namespace L2.TB
open PySem PySem.Spec PyProof.Rows
/-- what such a def promises: sp is told of the error's place, its class, its dict -/
structure FnE (P : Program) (w : World) (K : PySem.W.Frag) (mg : Str → Option Value) (base : Heap) (k : Nat) (f : Addr) (fd : FuncData) (ps : List Str) (sp : Addr → Addr → Addr → Sp) : Prop where
  len : ∀ a C dd vs H Q E, sp a C dd vs H Q E → vs.length = ps.length
  run : ∀ (B : Around) (out : List Env) (z : Shared) (H : Hp) (args : Args) (us : List Value) (vs : List V) (Q : VK) (E : XK) (p : Addr × Obj) (C dd : Addr), L2H.RoomH k B → Zc (.ref C) (some dd) p.2 → (∃ q, p.2.data = .fields q) → L2H.PinOk out H z p → Env0 P w K mg base B out z H → BindsTo z fd args (ps.zip us) → Vals vs us → sp p.1 C dd vs H Q E →
    codeAny (model P w) B (.call (.ref f) args) (CR CX0 out P w H z Q E) z
theorem fn_ofE {P : Program} {w : World} {K : PySem.W.Frag} {mg : Str → Option Value} {base : Heap} {k : Nat} {f : Addr} {name qual : Str} {params : Arguments} {body : List Stmt} {scope : Scope} {dV kV doc pm cdv ct oc : Value} {an od : Option Addr}
    {osl : Array (Option Value)} {N ps : List Str} {sp : Addr → Addr → Addr → Sp} (lk : K.lookup f = some ⟨oc, od, .func (PySem.W.fnOf name qual params body scope dV kV doc pm an cdv ct), osl⟩) (hcd : PySem.W.codeIn K cdv qual = true) (S : FnScope N ps scope)
    (len : ∀ a C dd vs H Q E, sp a C dd vs H Q E → vs.length = ps.length)
    (go : ∀ (B : Around) (out : List Env) (z : Shared) (H : Hp) (vs : List V) (Q : VK) (E : XK) (p : Addr × Obj) (C dd : Addr), Zc (.ref C) (some dd) p.2 → (∃ q, p.2.data = .fields q) → sp p.1 C dd vs H Q E →
      ∃ t, PSs (L2H.cxH CX0 P w K mg base N qual scope f cdv B out z H E p) body t ∧ t { nx := fun _ H' => Q .non H', rt := Q } (L2.start N vs) H) :
    FnE P w K mg base (k + 1) f (PySem.W.fnOf name qual params body scope dV kV doc pm an cdv ct) ps sp := by
  refine ⟨len, fun B out z H args us vs Q E p C dd hr hz hd pin e0 bnd rel h => ?_⟩
  have lv := len _ _ _ _ _ _ _ h
  have inK : K.In z.heap := e0.mod.kin.keeps fun b o e => (e0.bs b o e).1
  have noL : z.heap.NoLimit := e0.mod.nolimit.keeps fun b o e => (e0.bs b o e).1
  have kinds : ∀ y ∈ ps.zip us, scope.names.lookup y.1 = some .local ∨ (scope.names.lookup y.1 = some .cell ∧ ((cellsFrom (z.heap.objs.size + 1) scope.names []).lookup y.1).isSome = true) := fun ⟨n, v⟩ hy =>
    (S.par n (List.of_mem_zip hy).1).imp id fun c => ⟨c, PySem.W.cellsFrom_some _ _ _ (.inl c)⟩
  refine codeAny_call_function hr.depth (inK _ _ lk) rfl S.co S.gen rfl (PySem.W.codeRec_of inK hcd) (bnd _ _ _ _ (wpAny_newFunctionEnv_cells S.kind kinds fun env he z1 x => ?_))
  subst he
  refine ⟨noL.keeps x.toInCall.keep, codeAny_func ?_⟩
  obtain ⟨t, ht, hq⟩ := go B out z H vs Q E p C dd hz hd h
  have I := L2H.inv_startH (CX := CX0) (A := B) (E := E) (f := f) (cd := cdv) (qual := qual) (mg := mg) S pin e0 lv rel x
  refine wpAny_mono (ht.run [] z1 (L2.start N vs) H _ I hq) (fun fl z2 done => ?_) fun e z2 q => q
  cases fl with
  | ret u => obtain ⟨v, σ2, H2, J, rv, q⟩ := done; exact ⟨v, H2, J.os, J.bare, J.base, J.hok, rv, q⟩
  | next => obtain ⟨σ2, H2, J, q⟩ := done; exact ⟨V.non, H2, J.os, J.bare, J.base, J.hok, (rfl : RelV V.non Value.none), q⟩
  | brk => obtain ⟨_, _, _, q⟩ := done; exact q.elim
  | cont => obtain ⟨_, _, _, q⟩ := done; exact q.elim
/-- the reading of f(e), e the error of this suite -/
def tCallE (sp : Addr → Addr → Addr → Sp) (a : Addr) (cls : Value) (d : Option Addr) (ta : TA) : TE := fun σ H Q => ta σ H fun vs H1 => ∃ C dd, cls = .ref C ∧ d = some dd ∧ sp a C dd vs H1 Q E0
section
variable {X : Cx} {k : Nat} {f a : Addr} {fd : FuncData} {ps : List Str} {sp : Addr → Addr → Addr → Sp} {x : Str} {q pos : Pos} {e : Expr} {ta : TA} {oe : Obj} {cls : Value} {d : Option Addr} {pn : List (Addr × Obj)}
theorem pe_callE (F : FnE X.prog X.w X.K X.mg X.base k f fd ps sp) (hr : L2H.RoomH k X.A) (hg : Gl X x) (hm : X.mg x = some (.ref f)) (hk : PySem.W.keepIn X.K (.ref f) = true) (hb : Binds X.K fd ps []) (hz : Zc cls d oe) (hf : ∃ vs, oe.data = .fields vs)
    (ha : PA (X.suite a ((a, oe) :: pn)) [e] ta) (hdb : (x == ("__debug__" : Str)) = false := by decide) (hs : starEach [e] X.env = (false, eval e X.env) :: starEach [] X.env := by rfl) :
    PE (X.suite a ((a, oe) :: pn)) (.Call (.Name x q) [e] [] pos) (tCallE sp a cls d ta) := by
  refine ⟨fun pins z σ H Q I h => wpAny_Call_Name_kw (ld_glob (X := X.suite a ((a, oe) :: pn)) I hg hm ?_ hdb)⟩
  refine PySem.W.callWith_K (h₀ := X.base) I.ok.mod.kin hk (thn (ha.run pos pins z σ H _ I h) fun us z1 ⟨vs, H1, I1, r, C, dd, ec, ed, q1⟩ => ⟨I1.kIn, ?_⟩) hs rfl
  subst ec ed
  have lv : us.length = ps.length := by rw [← r.length]; exact F.len _ _ _ _ _ _ _ q1
  have b := hb z1 us I1.kIn (by rw [List.append_nil]; exact lv)
  rw [List.append_nil] at b
  have P1 := I1.pin (a, oe) (List.mem_append_left _ List.mem_cons_self)
  have pin : L2H.PinOk X.stack H1 z1 (a, oe) := ⟨P1.1, P1.2.1, fun hm => (List.mem_cons.mp (I1.stkSub a hm)).elim P1.2.2.1 P1.2.2.2.1, P1.2.2.2.2⟩
  refine wpAny_call (codeAny_mono (F.run (X.suite a ((a, oe) :: pn)).A X.stack z1 H1 ⟨us, []⟩ us vs Q E0 (a, oe) C dd ⟨hr.dp, hr.un⟩ hz hf pin I1.env0 b r q1) fun rr z2 hq => ?_)
  cases rr with
  | error er => exact hq.elim
  | ok fl =>
    cases fl with
    | ret u => exact I1.after hq
    | next => exact hq.elim
    | brk => exact hq.elim
    | cont => exact hq.elim
end
/-! in the body of such a def -/
/-- the error at a, of the class at C, its dict at dd, is pinned -/
structure Held (X : Cx) (a C dd : Addr) : Prop where
  ex : ∃ oe : Obj, (a, oe) ∈ X.pn ∧ Zc (.ref C) (some dd) oe ∧ ∃ vs, oe.data = .fields vs
theorem Held.of {P : Program} {w : World} {K : PySem.W.Frag} {mg : Str → Option Value} {base : Heap} {N : List Str} {qual : Str} {scope : Scope} {f : Addr} {cd : Value} {B : Around} {out : List Env} {z : Shared} {H : Hp} {E : XK} {p : Addr × Obj} {C dd : Addr} (hz : Zc (.ref C) (some dd) p.2) (hd : ∃ q, p.2.data = .fields q) :
    Held (L2H.cxH CX0 P w K mg base N qual scope f cd B out z H E p) p.1 C dd := ⟨p.2, List.mem_singleton.mpr rfl, hz, hd⟩
theorem held_inst {X : Cx} {a C dd : Addr} (h : Held X a C dd) {pins : List (Addr × Obj)} {σ : L2.St} {H : Hp} {s : Shared} (I : Inv X pins σ H s) {fs : List (Str × V)} (hx : H dd = some (.xd fs)) :
    ∃ oe od, PySem.W.InstAt s.heap a oe C (some od) ∧ ∀ n v, fs.lookup n = some v → ∃ u, PySem.W.lookIn n od = some (some u) ∧ RelV v u := by
  obtain ⟨oe, pin, hz, q, hd⟩ := h.ex
  have there := (I.pin (a, oe) (List.mem_append_left _ pin)).1
  obtain ⟨mA, ns, rel⟩ : ObjOk X.prog X.w H s.heap dd (.xd fs) := I.hok dd _ hx
  obtain ⟨od, ho, hl⟩ := lookIn_ns ns
  refine ⟨oe, od, ⟨there, hz.1, by unfold PySem.W.notCls; rw [hd] <;> rfl, by rw [hz.2]; exact ho⟩, fun n v e => ?_⟩
  obtain ⟨u, hu, ru⟩ := RelO.some_of (v := v) (o := mA n) (by rw [← e]; exact rel n)
  exact ⟨u, by rw [hl, hu], ru⟩
/-- e.n -/
def tHeldF (K : PySem.W.Frag) (a C dd : Addr) (n : Str) (te : TE) : TE := fun σ H Q => te σ H fun x H1 => x = .ref a ∧ XfC K C ∧ PySem.W.findIn K (.ref C) n = some none ∧ ∃ (fs : List (Str × V)) (v : V), H1 dd = some (.xd fs) ∧ fs.lookup n = some v ∧ Q v H1
theorem pe_heldF {X : Cx} {a C dd : Addr} {e : Expr} {te : TE} {pos : Pos} {n : Str} (h : Held X a C dd) (he : PE X e te) (hb : attributeBase e n X.env (eval e X.env) = eval e X.env := by rfl) : PE X (.Attribute e n pos) (tHeldF X.K a C dd n te) := by
  refine ⟨fun pins s σ H Q I r => attr_of hb (thn (he.run pins s σ H _ I r) fun u s1 ⟨x, H1, I1, rx, ex, T, no, fs, v, ea, l, q⟩ => ?_)⟩
  subst ex; obtain rfl : u = Value.ref a := rx
  obtain ⟨oe, od, J, lk⟩ := held_inst h I1 ea
  obtain ⟨u, hu, ru⟩ := lk n v l
  exact HandSPX.exc_get I1.kIn J T.ga T.gg T.exC (PySem.W.findObj_own T.hdC no rfl hu) (handed_of ru) ⟨v, H1, I1.tok _, ru, q⟩
/-- what isinstance asks of a class of errors -/
structure ExcI (K : PySem.W.Frag) (C : Addr) : Prop where
  xf : XfC K C
  cs : (PySem.W.clsIn K C).isSome = true
  (ca : PySem.W.findIn K (.ref C) "__class__" = some (some (.builtin "object.__class__"))) (cn : PySem.W.specialIn K (.builtin "object.__class__") "__get__" = some (some (.builtin "getset_descriptor.__get__")))
  (ct : PySem.W.takesIn K (.builtin "object.__class__") = some true) (cm : PySem.W.mroIn K C (.type "object") = some true)
/-- isinstance(e, D) -/
def rHeldI (K : PySem.W.Frag) (a C dd : Addr) : List V → Hp → VK → Prop := fun xs H Q => ∃ (c : V) (u : Value) (b : Bool) (fs : List (Str × V)), xs = [.ref a, c] ∧ ClsV c u ∧ H dd = some (.xd fs) ∧ ExcI K C ∧ PySem.W.kitOne K (.ref C) u = some b ∧ Q (.bl b) H
theorem call_heldI {X : Cx} {a C dd : Addr} (h : Held X a C dd) : CallR X (.builtin "isinstance") (rHeldI X.K a C dd) := by
  intro pins s σ H xs us Q I rs ⟨c, u, b, fs, ex, kc, ea, T, e, q⟩
  subst ex
  obtain ⟨u1, u2, rfl, r1, r2⟩ := vals2 rs
  obtain rfl := kc.eq r2
  obtain rfl : u1 = Value.ref a := r1
  obtain ⟨oe, od, J, _⟩ := held_inst h I ea
  exact PySem.W.kia_one (PySem.W.kitx_exc T.cs T.xf.ga T.xf.gg T.xf.exC T.ca T.cn T.ct T.cm) I.kIn J e (fun z => nomatch z) fun tk => ⟨.bl b, H, I.tok tk, rfl, q⟩
end L2.TB
/-! _law_error -/
namespace L2.TB
open PySem PySem.Spec PyProof.Rows
/-- the classes that are raised: the name, the word for it, its field -/
structure Rz where
  x : Str
  tag : Str
  fld : Str
/-- an expression that is not reached -/
theorem pe_nvr {X : Cx} {e : Expr} : PE X e (fun _ _ _ => False) := ⟨fun _ _ _ _ _ _ h => h.elim⟩
def rzT : List Rz := [⟨"BadPlan", "plan", "thing"⟩, ⟨"BadAnswers", "answers", "thing"⟩]
def chnT : List Str := ["BadKnown", "NoQuestion", "BadArc", "BadNames", "BadAmounts", "BadWorld", "BadPlan", "BadAnswers"]
structure ElOk (K : PySem.W.Frag) (mg : Str → Option Value) (ca : Str → Addr) (WE : Addr) : Prop where
  g : ∀ x ∈ chnT, mg x = some (.ref (ca x))
  w : mg "WorldError" = some (.ref WE)
  k : ∀ r ∈ rzT, ∀ y ∈ chnT, PySem.W.kitOne K (.ref (ca r.x)) (.ref (ca y)) = some (decide (r.x = y))
  i : ∀ r ∈ rzT, ExcI K (ca r.x)
  no : ∀ r ∈ rzT, PySem.W.findIn K (.ref (ca r.x)) r.fld = some none
  ex : ∀ r ∈ rzT, PySem.W.exmOne K (.ref (ca r.x)) (.ref WE) = some true
def spErrL (ca : Str → Addr) : Addr → Addr → Addr → Sp := fun a C dd vs H Q _ => ∃ (r : Rz) (fs : List (Str × V)) (v : V), vs = [.ref a] ∧ r ∈ rzT ∧ C = ca r.x ∧ H dd = some (.xd fs) ∧ fs.lookup r.fld = some v ∧ ∀ t, H t = none → Q (.ref t) (upd H t (.tup [.str r.tag, v]))
abbrev NEl : List Str := ["e"]
theorem scErrL : FnScope NEl ["e"] (defScope sErrL) := ⟨rfl, rfl, rfl, by decide +kernel, rfl, by decide +kernel, by decide +kernel⟩
section
variable {P : Program} {w : World} {K : PySem.W.Frag} {mg : Str → Option Value} {base : Heap} {f : Addr} {fd : FuncData} {ca : Str → Addr} {WE : Addr}
theorem ok_errL (F : Fun K "_law_error" "_law_error" sErrL f fd) (L : ElOk K mg ca WE) (gI : mg "isinstance" = none) : FnE P w K mg base 1 f fd ["e"] (spErrL ca) := by
  obtain ⟨oc, od, kV, doc, pm, an, cdv, ct, osl, rfl, lk, hcd⟩ := F.ex
  refine fn_ofE lk hcd scErrL (fun a C dd vs H Q E h => by obtain ⟨r, fs, v, e, _⟩ := h; rw [e]; rfl) fun B out z H vs Q E p C dd hz hd h => ?_
  have hl := Held.of (P := P) (w := w) (K := K) (mg := mg) (base := base) (N := NEl) (qual := "_law_error") (scope := defScope sErrL) (f := f) (cd := cdv) (B := B) (out := out) (z := z) (H := H) (E := E) hz hd
  have g1 := L.g "BadKnown" (by simp [chnT])
  have g2 := L.g "NoQuestion" (by simp [chnT])
  have g3 := L.g "BadArc" (by simp [chnT])
  have g4 := L.g "BadNames" (by simp [chnT])
  have g5 := L.g "BadAmounts" (by simp [chnT])
  have g6 := L.g "BadWorld" (by simp [chnT])
  have g7 := L.g "BadPlan" (by simp [chnT])
  have g8 := L.g "BadAnswers" (by simp [chnT])
  refine ⟨_, pss_cons (ps_if (pt_val (pe_callB (call_heldI hl) rfl gI boot_isi (pa_cons (pv 0) (pa_cons (pe_glob (v := .ref (ca "BadKnown")) rfl g1 rfl) pa_nil)))) (pss_one ps_never) pss_nil)
    (pss_cons (ps_if (pt_val (pe_callB (call_heldI hl) rfl gI boot_isi (pa_cons (pv 0) (pa_cons (pe_glob (v := .ref (ca "NoQuestion")) rfl g2 rfl) pa_nil)))) (pss_one ps_never) pss_nil)
    (pss_cons (ps_if (pt_val (pe_callB (call_heldI hl) rfl gI boot_isi (pa_cons (pv 0) (pa_cons (pe_glob (v := .ref (ca "BadArc")) rfl g3 rfl) pa_nil)))) (pss_one ps_never) pss_nil)
    (pss_cons (ps_if (pt_val (pe_callB (call_heldI hl) rfl gI boot_isi (pa_cons (pv 0) (pa_cons (pe_glob (v := .ref (ca "BadNames")) rfl g4 rfl) pa_nil)))) (pss_one ps_never) pss_nil)
    (pss_cons (ps_if (pt_val (pe_callB (call_heldI hl) rfl gI boot_isi (pa_cons (pv 0) (pa_cons (pe_glob (v := .ref (ca "BadAmounts")) rfl g5 rfl) pa_nil)))) (pss_one ps_never) pss_nil)
    (pss_cons (ps_if (pt_val (pe_callB (call_heldI hl) rfl gI boot_isi (pa_cons (pv 0) (pa_cons (pe_glob (v := .ref (ca "BadWorld")) rfl g6 rfl) pa_nil)))) (pss_one ps_never) pss_nil)
    (pss_cons (ps_if (pt_val (pe_callB (call_heldI hl) rfl gI boot_isi (pa_cons (pv 0) (pa_cons (pe_glob (v := .ref (ca "BadPlan")) rfl g7 rfl) pa_nil)))) (pss_one (ps_ret (pe_tup (pa_cons pe_str (pa_cons (pe_heldF hl (pv 0)) pa_nil))))) pss_nil)
    (pss_one (ps_ret (pe_ifExp (pt_val (pe_callB (call_heldI hl) rfl gI boot_isi (pa_cons (pv 0) (pa_cons (pe_glob (v := .ref (ca "BadAnswers")) rfl g8 rfl) pa_nil)))) (pe_tup (pa_cons pe_str (pa_cons (pe_heldF hl (pv 0)) pa_nil))) pe_nvr))))))))), ?_⟩
  obtain ⟨r, fs, v, rfl, hr, rfl, hd2, hl2, hq⟩ := h
  have kk := fun y hy => L.k r hr y hy
  have ii := L.i r hr
  have no := L.no r hr
  simp only [rzT, List.mem_cons, List.not_mem_nil, or_false] at hr
  rcases hr with rfl | rfl
  · refine ⟨_, rfl, _, _, _, fs, rfl, .own _, hd2, ii, kk "BadKnown" (by simp [chnT]), _, rfl, iteF ?_⟩
    refine ⟨_, rfl, _, _, _, fs, rfl, .own _, hd2, ii, kk "NoQuestion" (by simp [chnT]), _, rfl, iteF ?_⟩
    refine ⟨_, rfl, _, _, _, fs, rfl, .own _, hd2, ii, kk "BadArc" (by simp [chnT]), _, rfl, iteF ?_⟩
    refine ⟨_, rfl, _, _, _, fs, rfl, .own _, hd2, ii, kk "BadNames" (by simp [chnT]), _, rfl, iteF ?_⟩
    refine ⟨_, rfl, _, _, _, fs, rfl, .own _, hd2, ii, kk "BadAmounts" (by simp [chnT]), _, rfl, iteF ?_⟩
    refine ⟨_, rfl, _, _, _, fs, rfl, .own _, hd2, ii, kk "BadWorld" (by simp [chnT]), _, rfl, iteF ?_⟩
    refine ⟨_, rfl, _, _, _, fs, rfl, .own _, hd2, ii, kk "BadPlan" (by simp [chnT]), _, rfl, iteT ?_⟩
    exact ⟨_, rfl, rfl, ii.xf, no, fs, v, hd2, hl2, (by show 2 ≤ sizeLine; decide), fun t nt => hq t nt⟩
  · refine ⟨_, rfl, _, _, _, fs, rfl, .own _, hd2, ii, kk "BadKnown" (by simp [chnT]), _, rfl, iteF ?_⟩
    refine ⟨_, rfl, _, _, _, fs, rfl, .own _, hd2, ii, kk "NoQuestion" (by simp [chnT]), _, rfl, iteF ?_⟩
    refine ⟨_, rfl, _, _, _, fs, rfl, .own _, hd2, ii, kk "BadArc" (by simp [chnT]), _, rfl, iteF ?_⟩
    refine ⟨_, rfl, _, _, _, fs, rfl, .own _, hd2, ii, kk "BadNames" (by simp [chnT]), _, rfl, iteF ?_⟩
    refine ⟨_, rfl, _, _, _, fs, rfl, .own _, hd2, ii, kk "BadAmounts" (by simp [chnT]), _, rfl, iteF ?_⟩
    refine ⟨_, rfl, _, _, _, fs, rfl, .own _, hd2, ii, kk "BadWorld" (by simp [chnT]), _, rfl, iteF ?_⟩
    refine ⟨_, rfl, _, _, _, fs, rfl, .own _, hd2, ii, kk "BadPlan" (by simp [chnT]), _, rfl, iteF ?_⟩
    refine ⟨_, rfl, _, _, _, fs, rfl, .own _, hd2, ii, kk "BadAnswers" (by simp [chnT]), _, rfl, iteT ?_⟩
    exact ⟨_, rfl, rfl, ii.xf, no, fs, v, hd2, hl2, (by show 2 ≤ sizeLine; decide), fun t nt => hq t nt⟩
end
end L2.TB
/-! _law_tried, of what is refused -/
namespace L2.TB
open PySem PySem.Spec PyProof.Rows
abbrev NTd : List Str := ["ask", "e"]
theorem scTd : FnScope NTd ["ask"] (defScope sTried) := ⟨rfl, rfl, rfl, by decide +kernel, rfl, by decide +kernel, by decide +kernel⟩
/-- what _law_tried makes of what was raised -/
def EchE (ca : Str → Addr) (Q : VK) : XK := fun cls d H => ∃ (r : Rz) (dd : Addr) (fs : List (Str × V)) (v : V), r ∈ rzT ∧ cls = .ref (ca r.x) ∧ d = some dd ∧ H dd = some (.xd fs) ∧ fs.lookup r.fld = some v ∧ ∀ t, H t = none → Q (.ref t) (upd H t (.tup [.str r.tag, v]))
/-- nothing else is raised, and nothing is told -/
def TTe (ca : Str → Addr) : (XK → Hp → VK → Prop) → Hp → VK → Prop := fun tl H Q => ∀ (E : XK) (R : VK), (∀ cls d H', EchE ca Q cls d H' → E cls d H') → tl E H R
abbrev tdCx (X : Cx) (g : Addr) (cdg : Value) (s : Shared) (H : Hp) : Cx := (cxOf C8.CX0 X.prog X.w X.K X.mg X.base NTd "_law_tried" (defScope sTried) g cdg X.A X.stack s H C8.E0).nox
abbrev clE (ca : Str → Addr) (WE : Addr) : TA.Cl := (.ref WE, some 1, fun a cls d => fun D σ H => tCallE (spErrL ca) a cls d (tCons (tVar 1) tNil) σ H D.rt)
section
variable {X : Cx} {g fe : Addr} {cdg : Value} {fde : FuncData} {q : Str} {ca : Str → Addr} {WE : Addr}
theorem tried_gives (L : ElOk X.K X.mg ca WE) (hr : Room 3 X.A) (GE : FnE X.prog X.w X.K X.mg X.base 1 fe fde ["e"] (spErrL ca)) (kE : PySem.W.keepIn X.K (.ref fe) = true) (bE : Binds X.K fde ["e"] []) (gE : X.mg "_law_error" = some (.ref fe)) :
    LamX.GivesTo X NTd "_law_tried" (defScope sTried) g cdg (defBody sTried) "ask" q (TTe ca) := by
  intro f c' s H Q tl act hco h
  have nd := scTd.nd
  refine ⟨_, pss_one (TA.ps_try_cls (X := tdCx X g cdg s H) (Wout := fun _ _ _ _ => False) (l := [clE ca WE])
        (tb := fun W D σ H => σ[0]? = some (some (.ref f)) ∧ H c' = some (LamX.CodeO c' q) ∧ tl (fun cls d H' => ∀ σ' : L2.St, σ'.length = 2 → W cls d σ' H') H fun v H1 => 2 ≤ sizeLine ∧ ∀ t, H1 t = none → D.rt (.ref t) (upd H1 t (.tup [.str "told", v])))
        rfl rfl nd LamX.takes0 (fun W pn xe tk _ => ?_)
        (.cons (k := clE ca WE) ⟨rfl, rfl⟩ ⟨rfl, by decide, .inl L.w⟩ (fun a oe cls d pn hz hf => pss_one (ps_ret (pe_callE (X := tdCx X g cdg s H) (x := "_law_error") GE (L2H.roomH_of ((hr.deeper _).mono (show 1 ≤ 2 by decide))) rfl gE kE bE hz hf (pa_cons (pv 1) pa_nil)))) .nil)), ?_⟩
  · have tk' : Takes ((tdCx X g cdg s H).tr pn xe) (fun cls d σ' H' => σ'.length = 2 → W cls d σ' H') := fun u s' ⟨a, B, sI, pins, σ, H, cls, d, e, I, nb, up, sky, na, os, ag, w⟩ => tk u s' ⟨a, B, sI, pins, σ, H, cls, d, e, I, nb, up, sky, na, os, ag, w I.len⟩
    have hp := fun p1 p2 => act (fun cls d σ' H' => σ'.length = 2 → W cls d σ' H') pn xe (fun cls d H' => ∀ σ' : L2.St, σ'.length = 2 → W cls d σ' H') p1 p2 tk' (fun cls d σ' H' e => e σ')
    exact pss_one (ps_ret (pe_tup (pa_cons pe_str (pa_cons (hp _ _) pa_nil))))
  · refine ⟨rfl, hco, h _ _ fun cls d H' e σ' l2 => ?_⟩
    obtain ⟨r, dd, fs, v, hr2, rfl, rfl, hd, hl, hz⟩ := e
    match σ', l2 with
    | [o0, o1], _ =>
      refine ⟨true, L.ex r hr2, fun _ a na => ?_, fun z => by cases z⟩
      exact ⟨_, rfl, ca r.x, dd, rfl, rfl, r, fs, v, rfl, hr2, rfl, hd, hl, hz⟩
end
end L2.TB
/-! data with a Lean type, dicts among it; == and != of it -/
namespace L2.TB
open PySem PySem.Spec PyProof.Rows
open PySem.W (EqTree)
theorem tree_mono {prog : Program} {w : World} {s : Shared} {n : Nat} {v y : Value} {b : Bool} (t : EqTree prog w s n v y b) : ∀ {m : Nat}, n ≤ m → EqTree prog w s m v y b := by
  induction t with
  | leaf h1 => exact fun h => .leaf fun A hu => h1 A (by omega)
  | same => exact fun h => .same
  | lists hne hl hl' hsz _ ih =>
    intro m h
    obtain ⟨k, rfl⟩ : ∃ k, m = k + 1 := ⟨m - 1, by omega⟩
    exact .lists hne hl hl' hsz fun j h1 h2 => ih j h1 h2 (by omega)
  | listsLen hne hl hl' hsz =>
    intro m h
    obtain ⟨k, rfl⟩ : ∃ k, m = k + 1 := ⟨m - 1, by omega⟩
    exact .listsLen hne hl hl' hsz
  | tuples hne hl hl' _ ih =>
    intro m h
    obtain ⟨k, rfl⟩ : ∃ k, m = k + 1 := ⟨m - 1, by omega⟩
    exact .tuples hne hl hl' fun j h1 h2 => ih j h1 h2 (by omega)
  | dicts hne ha hb da db _ ih =>
    intro m h
    obtain ⟨k, rfl⟩ : ∃ k, m = k + 1 := ⟨m - 1, by omega⟩
    exact .dicts hne ha hb da db fun k v y hm hv => ih k v y hm hv (by omega)
class PyD (α : Type) where
  at_ : (Addr → Prop) → Hp → V → α → Prop
  eqv : α → α → Bool
  depth : Nat
  same : ∀ (A B : Addr → Prop) (H : Hp) (v : V) (p q : α), at_ A H v p → at_ B H v q → eqv p q = true
  tree : ∀ {X : Cx} {pins : List (Addr × Obj)} {σ : L2.St} {H : Hp} {s : Shared} {A B : Addr → Prop}, Inv X pins σ H s → ∀ (x y : V) (v u : Value) (p q : α), at_ A H x p → at_ B H y q → RelV x v → RelV y u → EqTree X.prog X.w s depth v u (eqv p q)
  kp : ∀ {A A' : Addr → Prop} {H H' : Hp} {v : V} {p : α}, at_ A H v p → (∀ b o, A b → H b = some o → A' b ∧ H' b = some o) → at_ A' H' v p
instance : PyD Str where
  at_ _ _ v x := v = .str x
  eqv a b := decide (a = b)
  depth := 0
  same _ _ _ v p q h1 h2 := by
    subst h1
    exact decide_eq_true (V.str.inj h2)
  tree {X pins σ H s A0 B0} I x y v u p q h1 h2 rx ry := by
    subst h1 h2
    obtain ⟨t, rfl⟩ := rx
    obtain ⟨t', rfl⟩ := ry
    refine .leaf fun A hu => ?_
    have z := SeqAt.eqAt_plain (.str p) (.str q) A s (.str p t) (.str q t') _ _ (Reads.str (h := s.heap) p t) (Reads.str (h := s.heap) q t') rfl rfl (by
      have := Nat.min_le_left (PyData.str p).depth (PyData.str q).depth
      have e : (PyData.str p).depth = 0 := rfl
      omega)
    have e : PyData.eqv (.str p) (.str q) = decide (p = q) := PySem.W.Datum.eqv p q
    rw [e] at z
    exact z
  kp h _ := h
instance : PyD Int where
  at_ _ _ v x := v = .int x
  eqv a b := decide (a = b)
  depth := 0
  same _ _ _ v p q h1 h2 := by
    subst h1
    exact decide_eq_true (V.int.inj h2)
  tree {X pins σ H s A0 B0} I x y v u p q h1 h2 rx ry := by
    subst h1 h2
    obtain ⟨t, rfl⟩ := rx
    obtain ⟨t', rfl⟩ := ry
    refine .leaf fun A hu => ?_
    have z := SeqAt.eqAt_plain (.int p) (.int q) A s (.int p t) (.int q t') _ _ (Reads.int (h := s.heap) p t) (Reads.int (h := s.heap) q t') rfl rfl (by
      have := Nat.min_le_left (PyData.int p).depth (PyData.int q).depth
      have e : (PyData.int p).depth = 0 := rfl
      omega)
    have e : PyData.eqv (.int p) (.int q) = decide (p = q) := PySem.W.Datum.eqv p q
    rw [e] at z
    exact z
  kp h _ := h
theorem vals_two {x1 x2 : V} : ∀ {us : List Value}, Vals [x1, x2] us → ∃ u1 u2, us = [u1, u2] ∧ RelV x1 u1 ∧ RelV x2 u2
  | _, .cons h1 (.cons h2 .nil) => ⟨_, _, rfl, h1, h2⟩
instance {α β : Type} [PyD α] [PyD β] : PyD (α × β) where
  at_ A H v p := ∃ a x y, v = .ref a ∧ A a ∧ H a = some (.tup [x, y]) ∧ PyD.at_ A H x p.1 ∧ PyD.at_ A H y p.2
  eqv p q := PyD.eqv p.1 q.1 && PyD.eqv p.2 q.2
  depth := max (PyD.depth α) (PyD.depth β) + 1
  same A B H v p q h1 h2 := by
    obtain ⟨a, x, y, rfl, _, o, a1, a2⟩ := h1
    obtain ⟨b, x', y', e, _, o', b1, b2⟩ := h2
    obtain rfl := V.ref.inj e
    rw [o] at o'
    have e2 := HO.tup.inj (Option.some.inj o')
    obtain rfl := (List.cons.inj e2).1
    obtain rfl := (List.cons.inj (List.cons.inj e2).2).1
    rw [PyD.same A B H x _ _ a1 b1, PyD.same A B H y _ _ a2 b2]
    rfl
  tree {X pins σ H s A0 B0} I x y v u p q h1 h2 rx ry := by
    obtain ⟨a, x1, x2, rfl, _, o, a1, a2⟩ := h1
    obtain ⟨b, y1, y2, rfl, _, o', b1, b2⟩ := h2
    cases (show v = Value.ref a from rx)
    cases (show u = Value.ref b from ry)
    by_cases e : a = b
    · subst e
      rw [o] at o'
      have e2 := HO.tup.inj (Option.some.inj o')
      obtain rfl := (List.cons.inj e2).1
      obtain rfl := (List.cons.inj (List.cons.inj e2).2).1
      rw [PyD.same A0 B0 H x1 _ _ a1 b1, PyD.same A0 B0 H x2 _ _ a2 b2]
      exact .same
    · obtain ⟨us, r1, p1, _⟩ := I.tuple (SqT.of (K := X.K) o)
      obtain ⟨ws, r2, p2, _⟩ := I.tuple (SqT.of (K := X.K) o')
      obtain ⟨u1, u2, rfl, ru1, ru2⟩ := vals_two r1
      obtain ⟨w1, w2, rfl, rw1, rw2⟩ := vals_two r2
      have t1 := tree_mono (PyD.tree I _ _ _ _ _ _ a1 b1 ru1 rw1) (Nat.le_max_left (PyD.depth α) (PyD.depth β))
      have t2 := tree_mono (PyD.tree I _ _ _ _ _ _ a2 b2 ru2 rw2) (Nat.le_max_right (PyD.depth α) (PyD.depth β))
      have z := EqTree.tuples (e := fun j => match j with | 0 => PyD.eqv p.1 q.1 | _ => PyD.eqv p.2 q.2) e p1 p2 (fun j h1 h2 => by
        match j, h1, h2 with
        | 0, _, _ => exact t1
        | 1, _, _ => exact t2
        | j + 2, h1, _ => exact absurd h1 (by simp))
      have e3 : ((List.range (min [u1, u2].toArray.size [w1, w2].toArray.size)).all (fun j => match j with | 0 => PyD.eqv p.1 q.1 | _ => PyD.eqv p.2 q.2) && [u1, u2].toArray.size == [w1, w2].toArray.size) = (PyD.eqv p.1 q.1 && PyD.eqv p.2 q.2) := by
        have : min [u1, u2].toArray.size [w1, w2].toArray.size = 2 := rfl
        rw [this]
        simp [List.range, List.range.loop]
      rw [e3] at z
      exact z
  kp h k := by
    obtain ⟨a, x, y, e, ha, o, a1, a2⟩ := h
    exact ⟨a, x, y, e, (k _ _ ha o).1, (k _ _ ha o).2, PyD.kp a1 k, PyD.kp a2 k⟩
/-- a dict with texts as its keys -/
structure Dc (α : Type) where
  l : List (Str × α)
def lk {α : Type} (l : List (Str × α)) (n : Str) : Option α := (l.find? fun e => decide (e.1 = n)).map (·.2)
def eqO {α : Type} [PyD α] : Option α → Option α → Bool
  | some a, some b => PyD.eqv a b
  | _, _ => false
theorem lk_cons {α : Type} (e : Str × α) (l : List (Str × α)) (n : Str) : lk (e :: l) n = if e.1 = n then some e.2 else lk l n := by
  unfold lk
  by_cases h : e.1 = n
  · rw [List.find?_cons_of_pos (by simpa using h), if_pos h]
    rfl
  · rw [List.find?_cons_of_neg (by simpa using h), if_neg h]
theorem lk_mem {α : Type} {l : List (Str × α)} (nd : (l.map (·.1)).Nodup) {e : Str × α} (h : e ∈ l) : lk l e.1 = some e.2 := by
  induction l with
  | nil => cases h
  | cons a l ih =>
    rw [List.map_cons, List.nodup_cons] at nd
    rw [lk_cons]
    rcases List.mem_cons.mp h with rfl | h
    · rw [if_pos rfl]
    · rw [if_neg (fun z => nd.1 (by rw [z]; exact List.mem_map_of_mem h)), ih nd.2 h]
theorem lk_out {α : Type} {l : List (Str × α)} {n : Str} (h : n ∉ l.map (·.1)) : lk l n = none := by
  induction l with
  | nil => rfl
  | cons a l ih =>
    rw [List.map_cons, List.mem_cons, not_or] at h
    rw [lk_cons, if_neg (fun z => h.1 z.symm), ih h.2]
def DcE {α : Type} [PyD α] (A : Addr → Prop) (H : Hp) (e : Key × V) (p : Str × α) : Prop := e.1 = Sum.inr p.1 ∧ PyD.at_ A H e.2 p.2
theorem val_lk {α : Type} [PyD α] {A : Addr → Prop} {H : Hp} {es : List (Key × V)} {l : List (Str × α)} (h : Paired (DcE A H) es l) (n : Str) : (valV es (Sum.inr n) = none ∧ lk l n = none) ∨ ∃ v a, valV es (Sum.inr n) = some v ∧ lk l n = some a ∧ PyD.at_ A H v a := by
  induction h with
  | nil => exact .inl ⟨rfl, rfl⟩
  | @cons e p es l h _ ih =>
    rw [lk_cons]
    by_cases c : p.1 = n
    · rw [if_pos c, valV_pos (by rw [h.1, c])]
      exact .inr ⟨_, _, rfl, rfl, h.2⟩
    · rw [if_neg c, valV_neg (by rw [h.1]; exact fun z => c (Sum.inr.inj z))]
      exact ih
theorem kv_mem {ks : List (Key × V)} {va : List (Key × Value)} (r : KV ks va) {k : Key} {v : Value} (h : (k, v) ∈ va) : ∃ x, (k, x) ∈ ks ∧ RelV x v := by
  unfold KV at r
  induction r with
  | nil => cases h
  | @cons p q ps qs h1 _ ih =>
    rcases List.mem_cons.mp h with e | h
    · subst e
      obtain ⟨a, b⟩ := h1
      refine ⟨p.2, ?_, b⟩
      have a : p.1 = k := a
      rw [← a]
      exact List.mem_cons_self
    · obtain ⟨x, hx, rx⟩ := ih h
      exact ⟨x, List.mem_cons_of_mem _ hx, rx⟩
theorem paired_mem {α β : Type} {F : α → β → Prop} {as : List α} {bs : List β} (h : Paired F as bs) {a : α} (ha : a ∈ as) : ∃ b ∈ bs, F a b := by
  induction h with
  | nil => cases ha
  | cons h _ ih =>
    rcases List.mem_cons.mp ha with rfl | ha
    · exact ⟨_, List.mem_cons_self, h⟩
    · obtain ⟨b, hb, f⟩ := ih ha
      exact ⟨b, List.mem_cons_of_mem _ hb, f⟩
theorem dc_keys {α : Type} [PyD α] {A : Addr → Prop} {H : Hp} {es : List (Key × V)} {l : List (Str × α)} (h : Paired (DcE A H) es l) : es.map (·.1) = (l.map (·.1)).map Sum.inr := by
  induction h with
  | nil => rfl
  | cons h _ ih => rw [List.map_cons, List.map_cons, List.map_cons, ih, h.1]
abbrev dcEqv {α : Type} [PyD α] (l l' : List (Str × α)) : Bool := l.length == l'.length && l.all fun e => (lk l' e.1).isSome && eqO (lk l e.1) (lk l' e.1)
theorem dc_same {α : Type} [PyD α] {A B : Addr → Prop} {H : Hp} {es : List (Key × V)} {l l' : List (Str × α)} (nd : (l.map (·.1)).Nodup) (h : Paired (DcE A H) es l) (h' : Paired (DcE B H) es l') : dcEqv l l' = true := by
  have len : l.length = l'.length := by rw [← Paired.length h, ← Paired.length h']
  unfold dcEqv
  rw [len]
  simp only [beq_self_eq_true, Bool.true_and, List.all_eq_true]
  intro e he
  rcases val_lk h e.1 with ⟨h1, h2⟩ | ⟨v, a, h1, h2, h3⟩
  · rw [lk_mem nd he] at h2
    cases h2
  · rcases val_lk h' e.1 with ⟨h4, _⟩ | ⟨v', a', h4, h5, h6⟩
    · rw [h1] at h4
      cases h4
    · rw [h1] at h4
      obtain rfl := Option.some.inj h4
      rw [h2, h5]
      show (true && PyD.eqv a a') = true
      rw [PyD.same A B H v a a' h3 h6]
      rfl
theorem kv_all {ks : List (Key × V)} {va : List (Key × Value)} (r : KV ks va) (f : Key → Bool) : (va.all fun p => f p.1) = ks.all fun p => f p.1 := by
  unfold KV at r
  induction r with
  | nil => rfl
  | @cons p q ps qs h1 _ ih => rw [List.all_cons, List.all_cons, ih, show p.1 = q.1 from h1.1]
theorem dc_all {α : Type} [PyD α] {A : Addr → Prop} {H : Hp} {es : List (Key × V)} {l : List (Str × α)} (h : Paired (DcE A H) es l) (f : Key → Bool) : (es.all fun p => f p.1) = l.all fun p => f (Sum.inr p.1) := by
  induction h with
  | nil => rfl
  | @cons e p es l h _ ih => rw [List.all_cons, List.all_cons, ih, h.1]
def keyE {α : Type} [PyD α] (l l' : List (Str × α)) (k : Key) : Bool := match k with | .inr n => eqO (lk l n) (lk l' n) | .inl _ => false
/-- what two dicts' comparison rests on -/
theorem dc_tree {α : Type} [PyD α] {A B : Addr → Prop} {X : Cx} {pins : List (Addr × Obj)} {σ : L2.St} {H : Hp} {s : Shared} (I : Inv X pins σ H s) {a b : Addr} {es fs : List (Key × V)} {l l' : List (Str × α)} (oa : H a = some (.dK es)) (ob : H b = some (.dK fs)) (nd : (l.map (·.1)).Nodup) (h : Paired (DcE A H) es l) (h' : Paired (DcE B H) fs l') :
    ∃ va vb, (a == sysModules) = false ∧ (b == sysModules) = false ∧ s.heap.DictOf (mixKind X.prog X.w) a va ∧ s.heap.DictOf (mixKind X.prog X.w) b vb ∧
      (∀ k v y, (k, v) ∈ va → valueAt vb k = some y → EqTree X.prog X.w s (PyD.depth α) v y (keyE l l' k)) ∧
      (va.length == vb.length && va.all fun p => (valueAt vb p.1).isSome && keyE l l' p.1) = dcEqv l l' := by
  obtain ⟨_, ya, va, ra, da⟩ := (show ObjOk X.prog X.w H s.heap a (.dK es) from I.hok a _ oa)
  obtain ⟨_, yb, vb, rb, db⟩ := (show ObjOk X.prog X.w H s.heap b (.dK fs) from I.hok b _ ob)
  refine ⟨va, vb, ya, yb, da, db, fun k v y hm hy => ?_, ?_⟩
  · obtain ⟨x, hx, rx⟩ := kv_mem ra hm
    obtain ⟨p, hp, hk, hat⟩ := paired_mem h hx
    have hk : k = Sum.inr p.1 := hk
    subst hk
    have rr : RelO (valV fs (Sum.inr p.1)) (valueAt vb (Sum.inr p.1)) := rb.val _
    rw [hy] at rr
    rcases val_lk h' p.1 with ⟨h1, h2⟩ | ⟨v', a', h1, h2, h3⟩
    · rw [h1] at rr
      cases rr
    · rw [h1] at rr
      obtain ⟨y2, e2, ry⟩ := RelO.some_of rr
      obtain rfl := Option.some.inj e2
      show EqTree _ _ _ _ _ _ (eqO (lk l p.1) (lk l' p.1))
      rw [lk_mem nd hp, h2]
      exact PyD.tree I _ _ _ _ _ _ hat h3 rx ry
  · have l1 : va.length = l.length := by rw [← ra.length]; exact Paired.length h
    have l2 : vb.length = l'.length := by rw [← rb.length]; exact Paired.length h'
    unfold dcEqv
    rw [l1, l2, kv_all ra (fun k => (valueAt vb k).isSome && keyE l l' k), dc_all h (fun k => (valueAt vb k).isSome && keyE l l' k)]
    congr 1
    refine List.all_congr rfl fun p => ?_
    show ((valueAt vb (Sum.inr p.1)).isSome && eqO (lk l p.1) (lk l' p.1)) = _
    have rr : RelO (valV fs (Sum.inr p.1)) (valueAt vb (Sum.inr p.1)) := rb.val _
    rcases val_lk h' p.1 with ⟨h1, h2⟩ | ⟨v', a', h1, h2, h3⟩
    · rw [h1] at rr
      rw [h2]
      cases q : valueAt vb (Sum.inr p.1) with
      | none => rfl
      | some z => rw [q] at rr; cases rr
    · rw [h1] at rr
      obtain ⟨y2, e2, ry⟩ := RelO.some_of rr
      rw [e2, h2]
      rfl
instance {α : Type} [PyD α] : PyD (Dc α) where
  at_ A H v d := ∃ a es, v = .ref a ∧ A a ∧ H a = some (.dK es) ∧ (d.l.map (·.1)).Nodup ∧ Paired (DcE A H) es d.l
  eqv d d' := dcEqv d.l d'.l
  depth := PyD.depth α + 1
  same A B H v p q h1 h2 := by
    obtain ⟨a, es, rfl, _, o, nd, pr⟩ := h1
    obtain ⟨b, fs, e, _, o', nd', pr'⟩ := h2
    obtain rfl := V.ref.inj e
    rw [o] at o'
    obtain rfl := HO.dK.inj (Option.some.inj o')
    exact dc_same nd pr pr'
  tree {X pins σ H s A0 B0} I x y v u p q h1 h2 rx ry := by
    obtain ⟨a, es, rfl, _, o, nd, pr⟩ := h1
    obtain ⟨b, fs, rfl, _, o', nd', pr'⟩ := h2
    cases (show v = Value.ref a from rx)
    cases (show u = Value.ref b from ry)
    by_cases e : a = b
    · subst e
      rw [o] at o'
      obtain rfl := HO.dK.inj (Option.some.inj o')
      rw [dc_same nd pr pr']
      exact .same
    · obtain ⟨va, vb, ya, yb, da, db, t, eq⟩ := dc_tree I o o' nd pr pr'
      have z := EqTree.dicts e ya yb da db t
      rw [eq] at z
      exact z
  kp h k := by
    obtain ⟨a, es, e, ha, o, nd, pr⟩ := h
    exact ⟨a, es, e, (k _ _ ha o).1, (k _ _ ha o).2, nd, Paired.mapP pr fun e p h => ⟨h.1, PyD.kp h.2 k⟩⟩
section
variable {X : Cx} {α : Type} [PyD α]
/-- == of two dicts -/
def rEqC (α : Type) [PyD α] (g : Bool → Bool) : R2 := fun x y H Q => ∃ (p q : Dc α) (A B : Addr → Prop), PyD.at_ A H x p ∧ PyD.at_ B H y q ∧ Q (.bl (g (PyD.eqv p q))) H
theorem op_eqC (hu : X.A.units + (PyD.depth α + 1) < cLine) : OpR X (compareOp .Eq) (rEqC α id) := by
  intro pins s σ H x y v u Q I rx ry h
  obtain ⟨p, q, A, B, ⟨a, es, rfl, _, o, nd, pr⟩, ⟨b, fs, rfl, _, o', nd', pr'⟩, hq⟩ := h
  cases (show v = Value.ref a from rx)
  cases (show u = Value.ref b from ry)
  obtain ⟨va, vb, ya, yb, da, db, t, eq⟩ := dc_tree I o o' nd pr pr'
  refine PySem.W.eq_dictsT ya yb da db t hu ?_
  rw [eq]
  exact ⟨.bl _, H, I, rfl, hq⟩
theorem op_neC (hu : X.A.units + (PyD.depth α + 1) < cLine) : OpR X (compareOp .NotEq) (rEqC α fun b => !b) := by
  intro pins s σ H x y v u Q I rx ry h
  obtain ⟨p, q, A, B, ⟨a, es, rfl, _, o, nd, pr⟩, ⟨b, fs, rfl, _, o', nd', pr'⟩, hq⟩ := h
  cases (show v = Value.ref a from rx)
  cases (show u = Value.ref b from ry)
  obtain ⟨va, vb, ya, yb, da, db, t, eq⟩ := dc_tree I o o' nd pr pr'
  refine wpAny_richCompare_same_room (op := .NotEq) da.typeIs db.typeIs PySem.F.slot_dict_ne (wpAny_call_entry PySem.F.slot_dict_ne da.typeIs PySem.F.entry_dict_ne ?_ (PySem.F.args_dict_ne_2 _ _)) (by omega)
  show wpAny _ _ (Builtin.Dict.dictSlotArgs "__ne__" ⟨[.ref a, .ref b], []⟩ >>= fun _ => _) _ _ s
  refine wpAny_bind ?_
  unfold Builtin.Dict.dictSlotArgs
  refine wpAny_bind (wpAny_notOrdered_dict da.typeIs ?_)
  show wpAny _ _ (pure (Value.ref a, Value.ref b)) _ _ s
  refine wpAny_pure (wpAny_bind (wpAny_isInstance (T := "dict") db.typeIs PySem.F.sub_dict_dict ?_))
  simp only [Bool.not_true, Bool.false_eq_true, if_false]
  refine wpAny_bind (wpAny_pure (wpAny_bind (wpAny_pure (wpAny_bind (PySem.W.keq_samePairsIn ya yb da db (fun _ => PySem.W.KeqHitsIn.of _ fun k v y hm hv => (t k v y hm hv).at _ (by show X.A.units + 1 + _ < cLine; omega)) ?_)))))
  rw [eq]
  exact wpAny_pure ⟨_, rfl, (fun x => nomatch x), ⟨.bl (!PyD.eqv p q), H, I, (by show Value.bool _ = Value.bool (!dcEqv p.l q.l); congr 1; cases dcEqv p.l q.l <;> rfl), hq⟩⟩
/-- == of two lists -/
def rEqS (α : Type) [PyD α] : R2 := fun x y H Q => ∃ (a b : Addr) (xs ys : List V) (ps qs : List α) (A B : Addr → Prop), x = .ref a ∧ y = .ref b ∧ H a = some (.lst xs) ∧ H b = some (.lst ys) ∧ Paired (PyD.at_ A H) xs ps ∧ Paired (PyD.at_ B H) ys qs ∧ Q (.bl (ps.length == qs.length && (ps.zip qs).all fun e => PyD.eqv e.1 e.2)) H
theorem zip_all {γ : Type} (f : γ → γ → Bool) : ∀ (ps qs : List γ), ps.length = qs.length → (ps.zip qs).all (fun e => f e.1 e.2) = (List.range ps.length).all fun j => match ps[j]?, qs[j]? with | some a, some b => f a b | _, _ => false
  | [], [], _ => rfl
  | a :: ps, b :: qs, h => by
    have ih := zip_all f ps qs (by simpa using h)
    rw [List.zip_cons_cons, List.all_cons, ih, List.length_cons, List.range_succ_eq_map, List.all_cons, List.all_map]
    rfl
  | [], _ :: _, h => by simp at h
  | _ :: _, [], h => by simp at h
theorem op_eqS (hu : X.A.units + (PyD.depth α + 1) < cLine) : OpR X (compareOp .Eq) (rEqS α) := by
  intro pins s σ H x y v u Q I rx ry h
  obtain ⟨a, b, xs, ys, ps, qs, A, B, rfl, rfl, oa, ob, pa, pb, hq⟩ := h
  cases (show v = Value.ref a from rx)
  cases (show u = Value.ref b from ry)
  obtain ⟨us, r1, p1, _⟩ := I.list (SqL.of (K := X.K) oa)
  obtain ⟨ws, r2, p2, _⟩ := I.list (SqL.of (K := X.K) ob)
  have l1 : us.length = ps.length := by rw [← r1.length]; exact Paired.length pa
  have l2 : ws.length = qs.length := by rw [← r2.length]; exact Paired.length pb
  by_cases len : ps.length = qs.length
  · have hsz : us.toArray.size = ws.toArray.size := by rw [List.size_toArray, List.size_toArray]; omega
    refine PySem.W.eq_listsT (n := PyD.depth α) (e := fun j => match ps[j]?, qs[j]? with | some a, some b => PyD.eqv a b | _, _ => false) p1.isList p2.isList hsz (fun j h1 h2 => ?_) hu ?_
    · have h1' : j < us.length := by simpa using h1
      have h2' : j < ws.length := by simpa using h2
      have gv : ∀ {xs : List V} {us : List Value}, Vals xs us → ∀ {j : Nat} (h : j < us.length), ∃ x, xs[j]? = some x ∧ RelV x us[j] := fun {xs us} r => by
        induction r with
        | nil => intro j h; exact absurd h (Nat.not_lt_zero _)
        | cons h _ ih =>
          intro j hj
          cases j with
          | zero => exact ⟨_, rfl, h⟩
          | succ j =>
            obtain ⟨x, e, rx⟩ := ih (Nat.lt_of_succ_lt_succ hj)
            exact ⟨x, e, rx⟩
      obtain ⟨x1, ex, rx1⟩ := gv r1 h1'
      obtain ⟨y1, ey, ry1⟩ := gv r2 h2'
      obtain ⟨q1, eq1, at1⟩ := LiI.paired_get pa ex
      obtain ⟨q2, eq2, at2⟩ := LiI.paired_get pb ey
      have z := PyD.tree I _ _ _ _ _ _ at1 at2 rx1 ry1
      simp only [eq1, eq2]
      simpa using z
    · have ee : ((List.range us.toArray.size).all fun j => match ps[j]?, qs[j]? with | some a, some b => PyD.eqv a b | _, _ => false) = (ps.length == qs.length && (ps.zip qs).all fun e => PyD.eqv e.1 e.2) := by
        rw [zip_all (fun a b => PyD.eqv a b) ps qs len, List.size_toArray, l1, len]
        simp
      rw [ee]
      exact ⟨.bl _, H, I, rfl, hq⟩
  · refine SeqAt.RcAt.lists_lengths p1.isList p2.isList (by simp [l1, l2, len]) (by omega) X.prog X.w _ _ ?_
    have ee : (ps.length == qs.length && (ps.zip qs).all fun e => PyD.eqv e.1 e.2) = false := by simp [len]
    rw [ee] at hq
    exact ⟨.bl false, H, I, rfl, hq⟩
end
end L2.TB
/-! what serves any law of this kind -/
namespace L2.TB
open PySem PySem.Spec PyProof.Rows
theorem strs_of : ∀ ys : List V, (∀ y ∈ ys, ∃ x, y = V.str x) → ∃ ks : List Str, ys = ks.map V.str
  | [], _ => ⟨[], rfl⟩
  | y :: ys, h => by
    obtain ⟨x, rfl⟩ := h y List.mem_cons_self
    obtain ⟨ks, rfl⟩ := strs_of ys fun z hz => h z (List.mem_cons_of_mem _ hz)
    exact ⟨x :: ks, rfl⟩
theorem some_strs {ns : List Str} {ys zs : List V} (pm : (ys ++ zs).Perm (ns.map V.str)) (nnd : ns.Nodup) : ∃ known : List Str, ys = known.map V.str ∧ known.Nodup ∧ ∀ x ∈ known, x ∈ ns := by
  have yin : ∀ y ∈ ys, ∃ x, y = V.str x := fun y hy => by
    have z : y ∈ ns.map V.str := pm.mem_iff.mp (List.mem_append_left _ hy)
    obtain ⟨x, _, rfl⟩ := List.mem_map.mp z
    exact ⟨x, rfl⟩
  obtain ⟨known, rfl⟩ := strs_of ys yin
  have ndall : (known.map V.str ++ zs).Nodup := pm.nodup_iff.mpr (List.Pairwise.map V.str (fun a b h e => h (V.str.inj e)) nnd)
  refine ⟨known, rfl, ?_, fun x hx => ?_⟩
  · have z := (List.nodup_append.mp ndall).1
    exact (List.pairwise_map.mp z).imp fun h e => h (congrArg V.str e)
  · have z : V.str x ∈ ns.map V.str := pm.mem_iff.mp (List.mem_append_left _ (List.mem_map_of_mem hx))
    obtain ⟨y, hy, e⟩ := List.mem_map.mp z
    exact V.str.inj e ▸ hy
theorem put_last {acc : List (Key × V)} {k : Key} {v : V} (h : k ∉ acc.map (·.1)) : putK acc k v = acc ++ [(k, v)] := by
  have nd : ∀ acc : List (Key × V), k ∉ acc.map (·.1) → putK acc k v = acc ++ [(k, v)] := by
    intro acc h
    have no : (acc.any fun e => decide (e.1 = k)) = false := by
      cases q : acc.any fun e => decide (e.1 = k) with
      | false => rfl
      | true =>
        obtain ⟨e, he, ee⟩ := List.any_eq_true.mp q
        exact absurd (of_decide_eq_true ee ▸ List.mem_map_of_mem (f := (·.1)) he) h
    unfold putK
    rw [no]
    rfl
  exact nd acc h
/-- what a dict comprehension asks of its turns -/
def DcW (J : It) (g : TG) (tt : TT) (tk tv : TE) (vs : List Nat) (σ : St) (H1 : Hp) (Q : Addr → Hp → Prop) : Prop := ∀ D, H1 D = none → ∃ W : Nat → Nat → Hp → Prop, (∃ m, W 0 m (upd H1 D (.dK []))) ∧ ∀ i m H, W i m H →
  (J.stop i H ∧ Q D H) ∨ (J.go i H ∧ ∃ Nx : Hp → Prop, (∀ H', Nx H' → ∃ m', m' < m ∧ W (i + 1) m' H') ∧ ∀ x H', J.yld i H x H' → g x (wipe σ vs) H' fun σ2 H2 => wipe σ2 vs = wipe σ vs ∧ tt σ2 H2 fun b H3 =>
    if b = true then tk σ2 H3 fun y H4 => tv σ2 H4 fun z H5 => ∃ kvs k, y = kV k ∧ H5 D = some (.dK kvs) ∧ kvs.length < sizeLine ∧ Nx (upd H5 D (.dK (putK kvs k z))) else Nx H3)
theorem paired_join {α β : Type} {F : α → β → Prop} {as : List α} {bs : List β} {a : α} {b : β} (h : Paired F as bs) (q : F a b) : Paired F (as ++ [a]) (bs ++ [b]) := by
  induction h with
  | nil => exact .cons q .nil
  | cons h _ ih => exact .cons h ih
theorem boot_sumN : bootBuiltins "sum" = some (.builtin "sum") := by decide +kernel
theorem lock_offN {H H' : Hp} {d : Addr} {u : HO} {od : Obj} (hd : H d = some u) (s : Same (upd H d (.frz od u)) H') : H' d = some (.frz od u) ∧ Same H (upd H' d u) := by
  refine ⟨s _ _ upd_same, fun b o e => ?_⟩
  by_cases hb : b = d
  · rw [hb, upd_same, ← hd, ← hb]; exact e
  · rw [upd_ne hb]
    exact s _ _ (by rw [upd_ne hb]; exact e)
theorem boot_allN : bootBuiltins "all" = some (.builtin "all") := by decide +kernel
theorem valV_atN : ∀ {kvs : List (Key × V)} {i : Nat} {k : Key} {x : V}, (kvs.map (·.1)).Nodup → kvs[i]? = some (k, x) → valV kvs k = some x
  | [], i, k, x, _, e => by cases e
  | p :: r, 0, k, x, _, e => by
    obtain rfl : p = (k, x) := by simpa using e
    exact valV_pos rfl
  | p :: r, i + 1, k, x, nd, e => by
    have e2 : r[i]? = some (k, x) := by simpa using e
    rw [List.map_cons, List.nodup_cons] at nd
    have ne : ¬ p.1 = k := fun z => nd.1 (by rw [z]; exact List.mem_map.mpr ⟨_, List.mem_of_getElem? e2, rfl⟩)
    rw [valV_neg ne]
    exact valV_atN nd.2 e2
theorem map_snocN {α β : Type} (f : α → β) {l : List α} {x : α} : (l ++ [x]).map f = l.map f ++ [f x] := by rw [List.map_append]; rfl
theorem dc_madeN {J : It} {g : TG} {tt : TT} {tk tv : TE} {vs : List Nat} {σ : St} {H1 : Hp} {Q : Addr → Hp → Prop} (ks : List Key) (short : ks.length < 1000000) (unlike : ks.Nodup) (go : ∀ i H, Same H1 H → i < ks.length → J.go i H) (stop : ∀ H, Same H1 H → J.stop ks.length H)
    (R : Nat → V → Hp → Prop) (stays : ∀ i y H H' D l, R i y H → H D = some (.dK l) → (∀ b o, b ≠ D → H b = some o → H' b = some o) → R i y H')
    (turn : ∀ (i : Nat) (x : V) (k : Key) (H H' : Hp) (C : V → V → Hp → Prop) (N : Hp → Prop), ks[i]? = some k → Same H1 H → J.yld i H x H' → (∀ v H5, R i v H5 → Same H H5 → C (kV k) v H5) →
      g x (wipe σ vs) H' fun σ2 H2 => wipe σ2 vs = wipe σ vs ∧ tt σ2 H2 fun b H3 => if b = true then tk σ2 H3 fun y H4 => tv σ2 H4 fun z H5 => C y z H5 else N H3)
    (fin : ∀ H D kvs, H1 D = none → H D = some (.dK kvs) → kvs.map (·.1) = ks → (∀ j k y, kvs[j]? = some (k, y) → R j y H) → Same H1 H → Q D H) : DcW J g tt tk tv vs σ H1 Q := by
  intro D nD
  refine ⟨fun i m H => m = ks.length - i ∧ i ≤ ks.length ∧ (∃ acc : List (Key × V), H D = some (.dK acc) ∧ acc.map (·.1) = ks.take i ∧ ∀ j k y, acc[j]? = some (k, y) → R j y H) ∧ Same H1 H,
    ⟨_, rfl, Nat.zero_le _, ⟨[], upd_same, by simp, fun j k y e => by simp at e⟩, same_new nD⟩, ?_⟩
  rintro i m H ⟨rfl, le, ⟨acc, oD, ea, hR⟩, s1⟩
  have la : acc.length = i := by
    have z := congrArg List.length ea
    rw [List.length_map, List.length_take] at z
    omega
  by_cases lt : i < ks.length
  · refine .inr ⟨go i H s1 lt, fun H' => (∃ acc : List (Key × V), H' D = some (.dK acc) ∧ acc.map (·.1) = ks.take (i + 1) ∧ ∀ j k y, acc[j]? = some (k, y) → R j y H') ∧ Same H1 H', fun H' h => ⟨ks.length - (i + 1), by omega, rfl, lt, h⟩, fun x H' yl => ?_⟩
    have ek : ks[i]? = some ks[i] := List.getElem?_eq_getElem lt
    have et : ks.take (i + 1) = ks.take i ++ [ks[i]] := by rw [List.take_succ, ek]; rfl
    have sp : (ks.take (i + 1)).Nodup := unlike.sublist (List.take_sublist _ _)
    rw [et, List.nodup_append] at sp
    have out : ks[i] ∉ acc.map (·.1) := fun z => sp.2.2 _ (by rw [← ea]; exact z) _ (by simp) rfl
    refine turn i x ks[i] H H' _ _ ek s1 yl fun v H5 hv s5 => ⟨acc, ks[i], rfl, s5 _ _ oD, by rw [sizeLine_eq]; omega, ⟨acc ++ [(ks[i], v)], ?_, ?_, ?_⟩, ?_⟩
    · rw [upd_same, put_last out]
    · rw [map_snocN, ea, et]
    · have keep : ∀ b o, b ≠ D → H5 b = some o → upd H5 D (.dK (putK acc ks[i] v)) b = some o := fun b o nb e => by rw [upd_ne nb]; exact e
      intro j k y e
      by_cases hj : j < acc.length
      · rw [List.getElem?_append_left hj] at e
        have a1 : R j y H5 := stays j y H H5 D acc (hR j k y e) oD fun b o _ e => s5 _ _ e
        exact stays j y H5 _ D acc a1 (s5 _ _ oD) keep
      · rw [List.getElem?_append_right (by omega)] at e
        have : j - acc.length = 0 := by
          rcases Nat.eq_zero_or_pos (j - acc.length) with z | z
          · exact z
          · rw [List.getElem?_eq_none (by simp; omega)] at e; cases e
        rw [this] at e
        cases e
        have : j = i := by omega
        rw [this]
        exact stays i v H5 _ D acc hv (s5 _ _ oD) keep
    · intro b u e
      rw [upd_ne (ne_of_none e nD)]
      exact s5 _ _ (s1 _ _ e)
  · obtain rfl : i = ks.length := by omega
    rw [List.take_length] at ea
    exact .inl ⟨stop H s1, fin H D acc nD oD ea hR s1⟩
theorem paired_of {α β : Type} {R : α → β → Prop} : ∀ (xs : List α) (ys : List β), xs.length = ys.length → (∀ (i : Nat) (x : α) (y : β), xs[i]? = some x → ys[i]? = some y → R x y) → Paired R xs ys
  | [], [], _, _ => .nil
  | x :: xs, y :: ys, l, h => .cons (h 0 x y rfl rfl) (paired_of xs ys (by simpa using l) fun i a b ea eb => h (i + 1) a b ea eb)
theorem const_mapN (xs : List Str) : ((xs.map V.str).filter fun _ => true).map (fun _ => V.bl true) = bools xs.length := by
  rw [List.filter_eq_self.mpr (fun _ _ => rfl), List.map_map]
  unfold bools
  induction xs with
  | nil => rfl
  | cons a l ih => rw [List.map_cons, ih, List.length_cons, List.replicate_succ]; rfl
theorem dc_itN {J : It} {n : Nat} {G : Hp → Prop} {Y : Nat → Hp → V → Hp → Prop} (w : Walk J n G Y) {g : TG} {tt : TT} {tk tv : TE} {vs : List Nat} {σ : St} {H1 : Hp} {D : Addr} {Qd : Hp → Prop} (Pv : Nat → Hp → Prop) (h0 : Pv 0 (upd H1 D (.dK []))) (hG : ∀ i H, i ≤ n → Pv i H → G H)
    (hs : ∀ i x H H', i < n → Pv i H → Y i H x H' → g x (wipe σ vs) H' fun σ2 H2 => wipe σ2 vs = wipe σ vs ∧ tt σ2 H2 fun b H3 =>
      if b = true then tk σ2 H3 fun y H4 => tv σ2 H4 fun z H5 => ∃ kvs k, y = kV k ∧ H5 D = some (.dK kvs) ∧ kvs.length < sizeLine ∧ Pv (i + 1) (upd H5 D (.dK (putK kvs k z))) else Pv (i + 1) H3) (hd : ∀ H, Pv n H → Qd H) :
    ∃ W : Nat → Nat → Hp → Prop, (∃ m, W 0 m (upd H1 D (.dK []))) ∧ ∀ i m H, W i m H →
      (J.stop i H ∧ Qd H) ∨ (J.go i H ∧ ∃ Nx : Hp → Prop, (∀ H', Nx H' → ∃ m', m' < m ∧ W (i + 1) m' H') ∧ ∀ x H', J.yld i H x H' → g x (wipe σ vs) H' fun σ2 H2 => wipe σ2 vs = wipe σ vs ∧ tt σ2 H2 fun b H3 =>
        if b = true then tk σ2 H3 fun y H4 => tv σ2 H4 fun z H5 => ∃ kvs k, y = kV k ∧ H5 D = some (.dK kvs) ∧ kvs.length < sizeLine ∧ Nx (upd H5 D (.dK (putK kvs k z))) else Nx H3) := by
  refine ⟨fun i m H => m = n - i ∧ i ≤ n ∧ Pv i H, ⟨n, by simp, Nat.zero_le _, h0⟩, ?_⟩
  rintro i m H ⟨rfl, hi, p⟩
  have q := hG i H hi p
  by_cases hlt : i < n
  · refine .inr ⟨w.goes i H hlt q, Pv (i + 1), fun H' p' => ⟨n - (i + 1), by omega, rfl, hlt, p'⟩, fun x H' y => hs i x H H' hlt p (w.yields i H x H' hlt q y)⟩
  · have e : i = n := by omega
    subst e
    exact .inl ⟨w.stops H q, hd H p⟩
/-- all stays but the spring and what is at g -/
def BG (g l ls : Addr) (H H' : Hp) : Prop := ∀ b o, b ≠ l → b ≠ ls → b ≠ g → H b = some o → H' b = some o
theorem BG.free {g l ls p : Addr} {H H' : Hp} (B : BG g l ls H H') (h1 : p ≠ l) (h2 : p ≠ ls) (h3 : p ≠ g) (n : H' p = none) : H p = none := by
  cases e : H p with
  | none => rfl
  | some o => rw [B p o h1 h2 h3 e] at n; cases n
theorem But.free {l ls p : Addr} {H H' : Hp} (B : But l ls H H') (a : p ≠ l ∧ p ≠ ls) (n : H' p = none) : H p = none := by
  cases e : H p with
  | none => rfl
  | some o => rw [B p o a.1 a.2 e] at n; cases n
theorem BG.but {g l ls : Addr} {H H1 H2 : Hp} (B : BG g l ls H H1) (C : But l ls H1 H2) : BG g l ls H H2 := fun b o h1 h2 h3 e => C b o h1 h2 (B b o h1 h2 h3 e)
theorem BG.upd {g l ls : Addr} {H H1 : Hp} {o : HO} (B : BG g l ls H H1) : BG g l ls H (upd H1 g o) := fun b u h1 h2 h3 e => by rw [upd_ne h3]; exact B b u h1 h2 h3 e
theorem BG.new {g l ls : Addr} {H H1 : Hp} (B : BG g l ls H H1) (n : H g = none) : But l ls H H1 := fun b o h1 h2 e => B b o h1 h2 (fun z => by rw [z, n] at e; cases e) e
theorem strm_upd {l ls b : Addr} {o : HO} {H : Hp} {N : Int} (S : Strm H l ls N) (a : b ≠ l ∧ b ≠ ls) : Strm (upd H b o) l ls N := by
  obtain ⟨cs', g, k, m, S⟩ := S
  exact ⟨cs', g, k, m, by rw [upd_ne (Ne.symm a.1)]; exact S.o, by rw [upd_ne (Ne.symm a.2)]; exact S.c, S.ne, S.g0, S.k0, S.k1, S.m0, S.m1, S.sz⟩
theorem but_unlock {l ls dd : Addr} {u : HO} {od : Obj} {H0 H' : Hp} (hd : H0 dd = some u) (a : dd ≠ l ∧ dd ≠ ls) (B : But l ls (upd H0 dd (.frz od u)) H') : H' dd = some (.frz od u) ∧ But l ls H0 (upd H' dd u) :=
  ⟨B _ _ a.1 a.2 upd_same, fun b o h1 h2 e => by
    by_cases hb : b = dd
    · subst hb
      rw [hd] at e
      rw [upd_same]; exact e
    · rw [upd_ne hb]
      exact B _ _ h1 h2 (by rw [upd_ne hb]; exact e)⟩
theorem pair_snoc {α β : Type} {F : α → β → Prop} {as : List α} {bs : List β} {a : α} {b : β} {i : Nat} (h : Paired F as (bs.take i)) (e : bs[i]? = some b) (q : F a b) : Paired F (as ++ [a]) (bs.take (i + 1)) := by
  rw [List.take_succ, e]
  exact paired_join h q
theorem opt_lc {α : Type} {J : It} {g : TG} {tt : TT} {te : TE} {vs : List Nat} {σ : St} {H1 : Hp} {Q : Addr → Hp → Prop} (xs : List α) (f : α → Option (Key × V)) (short : xs.length < 1000) (go : ∀ i H, Same H1 H → i < xs.length → J.go i H) (stop : ∀ H, Same H1 H → J.stop xs.length H)
    (turn : ∀ (i : Nat) (v : V) (a : α) (H H' : Hp) (C : V → Hp → Prop) (N : Hp → Prop), xs[i]? = some a → Same H1 H → J.yld i H v H' → (∀ k x, f a = some (k, x) → ∀ t H4, H4 t = some (.tup [kV k, x]) → Same H H4 → C (.ref t) H4) → (f a = none → ∀ H4, Same H H4 → N H4) →
      g v (wipe σ vs) H' fun σ2 H2 => wipe σ2 vs = wipe σ vs ∧ tt σ2 H2 fun b H3 => if b = true then te σ2 H3 C else N H3)
    (fin : ∀ H D ps, H1 D = none → H D = some (.lst ((ps : List Addr).map V.ref)) → Paired (fun p (kv : Key × V) => H p = some (.tup [kV kv.1, kv.2])) ps (xs.filterMap f) → Same H1 H → Q D H) : LcW J g tt te vs σ H1 Q := by
  intro D nD
  refine ⟨fun i m H => m = xs.length - i ∧ i ≤ xs.length ∧ (∃ ps : List Addr, H D = some (.lst (ps.map V.ref)) ∧ ps.length ≤ i ∧ Paired (fun p (kv : Key × V) => H p = some (.tup [kV kv.1, kv.2])) ps ((xs.take i).filterMap f)) ∧ Same H1 H,
    ⟨_, rfl, Nat.zero_le _, ⟨[], upd_same, Nat.le_refl _, by rw [List.take_zero]; exact .nil⟩, same_new nD⟩, ?_⟩
  rintro i m H ⟨rfl, le, ⟨ps, oD, lp, pr⟩, s1⟩
  by_cases lt : i < xs.length
  · refine .inr ⟨go i H s1 lt, fun H' => (∃ ps : List Addr, H' D = some (.lst (ps.map V.ref)) ∧ ps.length ≤ i + 1 ∧ Paired (fun p (kv : Key × V) => H' p = some (.tup [kV kv.1, kv.2])) ps ((xs.take (i + 1)).filterMap f)) ∧ Same H1 H', fun H' h => ⟨xs.length - (i + 1), by omega, rfl, lt, h⟩, fun x H' yl => ?_⟩
    have ea : xs[i]? = some xs[i] := List.getElem?_eq_getElem lt
    have et : (xs.take (i + 1)).filterMap f = (xs.take i).filterMap f ++ (f xs[i]).toList := by
      rw [List.take_succ, ea, List.filterMap_append]
      show _ ++ List.filterMap f [xs[i]] = _
      cases e : f xs[i] <;> simp [e]
    refine turn i x xs[i] H H' _ _ ea s1 yl (fun k x ek t H4 ot s4 => ?_) (fun en H4 s4 => ?_)
    · have oD4 := s4 _ _ oD
      have tD : t ≠ D := fun z => by rw [z, oD4] at ot; cases ot
      have up : ∀ {l : List V} b o, b ≠ D → H4 b = some o → upd H4 D (.lst l) b = some o := fun b o nb e => by rw [upd_ne nb]; exact e
      refine ⟨_, oD4, by rw [sizeLine_eq, List.length_map]; omega, ⟨ps ++ [t], by rw [upd_same, List.map_append]; rfl, by rw [List.length_append]; show _ + 1 ≤ _; omega, ?_⟩, ?_⟩
      · rw [et, ek]
        exact paired_join (Paired.mapP pr fun p kv h => up _ _ (fun z => by rw [z, oD] at h; cases h) (s4 _ _ h)) (up _ _ tD ot)
      · intro b u e
        rw [upd_ne (ne_of_none e nD)]
        exact s4 _ _ (s1 _ _ e)
    · refine ⟨⟨ps, s4 _ _ oD, by omega, ?_⟩, s1.trans s4⟩
      rw [et, en]
      simp only [Option.toList_none, List.append_nil]
      exact Paired.mapP pr fun p kv h => s4 _ _ h
  · obtain rfl : i = xs.length := by omega
    rw [List.take_length] at pr
    exact .inl ⟨stop H s1, fin H D ps nD oD pr s1⟩
theorem merge_new : ∀ (kvs acc : List (Key × V)), ((acc ++ kvs).map (·.1)).Nodup → mergeK acc kvs = acc ++ kvs
  | [], acc, _ => by simp [mergeK]
  | p :: more, acc, h => by
    have hn : p.1 ∉ acc.map (·.1) := fun z => by
      rw [List.map_append, List.nodup_append] at h
      exact h.2.2 _ z p.1 (by simp) rfl
    show mergeK (putK acc p.1 p.2) more = _
    rw [put_last hn, merge_new more _ (by rw [List.append_assoc]; exact h), List.append_assoc]
    rfl
theorem merge_nd {kvs : List (Key × V)} (h : (kvs.map (·.1)).Nodup) : mergeK [] kvs = kvs := by
  rw [merge_new kvs [] (by simpa using h), List.nil_append]
def rDk (K : PySem.W.Frag) : List V → Hp → VK → Prop := fun vs H Q => ∃ (l : Addr) (ts : List Addr) (es : List (Key × V)), vs = [.ref l] ∧ SqL K H l (ts.map V.ref) ∧ Paired (fun t e => SqT K H t [kV e.1, e.2]) ts es ∧ ∀ d, H d = none → Q (.ref d) (upd H d (.dK (mergeK [] es)))
theorem call_dk {X : Cx} (hc : X.calm = true) : CallR X (.type "dict") (rDk X.K) := call_dictP hc
theorem paired_rev {α β : Type} {F : α → β → Prop} {as : List α} {bs : List β} (h : Paired F as bs) : Paired F as.reverse bs.reverse := by
  induction h with
  | nil => exact .nil
  | cons h _ ih =>
    rw [List.reverse_cons, List.reverse_cons]
    exact paired_join ih h
/-! the other fields are good, and others -/
theorem rev_ne {α : Type} {l : List α} (nd : l.Nodup) (h : 2 ≤ l.length) : l ≠ l.reverse := by
  intro e
  have z : l[0]? = l.reverse[0]? := congrArg (fun l => l[0]?) e
  rw [List.getElem?_reverse (by omega)] at z
  have a : l[0]? = some (l[0]'(by omega)) := List.getElem?_eq_getElem _
  have := (List.getElem?_inj (by omega) nd).mp z
  omega
def putQ {α : Type} (qs : List (Str × α)) (n : Str) (s : α) : List (Str × α) := qs.map fun q => if q.1 = n then (q.1, s) else q
theorem putQ_keys {α : Type} (qs : List (Str × α)) (n : Str) (s : α) : (putQ qs n s).map (·.1) = qs.map (·.1) := by
  unfold putQ
  rw [List.map_map]
  refine List.map_congr_left fun q _ => ?_
  show (if q.1 = n then (q.1, s) else q).1 = q.1
  by_cases h : q.1 = n
  · rw [if_pos h]
  · rw [if_neg h]
theorem putQ_mem {α : Type} {qs : List (Str × α)} {n : Str} {s : α} {q : Str × α} (h : q ∈ putQ qs n s) : q ∈ qs ∨ (q.2 = s ∧ q.1 = n) := by
  obtain ⟨q0, h0, rfl⟩ := List.mem_map.mp h
  by_cases e : q0.1 = n
  · rw [if_pos e]
    exact .inr ⟨rfl, e⟩
  · rw [if_neg e]
    exact .inl h0
theorem put_has {es : List (Key × V)} {k : Key} {v : V} (h : k ∈ es.map (·.1)) : putK es k v = es.map fun kv => if kv.1 = k then (kv.1, v) else kv := by
  unfold putK
  have : (es.any fun kv => decide (kv.1 = k)) = true := by
    obtain ⟨e, he, rfl⟩ := List.mem_map.mp h
    exact List.any_eq_true.mpr ⟨e, he, by simp⟩
  rw [if_pos this]
theorem same_upd2 {H : Hp} {p : Addr} {a b : HO} (n : H p = none) : Same H (upd (upd H p a) p b) := fun c o e => by
  have := ne_of_none e n
  rw [upd_ne this, upd_ne this]; exact e
theorem boot_anyN : bootBuiltins "any" = some (.builtin "any") := by decide +kernel
theorem op_either {X : Cx} {o : Value → Value → Sem Value} {r1 r2 : R2} (h1 : OpR X o r1) (h2 : OpR X o r2) : OpR X o (fun x y H Q => r1 x y H Q ∨ r2 x y H Q) := by
  intro pins s σ H x y v u Q I rx ry h
  rcases h with h | h
  · exact h1 pins s σ H x y v u Q I rx ry h
  · exact h2 pins s σ H x y v u Q I rx ry h
theorem rel_ref {v : V} {a : Addr} {u : Value} (e : v = .ref a) (r : RelV v u) : u = .ref a := by
  subst e
  exact r
theorem rel_bl {v : V} {t : Bool} {u : Value} (e : v = .bl t) (r : RelV v u) : u = .bool t := by
  subst e
  exact r
end L2.TB
namespace L2.TB
open PySem PySem.Spec PyProof.Rows
/-! == and != of two of one class with an own __eq__ -/
section
variable {X : Cx} {CX : CXT} {k : Nat} {f C : Addr} {fd : FuncData} {ps : List Str} {sp : Sp} {E : XK}
def rEqI (C : Addr) (sp : Sp) (E : XK) (g : Bool → Bool) : R2 := fun x y H Q => ∃ a b dx dy fs gs, x = .ref a ∧ y = .ref b ∧ H a = some (.ins C dx fs) ∧ H b = some (.ins C dy gs) ∧ sp [.ref a, .ref b] H (fun v H' => ∃ t, v = .bl t ∧ Q (.bl (g t)) H') E
/-- the method's call -/
theorem call_eqI (F : FnOk X.prog X.w X.K X.mg X.base CX k f fd ps sp) {A : Around} (hr : Room k A) (hA : A.frames = X.A.frames) (hb : Binds X.K fd ps []) (hx : Passes CX X E) {pins : List (Addr × Obj)} {σ : St} {H : Hp} {s : Shared} (I : Inv X pins σ H s) {a b : Addr} {R : Bool → Hp → Prop}
    (hsp : sp [.ref a, .ref b] H (fun v H' => ∃ t, v = .bl t ∧ R t H') E) {Q : Value → Shared → Prop} (fin : ∀ t H' s', Inv X pins σ H' s' → R t H' → Q (.bool t) s') :
    wpAny (model X.prog X.w) A (call (.ref f) [.ref a, .ref b]) Q X.xe s := by
  have e0 : Env0 X.prog X.w X.K X.mg X.base A X.stack s H := by
    have z := I.env0
    exact ⟨by rw [hA]; exact z.frames, z.mod, z.bs, z.bsz, z.funs, z.frf, z.hok, z.bare⟩
  have many := F.len _ _ _ _ hsp
  have two : Vals [V.ref a, V.ref b] [Value.ref a, Value.ref b] := .cons rfl (.cons rfl .nil)
  have ok := F.run A X.stack s H ⟨[.ref a, .ref b], []⟩ [.ref a, .ref b] [.ref a, .ref b] _ E hr e0 (by simpa using hb s [.ref a, .ref b] I.kIn (by simpa using many)) two hsp
  refine wpAny_call (codeAny_mono ok fun q s' got => ?_)
  cases q with
  | error e => exact hx pins σ H s e s' I got
  | ok fl =>
    cases fl with
    | next => exact got.elim
    | brk => exact got.elim
    | cont => exact got.elim
    | ret v =>
      obtain ⟨u, H', I', ru, t, et, q⟩ := I.after got
      have ev := rel_bl et ru
      subst ev
      exact fin t H' s' I' q
theorem op_eqI (F : FnOk X.prog X.w X.K X.mg X.base CX k f fd ps sp) (hr : Room k X.A) (hm : Meth X.K C "__eq__" f) (hb : Binds X.K fd ps []) (hx : Passes CX X E) : OpR X (compareOp .Eq) (rEqI C sp E id) := by
  intro pins s σ H x y v u Q I rx ry h
  obtain ⟨a, b, dx, dy, fs, gs, rfl, rfl, ha, hb', hsp⟩ := h
  have ev := rel_ref rfl rx
  have eu := rel_ref rfl ry
  subst ev eu
  obtain ⟨mA, JA, _⟩ := ins_get I.hok ha
  obtain ⟨mB, JB, _⟩ := ins_get I.hok hb'
  obtain ⟨od, LA, _⟩ := JA.look
  obtain ⟨od', LB, _⟩ := JB.look
  obtain ⟨m, hF⟩ := I.fr
  show wpAny _ _ (richCompare .Eq (.ref a) (.ref b)) _ _ _
  refine PySem.W.cmp_K (op := .Eq) (tb := .ref C) (by have := hr.un; omega) hF I.ok.mod.kin LA LB.type (by simp [PySem.W.notFirst]) hm.at_ hm.fn ?_
  exact call_eqI F hr rfl hb hx I hsp fun t H' s' I' q => ⟨.bl t, H', I', rfl, q⟩
/-- object's own != asks for == -/
theorem op_neI (G : FnOk X.prog X.w X.K X.mg X.base CX k f fd ps sp) (hr : Room (k + 2) X.A) (hm : Meth X.K C "__eq__" f) (hne : PySem.W.findIn X.K (.ref C) "__ne__" = some (some (.builtin "object.__ne__"))) (hob : PySem.W.mroIn X.K C (.type "object") = some true)
    (hb : Binds X.K fd ps []) (hx : Passes CX X E) : OpR X (compareOp .NotEq) (rEqI C sp E fun t => !t) := by
  intro pins s σ H x y v u Q I rx ry h
  obtain ⟨a, b, dx, dy, fs, gs, rfl, rfl, ha, hb', hsp⟩ := h
  have ev := rel_ref rfl rx
  have eu := rel_ref rfl ry
  subst ev eu
  obtain ⟨mA, JA, _⟩ := ins_get I.hok ha
  obtain ⟨mB, JB, _⟩ := ins_get I.hok hb'
  obtain ⟨od, LA, _⟩ := JA.look
  obtain ⟨od', LB, _⟩ := JB.look
  have Xs := I.kIn
  have hun := hr.un
  have low : X.A.units < cLine := by omega
  have low1 : X.A.in1.units < cLine := by
    have := (hr.in1).un
    omega
  have isO : PySem.W.subIn X.K (.ref C) (.type "object") = some true := hob
  -- the builtin's run
  have body : ∀ {Q' : Value → Shared → Prop}, (∀ t H' s', Inv X pins σ H' s' → Q (.bl (!t)) H' → Q' (.bool (!t)) s') → wpAny (model X.prog X.w) X.A (call (.builtin "object.__ne__") [.ref a, .ref b]) Q' X.xe s := by
    intro Q' fin
    have inner : ∀ {Q2 : Option Value → Shared → Prop}, (∀ t H' s', Inv X pins σ H' s' → Q (.bl (!t)) H' → Q2 (some (.bool t)) s') → wpAny (model X.prog X.w) X.A.in1 (callSpecialIfBound? (.ref a) "__eq__" [.ref b]) Q2 X.xe s := by
      intro Q2 fin2
      refine PySem.W.ifBound_K Xs LA hm.at_ hm.fn (call_eqI G (hr.in1.mono (by omega)) rfl hb hx I hsp fun t H' s' I' q => fin2 t H' s' I' q)
    refine wpAny_call (codeAny_call_builtin PySem.F.cmp_object.ne.plain PySem.F.cmpEntry_ne (PySem.W.check_slot PySem.F.cmpKind_ne PySem.F.cmpSplit_ne (LA.type.andThen (PySem.W.looks_subIn Xs isO)) (PySem.F.cmpArgs_ne _ _) ?_))
    unfold Builtin.«object.__ne__»
    repeat (first | with_reducible refine wpAny_cRoomFor low1 ?_ | with_reducible refine inner fun t H' s' I' q => ?_ | wp_step)
    exact fin t H' s' I' q
  have one : wpAny (model X.prog X.w) X.A (tryCompare (.ref a) "__ne__" (.ref b)) (fun r s' => ∃ v, r = some v ∧ EP X pins σ Q v s') X.xe s := by
    have told : wpAny (model X.prog X.w) X.A (call (.builtin "object.__ne__") ([.ref a] ++ [.ref b]) >>= fun v => pure (some v)) (fun r s' => ∃ t H', r = some (.bool (!t)) ∧ Inv X pins σ H' s' ∧ Q (.bl (!t)) H') X.xe s :=
      wpAny_bind (body fun t H' s' I' q => wpAny_pure ⟨t, H', rfl, I', q⟩)
    have asked : wpAny (model X.prog X.w) X.A (callSpecialIfBound? (.ref a) "__ne__" [.ref b]) (fun r s' => ∃ t H', r = some (.bool (!t)) ∧ Inv X pins σ H' s' ∧ Q (.bl (!t)) H') X.xe s := by
      simp only [callSpecialIfBound?, bindSpecialIfBound?]
      refine wpAny_holding (wpAny_bind (wpAny_bind (wpAny_bind (LA.type.here ((PySem.W.looks_findIn Xs hne).here (wpAny_bind (wpAny_askSetting (wpAny_ite ?_))))))))
      have bd := PySem.F.cmp_object.ne.bind (.ref a)
      split
      · rw [bd]
        exact wpAny_bind (wpAny_pure (wpAny_pure told))
      · rw [bd]
        exact wpAny_tryCatch (wpAny_bind (wpAny_pure (wpAny_pure told)))
    unfold tryCompare
    refine wpAny_bind (wpAny_mono asked (fun r s' z => ?_) fun _ _ e => e)
    obtain ⟨t, H', rfl, I', q⟩ := z
    exact wpAny_pure ⟨_, rfl, .bl (!t), H', I', rfl, q⟩
  show wpAny _ _ (richCompare .NotEq (.ref a) (.ref b)) _ _ _
  unfold richCompare
  simp only [oneThing_ref]
  refine wpAny_holding (wpAny_bind (wpAny_cRoomFor low (wpAny_bind (LA.type.here (wpAny_bind (LB.type.here ?_))))))
  simp only [bne_self_eq_false, Bool.false_eq_true, if_false]
  refine wpAny_bind (wpAny_pure (wpAny_bind (wpAny_mono one (fun r s' z => ?_) fun _ _ e => e)))
  obtain ⟨v, rfl, q⟩ := z
  exact wpAny_pure q
end
/-! an own == asked about a thing of another kind -/
section
variable {X : Cx} {CX : CXT} {k : Nat} {f C : Addr} {fd : FuncData} {ps : List Str} {sp : Sp} {E : XK}
def rEqO (K : PySem.W.Frag) (C : Addr) (sp : Sp) (E : XK) : R2 := fun x y H Q => ∃ a dx fs t, x = .ref a ∧ H a = some (.ins C dx fs) ∧ TyX K H y t ∧ PySem.W.notFirst K C t = true ∧ sp [.ref a, y] H (fun v H' => ∃ b, v = .bl b ∧ Q (.bl b) H') E
theorem op_eqO (G : FnOk X.prog X.w X.K X.mg X.base CX k f fd ps sp) (hr : Room k X.A) (hm : Meth X.K C "__eq__" f) (hb : Binds X.K fd ps []) (hx : Passes CX X E) : OpR X (compareOp .Eq) (rEqO X.K C sp E) := by
  intro pins s σ H x y v u Q I rx ry h
  obtain ⟨a, dx, fs, t, rfl, ha, ty, nf, hsp⟩ := h
  have ev := rel_ref rfl rx
  subst ev
  obtain ⟨mA, JA, _⟩ := ins_get I.hok ha
  obtain ⟨od, LA, _⟩ := JA.look
  obtain ⟨m, hF⟩ := I.fr
  obtain ⟨Pt, Z, pt, _⟩ := kit_of I ry ty
  show wpAny _ _ (richCompare .Eq (.ref a) u) _ _ _
  refine PySem.W.cmp_K (op := .Eq) (tb := t) (by have := hr.un; omega) hF I.ok.mod.kin LA (Z.ty _ _ I.kIn pt) nf hm.at_ hm.fn ?_
  have z := run_fn (us := [Value.ref a, u]) (vs := [V.ref a, y]) G hr hb .nil hx I (.cons rfl (.cons ry .nil)) (by simpa using hsp)
  refine wpAny_mono z (fun r s' got => ?_) fun _ _ q => q
  obtain ⟨v0, H', I', rt, qq⟩ := got
  rcases qq with ⟨et, qq⟩ | ⟨et, qq⟩
  · have er := rel_bl et rt
    subst er
    exact ⟨.bl false, H', I', rfl, qq⟩
  · have er := rel_bl et rt
    subst er
    exact ⟨.bl true, H', I', rfl, qq⟩
end
/-! == and != of data with a Lean type -/
section
variable {X : Cx} {α : Type} [DecidableEq α] [PySem.W.Datum α]
def rEqT (α : Type) [DecidableEq α] [PySem.W.Datum α] (K : PySem.W.Frag) (g : Bool → Bool) : R2 := fun x y H Q => ∃ p q : α, Dp K H x (PySem.W.Datum.toD p) ∧ Dp K H y (PySem.W.Datum.toD q) ∧ Q (.bl (g (decide (p = q)))) H
theorem op_eqT (dp : PySem.W.Datum.depth α ≤ 60) (hu : X.A.units + 64 < cLine) : OpR X (compareOp .Eq) (rEqT α X.K id) := by
  intro pins s σ H x y v u Q I rx ry h
  obtain ⟨p, q, hp, hq, q2⟩ := h
  obtain ⟨as, r1⟩ := Dp.reads I _ x v hp rx
  obtain ⟨bs, r2⟩ := Dp.reads I _ y u hq ry
  have l1 := PySem.W.Datum.depth_le p
  have l2 := Nat.min_le_left (PySem.W.Datum.toD p).depth (PySem.W.Datum.toD q).depth
  refine SeqAt.eq_plain r1 r2 (PySem.W.Datum.plain p) (PySem.W.Datum.plain q) (by omega) ?_
  rw [PySem.W.Datum.eqv]
  exact ⟨.bl _, H, I, rfl, q2⟩
theorem op_neT (dp : PySem.W.Datum.depth α ≤ 60) (hu : X.A.units + 64 < cLine) : OpR X (compareOp .NotEq) (rEqT α X.K fun b => !b) := by
  intro pins s σ H x y v u Q I rx ry h
  obtain ⟨p, q, hp, hq, q2⟩ := h
  obtain ⟨as, r1⟩ := Dp.reads I _ x v hp rx
  obtain ⟨bs, r2⟩ := Dp.reads I _ y u hq ry
  have l1 := PySem.W.Datum.depth_le p
  have l2 := Nat.min_le_left (PySem.W.Datum.toD p).depth (PySem.W.Datum.toD q).depth
  refine SeqAt.ne_plain r1 r2 (PySem.W.Datum.plain p) (PySem.W.Datum.plain q) (by omega) ?_
  rw [PySem.W.Datum.eqv]
  exact ⟨.bl _, H, I, rfl, q2⟩
end
section
variable {K : PySem.W.Frag} {H : Hp}
theorem dp_strsN : ∀ xs : List Str, DpAll K H (xs.map V.str) (xs.map PySem.W.Datum.toD)
  | [] => .nil
  | x :: xs => .cons (.str x) (dp_strsN xs)
theorem dp_intsN : ∀ xs : List Int, DpAll K H (xs.map V.int) (xs.map PySem.W.Datum.toD)
  | [] => .nil
  | x :: xs => .cons (.int x) (dp_intsN xs)
theorem dp_strL {a : Addr} {xs : List Str} (h : H a = some (.lst (xs.map V.str))) : Dp K H (.ref a) (PySem.W.Datum.toD xs) := .lst (SqL.of h) (dp_strsN xs)
theorem dp_intL {a : Addr} {xs : List Int} (h : H a = some (.lst (xs.map V.int))) : Dp K H (.ref a) (PySem.W.Datum.toD xs) := .lst (SqL.of h) (dp_intsN xs)
end
end L2.TB
/-! the law's look whether two things are the same: texts, numbers, None, lists and tuples of these -/
namespace L2.TB
open PySem PySem.Spec PyProof.Rows
/-- what needs no heap to be told -/
inductive Atom : V → Prop
  | str (x : Str) : Atom (.str x)
  | int (i : Int) : Atom (.int i)
  | bl (b : Bool) : Atom (.bl b)
  | non : Atom .non
theorem ty_same {K : PySem.W.Frag} {H H' : Hp} {v : V} {t : String} (h : TyX K H v (.type t)) (s : Same H H') : TyX K H' v (.type t) := by
  generalize e : Value.type t = u at h
  cases h with
  | base b =>
    refine .base ?_
    cases b with
    | non => exact .non
    | bl x => exact .bl x
    | int i => exact .int i
    | str x => exact .str x
    | flt x => exact .flt x
    | lst q => exact .lst (s _ _ q)
    | frz q => exact .frz (s _ _ q)
    | tup q => exact .tup (s _ _ q)
    | dK q => exact .dK (s _ _ q)
    | dT q => exact .dT (s _ _ q)
    | ins q => cases e
  | byt b => exact .byt b
  | set q => exact .set (s _ _ q)
  | kList q c => exact .kList q c
  | kTuple q c => exact .kTuple q c
  | kDict q c => exact .kDict q c
  | fTuple q => exact .fTuple (s _ _ q)
  | fDict q => exact .fDict (s _ _ q)
theorem kit_two_n {K : PySem.W.Frag} {t : String} (h1 : kitB t "list" = some false) (h2 : kitB t "tuple" = some false) : PySem.W.kitAny K (.type t) [.type "list", .type "tuple"] = some false :=
  kitAny_cons (b := false) (kit_ty h1) (fun _ => kitAny_cons (b := false) (kit_ty h2) (fun _ => kitAny_nil) (fun z => by cases z)) (fun z => by cases z)
theorem dec_int2 (a b : Int) : decide (V.int a = V.int b) = decide (a = b) := by
  by_cases h : a = b
  · rw [h]; simp
  · rw [decide_eq_false h, decide_eq_false]
    exact fun z => h (V.int.inj z)
abbrev NSm : List Str := ["found", "due", "x", "y"]
theorem scSame : FnScope NSm ["found", "due"] (defScope sSame) := ⟨rfl, rfl, rfl, by decide +kernel, rfl, by decide +kernel, by decide +kernel⟩
/-- the names that it reads -/
structure Sm (mg : Str → Option Value) : Prop where
  nI : mg "isinstance" = none
  nL : mg "list" = none
  nT : mg "tuple" = none
  nInt : mg "int" = none
  nB : mg "bool" = none
  nN : mg "len" = none
  nA : mg "all" = none
  nZ : mg "zip" = none
/-- alike, to this depth -/
inductive AlkF (H : Hp) : Nat → V → V → Prop
  | one {v : V} (h : Atom v) : AlkF H 0 v v
  | dic {a b : Addr} {kvs : List (Key × V)} (ha : H a = some (.dK kvs)) (hb : H b = some (.dK kvs)) (nd : (kvs.map (·.1)).Nodup) (at_ : ∀ kv ∈ kvs, Atom kv.2) : AlkF H 0 (.ref a) (.ref b)
  | lst {n : Nat} {a b : Addr} {xs ys : List V} (ha : H a = some (.lst xs)) (hb : H b = some (.lst ys)) (l : xs.length = ys.length) (sh : xs.length < 1000) (al : ∀ (i : Nat) (x y : V), xs[i]? = some x → ys[i]? = some y → AlkF H n x y) : AlkF H (n + 1) (.ref a) (.ref b)
  | tup {n : Nat} {a b : Addr} {xs ys : List V} (ha : H a = some (.tup xs)) (hb : H b = some (.tup ys)) (l : xs.length = ys.length) (sh : xs.length < 1000) (al : ∀ (i : Nat) (x y : V), xs[i]? = some x → ys[i]? = some y → AlkF H n x y) : AlkF H (n + 1) (.ref a) (.ref b)
  | up {n : Nat} {x y : V} (h : AlkF H n x y) : AlkF H (n + 1) x y
theorem AlkF.same {H H' : Hp} (s : Same H H') {n : Nat} {x y : V} (h : AlkF H n x y) : AlkF H' n x y := by
  induction h with
  | one h => exact .one h
  | dic ha hb nd at_ => exact .dic (s _ _ ha) (s _ _ hb) nd at_
  | lst ha hb l sh _ ih => exact .lst (s _ _ ha) (s _ _ hb) l sh ih
  | tup ha hb l sh _ ih => exact .tup (s _ _ ha) (s _ _ hb) l sh ih
  | up _ ih => exact .up ih
theorem kit_three_n {K : PySem.W.Frag} {t : String} (h0 : kitB t "int" = some false) (h1 : kitB t "list" = some false) (h2 : kitB t "tuple" = some false) : PySem.W.kitAny K (.type t) [.type "int", .type "list", .type "tuple"] = some false :=
  kitAny_cons (b := false) (kit_ty h0) (fun _ => kit_two_n h1 h2) (fun z => by cases z)
theorem flat_atom {v : V} (a : Atom v) : flatB v = true := by cases a <;> rfl
def spSameF (n : Nat) : Sp := fun vs H Q _ => ∃ x y : V, vs = [x, y] ∧ AlkF H n x y ∧ ∀ H', Same H H' → Q (.bl true) H'
section
variable {P : Program} {w : World} {K : PySem.W.Frag} {mg : Str → Option Value} {base : Heap} {f : Addr} {fd : FuncData}
theorem same_num (F : Fun K "_law_same" "_law_same" sSame f fd) (M : Sm mg) : FnOk P w K mg base CX0 1 f fd ["found", "due"] (fun vs H Q _ => ∃ v : V, vs = [v, v] ∧ ((∃ i, v = .int i) ∨ ∃ b, v = .bl b) ∧ ∀ H', Same H H' → Q (.bl true) H') := by
  refine F.ok scSame (fun vs H Q E h => by obtain ⟨x, e, _⟩ := h; rw [e]; rfl) fun cdv A outer s H vs Q E hr hsp => ?_
  obtain ⟨v, rfl, hv, hq⟩ := hsp
  refine ⟨_, pss_cons (ps_if (pt_val (pe_callB (r := rIsiT K) call_isiT rfl M.nI boot_isi (pa_cons (pv 1) (pa_cons (pe_tup (pa_cons (pe_bltn (v := .ty "list") rfl M.nL boot_list' rfl) (pa_cons (pe_bltn (v := .ty "tuple") rfl M.nT boot_tuple' rfl) pa_nil))) pa_nil)))) pss_never pss_nil)
    (pss_cons (ps_if (pt_val (pe_callB (r := rIsi K) call_isi rfl M.nI boot_isi (pa_cons (pv 1) (pa_cons (pe_bltn (v := .ty "int") rfl M.nInt boot_int' rfl) pa_nil)))) (pss_one (ps_ret (pe_and (pe_callB (r := rIsi K) call_isi rfl M.nI boot_isi (pa_cons (pv 0) (pa_cons (pe_bltn (v := .ty "int") rfl M.nInt boot_int' rfl) pa_nil))) (pe_and (pe_cmpR op_eq (pe_callB (r := rIsi K) call_isi rfl M.nI boot_isi (pa_cons (pv 0) (pa_cons (pe_bltn (v := .ty "bool") rfl M.nB boot_bool' rfl) pa_nil))) (pe_callB (r := rIsi K) call_isi rfl M.nI boot_isi (pa_cons (pv 1) (pa_cons (pe_bltn (v := .ty "bool") rfl M.nB boot_bool' rfl) pa_nil))) (nomark _)) (pe_one (pe_cmpR op_eq (pv 0) (pv 1) (nomark _))))))) pss_nil) pss_never), ?_⟩
  refine ⟨_, rfl, (by show 2 ≤ sizeLine; decide), fun t nt => ?_⟩
  have st := same_new (o := .tup [.ty "list", .ty "tuple"]) nt
  rcases hv with ⟨k, rfl⟩ | ⟨k, rfl⟩
  · refine ⟨_, _, _, _, _, false, rfl, upd_same, .cons (.ty _) (.cons (.ty _) .nil), .base (.int k), kit_two_n (by decide +kernel) (by decide +kernel), _, rfl, iteF ?_⟩
    refine ⟨_, rfl, _, _, _, _, true, rfl, .ty _, .base (.int k), kit_ty (by decide +kernel), _, rfl, iteT ?_⟩
    refine ⟨_, rfl, _, _, _, _, true, rfl, .ty _, .base (.int k), kit_ty (by decide +kernel), _, rfl, iteT ?_⟩
    refine ⟨_, rfl, _, _, _, _, false, rfl, .ty _, .base (.int k), kit_ty (by decide +kernel), _, rfl, _, _, _, _, false, rfl, .ty _, .base (.int k), kit_ty (by decide +kernel), rfl, _, rfl, iteT ⟨_, rfl, _, rfl, rfl, ?_⟩⟩
    rw [decide_eq_true rfl]
    exact hq _ st
  · refine ⟨_, _, _, _, _, false, rfl, upd_same, .cons (.ty _) (.cons (.ty _) .nil), .base (.bl k), kit_two_n (by decide +kernel) (by decide +kernel), _, rfl, iteF ?_⟩
    refine ⟨_, rfl, _, _, _, _, true, rfl, .ty _, .base (.bl k), kit_ty (by decide +kernel), _, rfl, iteT ?_⟩
    refine ⟨_, rfl, _, _, _, _, true, rfl, .ty _, .base (.bl k), kit_ty (by decide +kernel), _, rfl, iteT ?_⟩
    refine ⟨_, rfl, _, _, _, _, true, rfl, .ty _, .base (.bl k), kit_ty (by decide +kernel), _, rfl, _, _, _, _, true, rfl, .ty _, .base (.bl k), kit_ty (by decide +kernel), rfl, _, rfl, iteT ⟨_, rfl, _, rfl, rfl, ?_⟩⟩
    rw [decide_eq_true rfl]
    exact hq _ st
/-- what is neither a number nor a list: by == -/
theorem same_oth (F : Fun K "_law_same" "_law_same" sSame f fd) (M : Sm mg) {x y : V} {r : R2} {t : String} (h0 : kitB t "int" = some false) (h1 : kitB t "list" = some false) (h2 : kitB t "tuple" = some false) (op : ∀ X : Cx, X.A.units + 1 < cLine → OpR X (compareOp .Eq) r) :
    FnOk P w K mg base CX0 1 f fd ["found", "due"] (fun vs H Q _ => vs = [x, y] ∧ TyX K H x (.type t) ∧ TyX K H y (.type t) ∧ ∀ H', Same H H' → r x y H' Q) := by
  refine F.ok scSame (fun vs H Q E h => by obtain ⟨e, _⟩ := h; rw [e]; rfl) fun cdv A outer s H vs Q E hr hsp => ?_
  obtain ⟨rfl, tx, ty, hq⟩ := hsp
  refine ⟨_, pss_cons (ps_if (pt_val (pe_callB (r := rIsiT K) call_isiT rfl M.nI boot_isi (pa_cons (pv 1) (pa_cons (pe_tup (pa_cons (pe_bltn (v := .ty "list") rfl M.nL boot_list' rfl) (pa_cons (pe_bltn (v := .ty "tuple") rfl M.nT boot_tuple' rfl) pa_nil))) pa_nil)))) pss_never pss_nil)
    (pss_cons (ps_if (pt_val (pe_callB (r := rIsi K) call_isi rfl M.nI boot_isi (pa_cons (pv 1) (pa_cons (pe_bltn (v := .ty "int") rfl M.nInt boot_int' rfl) pa_nil)))) pss_never pss_nil)
    (pss_one (ps_ret (pe_and (pe_cmpR op_isBl (pe_callB (r := rIsiT K) call_isiT rfl M.nI boot_isi (pa_cons (pv 0) (pa_cons (pe_tup (pa_cons (pe_bltn (v := .ty "int") rfl M.nInt boot_int' rfl) (pa_cons (pe_bltn (v := .ty "list") rfl M.nL boot_list' rfl) (pa_cons (pe_bltn (v := .ty "tuple") rfl M.nT boot_tuple' rfl) pa_nil)))) pa_nil))) pe_bl (nomark _)) (pe_one (pe_cmpR (op _ (hu_of hr)) (pv 0) (pv 1) (nomark _))))))), ?_⟩
  refine ⟨_, rfl, (by show 2 ≤ sizeLine; decide), fun t nt => ?_⟩
  have st := same_new (o := .tup [.ty "list", .ty "tuple"]) nt
  refine ⟨_, _, _, _, _, false, rfl, upd_same, .cons (.ty _) (.cons (.ty _) .nil), ty_same ty st, kit_two_n h1 h2, _, rfl, iteF ?_⟩
  refine ⟨_, rfl, _, _, _, _, false, rfl, .ty _, ty_same ty st, kit_ty h0, _, rfl, iteF ?_⟩
  refine ⟨_, rfl, (by show 3 ≤ sizeLine; decide), fun t2 nt2 => ?_⟩
  have st2 := same_new (o := .tup [.ty "int", .ty "list", .ty "tuple"]) nt2
  refine ⟨_, _, _, _, _, false, rfl, upd_same, .cons (.ty _) (.cons (.ty _) (.cons (.ty _) .nil)), ty_same tx (st.trans st2), kit_three_n h0 h1 h2, _, _, rfl, rfl, _, rfl, iteT ⟨_, rfl, _, rfl, ?_⟩⟩
  exact hq _ (st.trans st2)
theorem same_lst (F : Fun K "_law_same" "_law_same" sSame f fd) (gSm : mg "_law_same" = some (.ref f)) (M : Sm mg) {n : Nat} (G : FnOk P w K mg base CX0 (n + 1) f fd ["found", "due"] (spSameF n)) : FnOk P w K mg base CX0 (n + 2) f fd ["found", "due"] (fun vs H Q _ => ∃ (a b : Addr) (xs ys : List V), vs = [.ref a, .ref b] ∧ H a = some (.lst xs) ∧ H b = some (.lst ys) ∧ xs.length = ys.length ∧ xs.length < 1000 ∧
    (∀ (i : Nat) (x y : V), xs[i]? = some x → ys[i]? = some y → AlkF H n x y) ∧ ∀ H', Same H H' → Q (.bl true) H') := by
  have b := F.binds (ps := ["found", "due"]) fun _ _ _ _ _ _ us hl => match us, hl with | [_, _], _ => rfl
  refine F.ok scSame (fun vs H Q E h => by obtain ⟨a, b, xs, ys, e, _⟩ := h; rw [e]; rfl) fun cdv A outer s H vs Q E hr hsp => ?_
  obtain ⟨a, bb, xs, ys, rfl, ha, hb, len, short, al, hq⟩ := hsp
  have nd := scSame.nd
  refine ⟨_, pss_cons (ps_if (pt_val (pe_callB (r := rIsiT K) call_isiT rfl M.nI boot_isi (pa_cons (pv 1) (pa_cons (pe_tup (pa_cons (pe_bltn (v := .ty "list") rfl M.nL boot_list' rfl) (pa_cons (pe_bltn (v := .ty "tuple") rfl M.nT boot_tuple' rfl) pa_nil))) pa_nil))))
      (pss_cons (ps_if (PW.pt (pw_or (pt_cmpR op_ne (pe_callB (r := rIsi K) call_isi rfl M.nI boot_isi (pa_cons (pv 0) (pa_cons (pe_bltn (v := .ty "list") rfl M.nL boot_list' rfl) pa_nil))) (pe_callB (r := rIsi K) call_isi rfl M.nI boot_isi (pa_cons (pv 1) (pa_cons (pe_bltn (v := .ty "list") rfl M.nL boot_list' rfl) pa_nil))) (nomark _)) (pw_or1 (pt_cmpR op_ne (pe_callB (r := rIsi K) call_isi rfl M.nI boot_isi (pa_cons (pv 0) (pa_cons (pe_bltn (v := .ty "tuple") rfl M.nT boot_tuple' rfl) pa_nil))) (pe_callB (r := rIsi K) call_isi rfl M.nI boot_isi (pa_cons (pv 1) (pa_cons (pe_bltn (v := .ty "tuple") rfl M.nT boot_tuple' rfl) pa_nil))) (nomark _))))) pss_never pss_nil)
      (pss_one (ps_ret (pe_and (pe_cmpR op_eq (pe_callB call_len_seq rfl M.nN boot_len (pa_cons (pv 0) pa_nil)) (pe_callB call_len_seq rfl M.nN boot_len (pa_cons (pv 1) pa_nil)) (nomark _))
        (pe_one (pe_callB (cr_all rfl) rfl M.nA boot_all' (pa_cons (pe_lc (own := [("x", 2), ("y", 3)]) (tt := tYes) (g := gTup K 2 (gCons (gName 2) (gCons (gName 3) gNil))) rfl nd (RZ.pi_zipA rfl M.nZ (pa_cons (pv 0) (pa_cons (pv 1) pa_nil))) (blkOk_by (N := NSm) (sc := defScope sSame) (by decide +kernel))
          (fun _ _ _ _ _ => pg_tup rfl (pgs_cons (pg_name (i := 2) nd rfl (Or.inl rfl)) (pgs_cons (pg_name (i := 3) nd rfl (Or.inl rfl)) pgs_nil))) (fun _ _ _ _ _ => pts_nil)
          (fun _ _ _ _ _ => pe_call G hr rfl gSm F.kp b .nil pass0 (pa_cons (pv 2) (pa_cons (pv 3) pa_nil)))) pa_nil))))))) pss_nil) pss_never, ?_⟩
  refine ⟨_, rfl, (by show 2 ≤ sizeLine; decide), fun t nt => ?_⟩
  have st := same_new (o := .tup [.ty "list", .ty "tuple"]) nt
  refine ⟨_, _, _, _, _, true, rfl, upd_same, .cons (.ty _) (.cons (.ty _) .nil), .base (.lst (st _ _ hb)), kit_two_l, _, rfl, iteT ?_⟩
  generalize upd H t (.tup [.ty "list", .ty "tuple"]) = H1 at st
  have ha := st _ _ ha
  have hb := st _ _ hb
  refine ⟨_, rfl, _, _, _, _, true, rfl, .ty _, .base (.lst ha), kit_ty (by decide +kernel), _, rfl, _, _, _, _, true, rfl, .ty _, .base (.lst hb), kit_ty (by decide +kernel), rfl, _, rfl, iteF ?_⟩
  refine ⟨_, rfl, _, _, _, _, false, rfl, .ty _, .base (.lst ha), kit_ty (by decide +kernel), _, rfl, _, _, _, _, false, rfl, .ty _, .base (.lst hb), kit_ty (by decide +kernel), rfl, _, rfl, iteF ?_⟩
  refine ⟨_, rfl, a, _, rfl, .inl (SqL.of ha), _, rfl, bb, _, rfl, .inl (SqL.of hb), rfl, _, rfl, ?_⟩
  rw [dec_int2, decide_eq_true (by omega : ((xs.length : Nat) : Int) = (ys.length : Nat))]
  refine iteT ⟨_, rfl, _, rfl, a, bb, _, _, rfl, .inl ⟨SqL.of ha, SqL.of hb, ?_⟩⟩
  refine lc_gen (bools xs.length) (by rw [bools_len]; omega) (fun i H' s lt => ?_) (fun H' s => ?_) ?_ ?_
  · rw [bools_len] at lt
    exact ⟨_, _, _, _, SqL.of (s _ _ ha), SqL.of (s _ _ hb), List.getElem?_eq_getElem (by omega), List.getElem?_eq_getElem (by omega)⟩
  · exact ⟨_, _, SqL.of (s _ _ ha), SqL.of (s _ _ hb), .inl (by rw [bools_len]; exact Nat.le_refl _)⟩
  · rintro i v y H2 H3 Cn Nn ey s2 ⟨T, u1, u2, rfl, nT, rfl, e1, e2⟩ yes
    obtain ⟨rfl, lt⟩ := bools_at ey
    have e1 := e1 _ (SqL.of (s2 _ _ ha))
    have e2 := e2 _ (SqL.of (s2 _ _ hb))
    have sT := same_new (o := .tup [u1, u2]) nT
    refine ⟨T, _, rfl, SqT.of upd_same, rfl, _, _, rfl, _, _, rfl, rfl, rfl, ?_⟩
    exact ⟨_, rfl, _, rfl, u1, u2, rfl, (al i u1 u2 e1 e2).same ((st.trans s2).trans sT), fun H4 s4 => yes H4 (sT.trans s4)⟩
  · intro H2 D nD oD s2
    rw [bools_map] at oD
    refine ⟨D, _, rfl, SqL.of oD, ?_⟩
    rw [all_true]
    exact hq _ (st.trans s2)
theorem same_tup (F : Fun K "_law_same" "_law_same" sSame f fd) (gSm : mg "_law_same" = some (.ref f)) (M : Sm mg) {n : Nat} (G : FnOk P w K mg base CX0 (n + 1) f fd ["found", "due"] (spSameF n)) : FnOk P w K mg base CX0 (n + 2) f fd ["found", "due"] (fun vs H Q _ => ∃ (a b : Addr) (xs ys : List V), vs = [.ref a, .ref b] ∧ H a = some (.tup xs) ∧ H b = some (.tup ys) ∧ xs.length = ys.length ∧ xs.length < 1000 ∧
    (∀ (i : Nat) (x y : V), xs[i]? = some x → ys[i]? = some y → AlkF H n x y) ∧ ∀ H', Same H H' → Q (.bl true) H') := by
  have b := F.binds (ps := ["found", "due"]) fun _ _ _ _ _ _ us hl => match us, hl with | [_, _], _ => rfl
  refine F.ok scSame (fun vs H Q E h => by obtain ⟨a, b, xs, ys, e, _⟩ := h; rw [e]; rfl) fun cdv A outer s H vs Q E hr hsp => ?_
  obtain ⟨a, bb, xs, ys, rfl, ha, hb, len, short, al, hq⟩ := hsp
  have nd := scSame.nd
  refine ⟨_, pss_cons (ps_if (pt_val (pe_callB (r := rIsiT K) call_isiT rfl M.nI boot_isi (pa_cons (pv 1) (pa_cons (pe_tup (pa_cons (pe_bltn (v := .ty "list") rfl M.nL boot_list' rfl) (pa_cons (pe_bltn (v := .ty "tuple") rfl M.nT boot_tuple' rfl) pa_nil))) pa_nil))))
      (pss_cons (ps_if (PW.pt (pw_or (pt_cmpR op_ne (pe_callB (r := rIsi K) call_isi rfl M.nI boot_isi (pa_cons (pv 0) (pa_cons (pe_bltn (v := .ty "list") rfl M.nL boot_list' rfl) pa_nil))) (pe_callB (r := rIsi K) call_isi rfl M.nI boot_isi (pa_cons (pv 1) (pa_cons (pe_bltn (v := .ty "list") rfl M.nL boot_list' rfl) pa_nil))) (nomark _)) (pw_or1 (pt_cmpR op_ne (pe_callB (r := rIsi K) call_isi rfl M.nI boot_isi (pa_cons (pv 0) (pa_cons (pe_bltn (v := .ty "tuple") rfl M.nT boot_tuple' rfl) pa_nil))) (pe_callB (r := rIsi K) call_isi rfl M.nI boot_isi (pa_cons (pv 1) (pa_cons (pe_bltn (v := .ty "tuple") rfl M.nT boot_tuple' rfl) pa_nil))) (nomark _))))) pss_never pss_nil)
      (pss_one (ps_ret (pe_and (pe_cmpR op_eq (pe_callB call_len_seq rfl M.nN boot_len (pa_cons (pv 0) pa_nil)) (pe_callB call_len_seq rfl M.nN boot_len (pa_cons (pv 1) pa_nil)) (nomark _))
        (pe_one (pe_callB (cr_all rfl) rfl M.nA boot_all' (pa_cons (pe_lc (own := [("x", 2), ("y", 3)]) (tt := tYes) (g := gTup K 2 (gCons (gName 2) (gCons (gName 3) gNil))) rfl nd (RZ.pi_zipA rfl M.nZ (pa_cons (pv 0) (pa_cons (pv 1) pa_nil))) (blkOk_by (N := NSm) (sc := defScope sSame) (by decide +kernel))
          (fun _ _ _ _ _ => pg_tup rfl (pgs_cons (pg_name (i := 2) nd rfl (Or.inl rfl)) (pgs_cons (pg_name (i := 3) nd rfl (Or.inl rfl)) pgs_nil))) (fun _ _ _ _ _ => pts_nil)
          (fun _ _ _ _ _ => pe_call G hr rfl gSm F.kp b .nil pass0 (pa_cons (pv 2) (pa_cons (pv 3) pa_nil)))) pa_nil))))))) pss_nil) pss_never, ?_⟩
  refine ⟨_, rfl, (by show 2 ≤ sizeLine; decide), fun t nt => ?_⟩
  have st := same_new (o := .tup [.ty "list", .ty "tuple"]) nt
  refine ⟨_, _, _, _, _, true, rfl, upd_same, .cons (.ty _) (.cons (.ty _) .nil), .base (.tup (st _ _ hb)), kit_two_t, _, rfl, iteT ?_⟩
  generalize upd H t (.tup [.ty "list", .ty "tuple"]) = H1 at st
  have ha := st _ _ ha
  have hb := st _ _ hb
  refine ⟨_, rfl, _, _, _, _, false, rfl, .ty _, .base (.tup ha), kit_ty (by decide +kernel), _, rfl, _, _, _, _, false, rfl, .ty _, .base (.tup hb), kit_ty (by decide +kernel), rfl, _, rfl, iteF ?_⟩
  refine ⟨_, rfl, _, _, _, _, true, rfl, .ty _, .base (.tup ha), kit_ty (by decide +kernel), _, rfl, _, _, _, _, true, rfl, .ty _, .base (.tup hb), kit_ty (by decide +kernel), rfl, _, rfl, iteF ?_⟩
  refine ⟨_, rfl, a, _, rfl, .inr (SqT.of ha), _, rfl, bb, _, rfl, .inr (SqT.of hb), rfl, _, rfl, ?_⟩
  rw [dec_int2, decide_eq_true (by omega : ((xs.length : Nat) : Int) = (ys.length : Nat))]
  refine iteT ⟨_, rfl, _, rfl, a, bb, _, _, rfl, .inr ⟨SqT.of ha, SqT.of hb, ?_⟩⟩
  refine lc_gen (bools xs.length) (by rw [bools_len]; omega) (fun i H' s lt => ?_) (fun H' s => ?_) ?_ ?_
  · rw [bools_len] at lt
    exact ⟨_, _, _, _, SqT.of (s _ _ ha), SqT.of (s _ _ hb), List.getElem?_eq_getElem (by omega), List.getElem?_eq_getElem (by omega)⟩
  · exact ⟨_, _, SqT.of (s _ _ ha), SqT.of (s _ _ hb), .inl (by rw [bools_len]; exact Nat.le_refl _)⟩
  · rintro i v y H2 H3 Cn Nn ey s2 ⟨T, u1, u2, rfl, nT, rfl, e1, e2⟩ yes
    obtain ⟨rfl, lt⟩ := bools_at ey
    have e1 := e1 _ (SqT.of (s2 _ _ ha))
    have e2 := e2 _ (SqT.of (s2 _ _ hb))
    have sT := same_new (o := .tup [u1, u2]) nT
    refine ⟨T, _, rfl, SqT.of upd_same, rfl, _, _, rfl, _, _, rfl, rfl, rfl, ?_⟩
    exact ⟨_, rfl, _, rfl, u1, u2, rfl, (al i u1 u2 e1 e2).same ((st.trans s2).trans sT), fun H4 s4 => yes H4 (sT.trans s4)⟩
  · intro H2 D nD oD s2
    rw [bools_map] at oD
    refine ⟨D, _, rfl, SqL.of oD, ?_⟩
    rw [all_true]
    exact hq _ (st.trans s2)
theorem ok_sameF (F : Fun K "_law_same" "_law_same" sSame f fd) (gSm : mg "_law_same" = some (.ref f)) (M : Sm mg) : ∀ n : Nat, FnOk P w K mg base CX0 (n + 1) f fd ["found", "due"] (spSameF n)
  | 0 => by
    refine ⟨fun vs H Q E h => by obtain ⟨x, y, e, _⟩ := h; rw [e]; rfl, fun A outer s H args us vs Q E hr he hb hv hs => ?_⟩
    obtain ⟨x, y, rfl, al, hq⟩ := hs
    cases al with
    | one h =>
      cases h with
      | int i => exact (same_num F M).run A outer s H args us _ Q E hr he hb hv ⟨_, rfl, .inl ⟨i, rfl⟩, hq⟩
      | bl i => exact (same_num F M).run A outer s H args us _ Q E hr he hb hv ⟨_, rfl, .inr ⟨i, rfl⟩, hq⟩
      | str z => exact (same_oth F M (x := .str z) (y := .str z) (r := rEq) (t := "str") (by decide +kernel) (by decide +kernel) (by decide +kernel) fun X _ => op_eq).run A outer s H args us _ Q E hr he hb hv ⟨rfl, .base (.str z), .base (.str z), fun H' s => ⟨rfl, by rw [decide_eq_true rfl]; exact hq _ s⟩⟩
      | non => exact (same_oth F M (x := .non) (y := .non) (r := rEq) (t := "NoneType") (by decide +kernel) (by decide +kernel) (by decide +kernel) fun X _ => op_eq).run A outer s H args us _ Q E hr he hb hv ⟨rfl, .base .non, .base .non, fun H' s => ⟨rfl, by rw [decide_eq_true rfl]; exact hq _ s⟩⟩
    | @dic a b kvs ha hb' nd at_ =>
      have all : ∀ p ∈ kvs, valV kvs p.1 = some p.2 ∧ flatB p.2 = true := fun p hp => by
        obtain ⟨i, hi⟩ := List.mem_iff_getElem?.mp hp
        exact ⟨valV_atN nd hi, flat_atom (at_ p hp)⟩
      exact (same_oth F M (x := .ref a) (y := .ref b) (r := rEqDA) (t := "dict") (by decide +kernel) (by decide +kernel) (by decide +kernel) fun X hu => op_eq_dictA (by omega)).run A outer s H args us _ Q E hr he hb hv
        ⟨rfl, .base (.dK ha), .base (.dK hb'), fun H' s => ⟨a, b, kvs, kvs, rfl, rfl, s _ _ ha, s _ _ hb', rfl, all, hq _ s⟩⟩
  | n + 1 => by
    have G := ok_sameF F gSm M n
    have GU : FnOk P w K mg base CX0 (n + 2) f fd ["found", "due"] (spSameF n) := G.mono (Nat.le_succ _)
    refine ⟨fun vs H Q E h => by obtain ⟨x, y, e, _⟩ := h; rw [e]; rfl, fun A outer s H args us vs Q E hr he hb hv hs => ?_⟩
    obtain ⟨x, y, rfl, al, hq⟩ := hs
    cases al with
    | lst ha hb' l sh al => exact (same_lst F gSm M G).run A outer s H args us _ Q E hr he hb hv ⟨_, _, _, _, rfl, ha, hb', l, sh, al, hq⟩
    | tup ha hb' l sh al => exact (same_tup F gSm M G).run A outer s H args us _ Q E hr he hb hv ⟨_, _, _, _, rfl, ha, hb', l, sh, al, hq⟩
    | up h => exact GU.run A outer s H args us _ Q E hr he hb hv ⟨_, _, rfl, h, hq⟩
end
section
variable {H : Hp}
theorem alk_one {v : V} (h : Atom v) : AlkF H 0 v v := .one h
theorem AlkF.le {n m : Nat} {x y : V} (h : AlkF H n x y) (l : n ≤ m) : AlkF H m x y := by
  induction l with
  | refl => exact h
  | step _ ih => exact .up ih
theorem alk_strs {a b : Addr} {xs : List Str} (ha : H a = some (.lst (xs.map V.str))) (hb : H b = some (.lst (xs.map V.str))) (sh : xs.length < 1000) : AlkF H 1 (.ref a) (.ref b) :=
  .lst ha hb rfl (by rw [List.length_map]; exact sh) fun i x y e1 e2 => by
    rw [List.getElem?_map] at e1 e2
    obtain ⟨s, es, rfl⟩ := Option.map_eq_some_iff.mp e1
    rw [es] at e2
    obtain rfl := Option.some.inj e2
    exact .one (.str _)
theorem alk_pair {a b : Addr} {x1 x2 y1 y2 : V} {n : Nat} (ha : H a = some (.tup [x1, x2])) (hb : H b = some (.tup [y1, y2])) (h1 : AlkF H n x1 y1) (h2 : AlkF H n x2 y2) : AlkF H (n + 1) (.ref a) (.ref b) :=
  .tup ha hb rfl (by show 2 < 1000; decide) fun i x y e1 e2 => by
    match i with
    | 0 => cases e1; cases e2; exact h1
    | 1 => cases e1; cases e2; exact h2
    | i + 2 => simp at e1
theorem alk_two {a b : Addr} {x1 x2 y1 y2 : V} {n : Nat} (ha : H a = some (.lst [x1, x2])) (hb : H b = some (.lst [y1, y2])) (h1 : AlkF H n x1 y1) (h2 : AlkF H n x2 y2) : AlkF H (n + 1) (.ref a) (.ref b) :=
  .lst ha hb rfl (by show 2 < 1000; decide) fun i x y e1 e2 => by
    match i with
    | 0 => cases e1; cases e2; exact h1
    | 1 => cases e1; cases e2; exact h2
    | i + 2 => simp at e1
end
end L2.TB
/-! things of any kind; errors raised -/
namespace L2.TB
open PySem PySem.Spec PyProof.Rows
/-- a thing that is no text -/
def NoStr (K : PySem.W.Frag) (H : Hp) (v : V) : Prop := ∃ t : String, TyX K H v (.type t) ∧ kitB t "str" = some false
/-- a thing that is neither a list nor a tuple -/
def NoSeq (K : PySem.W.Frag) (H : Hp) (v : V) : Prop := ∃ t : String, TyX K H v (.type t) ∧ kitB t "list" = some false ∧ kitB t "tuple" = some false
def strOf : V → Option Str
  | .str x => some x
  | _ => none
theorem strOf_none {v : V} (h : strOf v = none) (a : Atom v) (K : PySem.W.Frag) (H : Hp) : NoStr K H v := by
  cases a with
  | str x => cases h
  | int i => exact ⟨_, .base (.int i), by decide +kernel⟩
  | bl b => exact ⟨_, .base (.bl b), by decide +kernel⟩
  | non => exact ⟨_, .base .non, by decide +kernel⟩
theorem strOf_some {v : V} {x : Str} (h : strOf v = some x) : v = .str x := by
  cases v <;> first | (cases h; rfl) | cases h
theorem NoStr.same {K : PySem.W.Frag} {H H' : Hp} {v : V} (h : NoStr K H v) (s : Same H H') : NoStr K H' v := let ⟨t, a, b⟩ := h; ⟨t, ty_same a s, b⟩
theorem NoSeq.same {K : PySem.W.Frag} {H H' : Hp} {v : V} (h : NoSeq K H v) (s : Same H H') : NoSeq K H' v := let ⟨t, a, b⟩ := h; ⟨t, ty_same a s, b⟩
def spIsListG (K : PySem.W.Frag) : Sp := fun vs H Q _ => ∃ v : V, vs = [v] ∧ (((∃ a xs, v = .ref a ∧ SqA K H a xs) ∧ ∀ H', Same H H' → Q (.bl true) H') ∨ (NoSeq K H v ∧ ∀ H', Same H H' → Q (.bl false) H'))
structure ErrF (P : Program) (w : World) (K : PySem.W.Frag) (mg : Str → Option Value) (base : Heap) (x : Str) (C : Addr) (fld : Str) : Prop where
  g : mg x = some (.ref C)
  ex : ∃ (fI : Addr) (fd : FuncData) (y : Str), ErrC K C fI fld ∧ FnOk P w K mg base CX0 1 fI fd ["self", y] (spErr K fld) ∧ Binds K fd ["self", y] []
def tRaise (K : PySem.W.Frag) (C : Addr) (fld : Str) (te : TE) (W : WX) : TS := fun _ σ H => tMkO C (spErr K fld) [] (tCons te tNil) σ H fun cls d H' => W cls d σ H'
theorem ps_raiseE {X : Cx} {W : WX} {x fld : Str} {C : Addr} {e : Expr} {te : TE} {p pos pos2 : Pos} (hc : X.calm = true) (tk : Takes X W) (E : ErrF X.prog X.w X.K X.mg X.base x C fld) (hr : Room 2 X.A) (hg : Gl X x) (he : PE X e te)
    (hdb : (x == ("__debug__" : Str)) = false := by decide) (hs : starEach [e] X.env = (false, eval e X.env) :: starEach [] X.env := by rfl) : PS X (.Raise (some (.Call (.Name x p) [e] [] pos)) none pos2) (tRaise X.K C fld te W) := by
  obtain ⟨fI, fd, y, EC, G, b⟩ := E.ex
  exact ps_raise hc tk (pmk_err EC G b hr hg E.g he hdb hs)
theorem Flies.up {P : Program} {w : World} {K : PySem.W.Frag} {mg : Str → Option Value} {base : Heap} {x fld : Str} {C : Addr} {v : V} {H1 : Hp} {Q : XK} (E : ErrF P w K mg base x C fld) (h : Flies C fld v H1 Q) :
    [v].length ≤ 1000 ∧ ∀ a, H1 a = none → spErr K fld (.ref a :: ([v] ++ [])) (upd H1 a (exo a C none))
      (fun v H2 => v = .non ∧ ∃ (d : Addr) (fs : List (Str × V)), H2 a = some (exo a C (some d)) ∧ H2 d = some (exd d fs) ∧ H1 d = none ∧ Q (.ref C) (some d) (upd (del H2 a) d (.xd fs))) (fun _ _ _ => False) := by
  obtain ⟨fI, fd, y, EC, _⟩ := E.ex
  exact Flies.mk EC h
/-- what flies out of a locked walk finds the thing unlocked -/
theorem takes_unlock {X : Cx} {W : WX} (tk : Takes X W) {d : Addr} {u : HO} (hn : ∀ o' u', X.H_0 d ≠ some (.frz o' u')) : Takes X (fun cls dd σ H' => ∃ od, H' d = some (.frz od u) ∧ W cls dd σ (upd H' d u)) :=
  fun z s' ⟨a, B, sI, pins, σ, H, cls, dd, e, I, nb, up, sky, na, os, ag, od, hd, w⟩ => tk z s' ⟨a, B, sI, pins, σ, _, cls, dd, e, I.unlock hd hn, nb, up, sky, by rw [upd_ne (fun q => by rw [q, hd] at na; cases na)]; exact na, os, ag, w⟩
theorem Flies.unlock {P : Program} {w : World} {K : PySem.W.Frag} {mg : Str → Option Value} {base : Heap} {x fld : Str} {C d : Addr} {u : HO} {od : Obj} {v : V} {H H3 : Hp} {Q : XK} (E : ErrF P w K mg base x C fld) (h : Flies C fld v H Q) (hd : H d = some u) (s : Same (upd H d (.frz od u)) H3) :
    [v].length ≤ 1000 ∧ ∀ a, H3 a = none → spErr K fld (.ref a :: ([v] ++ [])) (upd H3 a (exo a C none))
      (fun v H2 => v = .non ∧ ∃ (d' : Addr) (fs : List (Str × V)), H2 a = some (exo a C (some d')) ∧ H2 d' = some (exd d' fs) ∧ H3 d' = none ∧ (∃ od, (upd (del H2 a) d' (.xd fs)) d = some (.frz od u) ∧ Q (.ref C) (some d') (upd (upd (del H2 a) d' (.xd fs)) d u))) (fun _ _ _ => False) := by
  obtain ⟨fI, fd, y, EC, _⟩ := E.ex
  refine mk_rs (Q := fun cls dd H' => ∃ od, H' d = some (.frz od u) ∧ Q cls dd (upd H' d u)) EC fun dd nd => ?_
  have b1 := s _ _ (upd_same (H := H) (a := d) (o := .frz od u))
  have ne : d ≠ dd := fun z => by rw [z, nd] at b1; cases b1
  have s2 : Same (upd H d (.frz od u)) (upd H3 dd (.xd [(fld, v)])) := s.trans (same_new nd)
  obtain ⟨b2, s3⟩ := lock_offN hd s2
  refine ⟨od, b2, h dd _ s3 ?_ ?_⟩
  · cases q : H dd with
    | none => rfl
    | some o =>
      have z := s _ _ (show upd H d (.frz od u) dd = some o by rw [upd_ne (Ne.symm ne)]; exact q)
      rw [nd] at z; cases z
  · rw [upd_ne (Ne.symm ne), upd_same]
def nmB (x : Str) : Bool := decide (1 ≤ x.cps.toList.length) && (decide (x.cps.toList.length ≤ 40) && x.cps.toList.all fun c => decide (c ∈ signsL))
theorem nmB_ok {x : Str} (h : NmOk x) : nmB x = true := by
  obtain ⟨h1, h2, h3⟩ := h
  unfold nmB
  rw [decide_eq_true h1, decide_eq_true h2, List.all_eq_true.mpr fun c hc => decide_eq_true (h3 c hc)]
  rfl
def spIsNameG (K : PySem.W.Frag) : Sp := fun vs H Q _ => ∃ v : V, vs = [v] ∧ ((∃ x, v = .str x ∧ x.cps.toList.length < 1000 ∧ ∀ H', Same H H' → Q (.bl (nmB x)) H') ∨ (NoStr K H v ∧ Q (.bl false) H))
/-- no whole number -/
inductive NoInt (K : PySem.W.Frag) (H : Hp) : V → Prop
  | bl (b : Bool) : NoInt K H (.bl b)
  | ty {v : V} {t : String} (h : TyX K H v (.type t)) (k : kitB t "int" = some false) : NoInt K H v
theorem NoInt.same {K : PySem.W.Frag} {H H' : Hp} {v : V} (h : NoInt K H v) (s : Same H H') : NoInt K H' v := by
  cases h with
  | bl b => exact .bl b
  | ty h k => exact .ty (ty_same h s) k
def spIsIntG (K : PySem.W.Frag) : Sp := fun vs H Q _ => ∃ v : V, vs = [v] ∧ ((∃ k, v = .int k ∧ Q (.bl true) H) ∨ (NoInt K H v ∧ Q (.bl false) H))
def spIsCountG (K : PySem.W.Frag) : Sp := fun vs H Q _ => ∃ v : V, vs = [v] ∧ ((∃ k : Int, v = .int k ∧ Q (.bl (decide (0 ≤ k))) H) ∨ (NoInt K H v ∧ Q (.bl false) H))
theorem scIsCount : FnScope ["thing"] ["thing"] (defScope sIsCount) := ⟨rfl, rfl, rfl, by decide +kernel, rfl, by decide +kernel, by decide +kernel⟩
section
variable {P : Program} {w : World} {K : PySem.W.Frag} {mg : Str → Option Value} {base : Heap} {f fI : Addr} {fd fdI : FuncData}
theorem ok_isListG (F : Fun K "is_list" "is_list" sIsList f fd) (gI : mg "isinstance" = none) (gL : mg "list" = none) (gT : mg "tuple" = none) : FnOk P w K mg base CX0 1 f fd ["thing"] (spIsListG K) := by
  refine F.ok scIsList (fun vs H Q E h => by obtain ⟨a, e, _⟩ := h; rw [e]; rfl) fun cdv A outer s H vs Q E hr hsp => ?_
  obtain ⟨v, rfl, hq⟩ := hsp
  refine ⟨_, pss_one (ps_ret (pe_callB (r := rIsiT K) call_isiT rfl gI boot_isi (pa_cons (pv 0) (pa_cons (pe_tup (pa_cons (pe_bltn (v := .ty "list") rfl gL boot_list' rfl) (pa_cons (pe_bltn (v := .ty "tuple") rfl gT boot_tuple' rfl) pa_nil))) pa_nil)))), ?_⟩
  refine ⟨_, rfl, (by show 2 ≤ sizeLine; decide), fun t nt => ?_⟩
  have kt := same_new (o := .tup [.ty "list", .ty "tuple"]) nt
  rcases hq with ⟨⟨a, xs, rfl, hS⟩, hq⟩ | ⟨hN, hq⟩
  · rcases hS.same kt with e | e
    · exact ⟨_, _, _, _, _, true, rfl, upd_same, .cons (.ty _) (.cons (.ty _) .nil), .base (.lst e), kit_two_l, hq _ kt⟩
    · exact ⟨_, _, _, _, _, true, rfl, upd_same, .cons (.ty _) (.cons (.ty _) .nil), .base (.tup e), kit_two_t, hq _ kt⟩
  · obtain ⟨ty, h1, h2, h3⟩ := hN.same kt
    exact ⟨_, _, _, _, _, false, rfl, upd_same, .cons (.ty _) (.cons (.ty _) .nil), h1, kit_two_n h2 h3, hq _ kt⟩
theorem ok_isNameG (F : Fun K "is_name" "is_name" sIsName f fd) (gI : mg "isinstance" = none) (gS : mg "str" = none) (gN : mg "len" = none) (gA : mg "all" = none) (gL : ∃ t, mg "LONGEST" = some (.int 40 t)) (gSg : ∃ t, mg "SIGNS" = some (.str (Str.ofString "abcdefghijklmnopqrstuvwxyz0123456789.") t)) :
    FnOk P w K mg base CX0 1 f fd ["thing"] (spIsNameG K) := by
  obtain ⟨tL, gL⟩ := gL
  obtain ⟨tS, gSg⟩ := gSg
  refine F.ok scIsName (fun vs H Q E h => by obtain ⟨x, e, _⟩ := h; rw [e]; rfl) fun cdv A outer s H vs Q E hr hsp => ?_
  obtain ⟨v, rfl, hq⟩ := hsp
  have nd := scIsName.nd
  refine ⟨_, pss_cons (ps_if (PW.pt (pw_or (pt_not (pt_val (pe_callB (r := rIsi K) call_isi rfl gI boot_isi (pa_cons (pv 0) (pa_cons (pe_bltn (v := .ty "str") rfl gS boot_str' rfl) pa_nil)))))
      (pw_or1 (pt_not (pt_chain op_le op_le pe_int (pe_callB call_len_str rfl gN boot_len (pa_cons (pv 0) pa_nil)) (pe_glob (v := .int 40) rfl gL ⟨_, rfl⟩)))))) (pss_one (ps_ret pe_bl)) pss_nil)
    (pss_one (ps_ret (pe_callB (cr_all rfl) rfl gA boot_all' (pa_cons (pe_lc (own := [("sign", 1)]) (tt := tYes) rfl nd (pi_str (pv 0)) (blkOk_by (N := NIn) (sc := defScope sIsName) (by decide +kernel)) (fun _ _ _ _ _ => pg_name (i := 1) nd rfl (Or.inl rfl)) (fun _ _ _ _ _ => pts_nil)
      (fun _ _ _ _ _ => pe_cmpR op_in_sign (pv 1) (pe_glob (v := .str (Str.ofString "abcdefghijklmnopqrstuvwxyz0123456789.")) rfl gSg ⟨_, rfl⟩) rfl)) pa_nil)))), ?_⟩
  rcases hq with ⟨x, rfl, short, hq⟩ | ⟨⟨t, h1, h2⟩, hq⟩
  · have lz : x.length = x.cps.toList.length := (Array.length_toList (xs := x.cps)).symm
    refine ⟨_, rfl, _, _, _, _, true, rfl, .ty _, .base (.str x), kit_ty (by decide +kernel), _, rfl, iteF ?_⟩
    refine ⟨_, rfl, x, rfl, (by rw [sizeLine_eq]; omega), _, _, rfl, rfl, _, rfl, ?_⟩
    by_cases l1 : 1 ≤ x.cps.toList.length
    · rw [decide_eq_true (by omega : (1 : Int) ≤ (x.length : Nat))]
      refine iteT ⟨_, _, rfl, rfl, _, rfl, ?_⟩
      by_cases l2 : x.cps.toList.length ≤ 40
      · rw [decide_eq_true (by omega : ((x.length : Nat) : Int) ≤ 40)]
        refine iteF ?_
        refine ⟨_, rfl, x, rfl, lc_gen ((x.cps.toList.map fun c => decide (c ∈ signsL)).map V.bl) (by rw [List.length_map, List.length_map]; omega) (fun i H' _ lt => ?_) (fun H' _ => ?_) ?_ ?_⟩
        · rw [List.length_map, List.length_map, Array.length_toList] at lt; exact lt
        · rw [List.length_map, List.length_map, Array.length_toList]; exact Nat.le_refl _
        · rintro i v y H2 H3 Cn Nn ey s2 ⟨rfl, c, ec, rfl⟩ yes
          rw [List.getElem?_map, List.getElem?_map, Array.getElem?_toList, ec] at ey
          obtain rfl := (Option.some.inj ey)
          refine ⟨rfl, ?_⟩
          exact ⟨_, rfl, c, _, rfl, rfl, yes H3 (Same.refl _)⟩
        · intro H2 D nD oD s2
          refine ⟨D, _, rfl, SqL.of oD, ?_⟩
          have e : nmB x = (x.cps.toList.map fun c => decide (c ∈ signsL)).all id := by
            unfold nmB
            rw [decide_eq_true l1, decide_eq_true l2, List.all_map]
            rfl
          rw [← e]
          exact hq H2 s2
      · rw [decide_eq_false (by omega : ¬ ((x.length : Nat) : Int) ≤ 40)]
        have z := hq _ (Same.refl _)
        have e : nmB x = false := by unfold nmB; rw [decide_eq_false l2, Bool.false_and, Bool.and_false]
        rw [e] at z
        exact iteT z
    · rw [decide_eq_false (by omega : ¬ (1 : Int) ≤ (x.length : Nat))]
      have z := hq _ (Same.refl _)
      have e : nmB x = false := by unfold nmB; rw [decide_eq_false l1, Bool.false_and]
      rw [e] at z
      exact iteF ⟨_, rfl, iteT z⟩
  · exact ⟨_, rfl, _, _, _, _, false, rfl, .ty _, h1, kit_ty h2, _, rfl, iteT (iteT hq)⟩
theorem ok_isIntG (F : Fun K "is_integer" "is_integer" sIsInt f fd) (gI : mg "isinstance" = none) (gInt : mg "int" = none) (gB : mg "bool" = none) : FnOk P w K mg base CX0 1 f fd ["thing"] (spIsIntG K) := by
  refine F.ok scIsInt (fun vs H Q E h => by obtain ⟨k, e, _⟩ := h; rw [e]; rfl) fun cdv A outer s H vs Q E hr hsp => ?_
  obtain ⟨v, rfl, hq⟩ := hsp
  refine ⟨_, pss_one (ps_ret (pe_and (pe_callB (r := rIsi K) call_isi rfl gI boot_isi (pa_cons (pv 0) (pa_cons (pe_bltn (v := .ty "int") rfl gInt boot_int' rfl) pa_nil)))
    (pe_one (pe_not (pe_callB (r := rIsi K) call_isi rfl gI boot_isi (pa_cons (pv 0) (pa_cons (pe_bltn (v := .ty "bool") rfl gB boot_bool' rfl) pa_nil))))))), ?_⟩
  rcases hq with ⟨k, rfl, hq⟩ | ⟨hn, hq⟩
  · exact ⟨_, rfl, _, _, _, _, true, rfl, .ty _, .base (.int k), kit_ty (by decide +kernel), true, rfl, iteT ⟨_, rfl, _, _, _, _, false, rfl, .ty _, .base (.int k), kit_ty (by decide +kernel), false, rfl, hq⟩⟩
  · cases hn with
    | bl b => exact ⟨_, rfl, _, _, _, _, true, rfl, .ty _, .base (.bl b), kit_ty (by decide +kernel), true, rfl, iteT ⟨_, rfl, _, _, _, _, true, rfl, .ty _, .base (.bl b), kit_ty (by decide +kernel), true, rfl, hq⟩⟩
    | ty h k => exact ⟨_, rfl, _, _, _, _, false, rfl, .ty _, h, kit_ty k, false, rfl, iteF hq⟩
theorem ok_isCountG (F : Fun K "is_count" "is_count" sIsCount f fd) (FI : Fun K "is_integer" "is_integer" sIsInt fI fdI) (gI : mg "is_integer" = some (.ref fI)) (nI : mg "isinstance" = none) (nInt : mg "int" = none) (nB : mg "bool" = none) : FnOk P w K mg base CX0 2 f fd ["thing"] (spIsCountG K) := by
  have GI : FnOk P w K mg base CX0 1 fI fdI ["thing"] (spIsIntG K) := ok_isIntG FI nI nInt nB
  have bI := FI.binds (ps := ["thing"]) fun _ _ _ _ _ _ us hl => match us, hl with | [_], _ => rfl
  refine F.ok scIsCount (fun vs H Q E h => by obtain ⟨k, e, _⟩ := h; rw [e]; rfl) fun cdv A outer s H vs Q E hr hsp => ?_
  obtain ⟨v, rfl, hq⟩ := hsp
  refine ⟨_, pss_one (ps_ret (pe_and (pe_call GI hr rfl gI FI.kp bI .nil pass0 (pa_cons (pv 0) pa_nil)) (pe_one (pe_cmpR op_ge (pv 0) pe_int (nomark _))))), ?_⟩
  rcases hq with ⟨k, rfl, hq⟩ | ⟨hn, hq⟩
  · exact ⟨_, rfl, _, rfl, .inl ⟨k, rfl, _, rfl, iteT ⟨_, rfl, _, _, rfl, rfl, hq⟩⟩⟩
  · exact ⟨_, rfl, _, rfl, .inr ⟨hn, _, rfl, iteF hq⟩⟩
end
end L2.TB
/-! comprehensions; what is reached -/
namespace L2.TB
open PySem PySem.Spec PyProof.Rows
/-- a comprehension whose turns make things anew: R tells what the thing of a turn is -/
theorem lc_made {J : It} {g : TG} {tt : TT} {te : TE} {vs : List Nat} {σ : L2.St} {H1 : Hp} {Q : Addr → Hp → Prop} (n : Nat) (short : n < 1000000) (go : ∀ i H, Same H1 H → i < n → J.go i H) (stop : ∀ H, Same H1 H → J.stop n H) (R : Nat → V → Hp → Prop)
    (stays : ∀ i y H H' D l, R i y H → H D = some (.lst l) → (∀ b o, b ≠ D → H b = some o → H' b = some o) → R i y H')
    (turn : ∀ (i : Nat) (x : V) (H H' : Hp) (C : V → Hp → Prop) (N : Hp → Prop), i < n → Same H1 H → J.yld i H x H' → (∀ y H4, R i y H4 → Same H H4 → C y H4) → g x (wipe σ vs) H' fun σ2 H2 => wipe σ2 vs = wipe σ vs ∧ tt σ2 H2 fun b H3 => if b = true then te σ2 H3 C else N H3)
    (fin : ∀ H D ys, H1 D = none → H D = some (.lst ys) → ys.length = n → (∀ j y, ys[j]? = some y → R j y H) → Same H1 H → Q D H) : LcW J g tt te vs σ H1 Q := by
  intro D nD
  refine ⟨fun i m H => m = n - i ∧ i ≤ n ∧ ∃ ys : List V, H D = some (.lst ys) ∧ ys.length = i ∧ (∀ j y, ys[j]? = some y → R j y H) ∧ Same H1 H, ⟨_, rfl, Nat.zero_le _, [], upd_same, rfl, (fun j y e => by cases e), same_new nD⟩, ?_⟩
  rintro i m H ⟨rfl, le, ys, oD, ly, ry, s1⟩
  by_cases lt : i < n
  · refine .inr ⟨go i H s1 lt, fun H' => ∃ ys : List V, H' D = some (.lst ys) ∧ ys.length = i + 1 ∧ (∀ j y, ys[j]? = some y → R j y H') ∧ Same H1 H', fun H' h => ⟨n - (i + 1), by omega, rfl, lt, h⟩, fun x H' yl => ?_⟩
    refine turn i x H H' _ _ lt s1 yl fun y H4 ry4 s4 => ⟨_, s4 _ _ oD, by rw [sizeLine_eq]; omega, ys ++ [y], upd_same, by simp [ly], fun j z ej => ?_, ?_⟩
    · have keep : ∀ b o, b ≠ D → H4 b = some o → upd H4 D (.lst (ys ++ [y])) b = some o := fun b o nb e => by rw [upd_ne nb]; exact e
      rcases Nat.lt_or_ge j ys.length with h | h
      · rw [List.getElem?_append_left h] at ej
        exact stays _ _ _ _ D _ (stays j z H H4 D _ (ry j z ej) oD fun b o _ e => s4 _ _ e) (s4 _ _ oD) keep
      · rw [List.getElem?_append_right h] at ej
        have e0 : j - ys.length = 0 := by
          have := (List.getElem?_eq_some_iff.mp ej).1
          simp at this
          omega
        rw [e0] at ej
        obtain rfl : y = z := Option.some.inj ej
        have ji : j = i := by omega
        subst ji
        exact stays _ _ _ _ D _ ry4 (s4 _ _ oD) keep
    · intro b u e
      rw [upd_ne (ne_of_none e nD)]
      exact s4 _ _ (s1 _ _ e)
  · obtain rfl : i = n := by omega
    exact .inl ⟨stop H s1, fin H D ys nD oD ly ry s1⟩
/-- from the things made to their addresses -/
theorem addrs_of {H : Hp} {P : Nat → Addr → Prop} : ∀ (ys : List V) (k : Nat), (∀ j y, ys[j]? = some y → ∃ t, y = V.ref t ∧ P (k + j) t) → ∃ as : List Addr, ys = as.map V.ref ∧ ∀ j a, as[j]? = some a → P (k + j) a
  | [], k, _ => ⟨[], rfl, fun j a e => by cases e⟩
  | y :: ys, k, h => by
    obtain ⟨t, rfl, pt⟩ := h 0 y rfl
    obtain ⟨as, e, pa⟩ := addrs_of (H := H) (P := P) ys (k + 1) fun j z ez => by
      have := h (j + 1) z ez
      rw [show k + 1 + j = k + (j + 1) from by omega]
      exact this
    refine ⟨t :: as, by rw [e]; rfl, fun j a ea => ?_⟩
    cases j with
    | zero => obtain rfl : t = a := Option.some.inj ea; exact pt
    | succ j =>
      have := pa j a ea
      rw [show k + (j + 1) = k + 1 + j from by omega]
      exact this
theorem lc_genON {J : It} {g : TG} {tt : TT} {te : TE} {vs : List Nat} {σ : L2.St} {H1 : Hp} {Q : Addr → Hp → Prop} (ys : List (Option V)) (short : ys.length < 1000000) (go : ∀ i H, Same H1 H → i < ys.length → J.go i H) (stop : ∀ H, Same H1 H → J.stop ys.length H)
    (turn : ∀ (i : Nat) (x : V) (o : Option V) (H H' : Hp) (C : V → Hp → Prop) (N : Hp → Prop), ys[i]? = some o → Same H1 H → J.yld i H x H' → (∀ y, o = some y → ∀ H4, Same H H4 → C y H4) → (o = none → ∀ H4, Same H H4 → N H4) →
      g x (wipe σ vs) H' fun σ2 H2 => wipe σ2 vs = wipe σ vs ∧ tt σ2 H2 fun b H3 => if b = true then te σ2 H3 C else N H3)
    (fin : ∀ H D, H1 D = none → H D = some (.lst (ys.filterMap id)) → Same H1 H → Q D H) : LcW J g tt te vs σ H1 Q := by
  intro D nD
  refine ⟨fun i m H => m = ys.length - i ∧ i ≤ ys.length ∧ H D = some (.lst ((ys.take i).filterMap id)) ∧ Same H1 H, ⟨_, rfl, Nat.zero_le _, upd_same, same_new nD⟩, ?_⟩
  rintro i m H ⟨rfl, le, oD, s1⟩
  by_cases lt : i < ys.length
  · refine .inr ⟨go i H s1 lt, fun H' => H' D = some (.lst ((ys.take (i + 1)).filterMap id)) ∧ Same H1 H', fun H' h => ⟨ys.length - (i + 1), by omega, rfl, lt, h⟩, fun x H' yl => ?_⟩
    have ey : ys[i]? = some ys[i] := List.getElem?_eq_getElem lt
    have et : ys.take (i + 1) = ys.take i ++ [ys[i]] := by rw [List.take_succ, ey]; rfl
    refine turn i x ys[i] H H' _ _ ey s1 yl (fun y e H4 s4 => ⟨_, s4 _ _ oD, ?_, ?_, ?_⟩) fun e H4 s4 => ⟨?_, s1.trans s4⟩
    · rw [sizeLine_eq]
      have := List.length_filterMap_le id (ys.take i)
      rw [List.length_take] at this
      omega
    · rw [upd_same, et, List.filterMap_append, e]; rfl
    · intro b u e'
      rw [upd_ne (ne_of_none e' nD)]
      exact s4 _ _ (s1 _ _ e')
    · rw [et, List.filterMap_append, e]
      simpa using s4 _ _ oD
  · obtain rfl : i = ys.length := by omega
    rw [List.take_length] at oD
    exact .inl ⟨stop H s1, fin H D nD oD s1⟩
theorem opt_listN {α : Type} (f : α → Bool) (g : α → V) : ∀ l : List α, (l.map fun y => if f y = true then some (g y) else none).filterMap id = (l.filter f).map g
  | [] => rfl
  | a :: l => by
    have ih := opt_listN f g l
    rw [List.map_cons, List.filter_cons]
    by_cases h : f a = true
    · rw [if_pos h, if_pos h, List.map_cons, ← ih]; rfl
    · rw [if_neg h, if_neg h, ← ih]; rfl
theorem cut_one (xs : List V) : cutV xs none (some 1) = xs.take 1 := by
  have e1 : HT.sIx xs.length 0 none = 0 := rfl
  have e2 : HT.sIx xs.length xs.length (some 1) = min 1 xs.length := by
    unfold HT.sIx
    simp only []
    rw [if_neg (show ¬ (1 : Int) < 0 by omega)]
    omega
  unfold cutV
  rw [e1, e2]
  simp only [List.drop_zero, Nat.sub_zero]
  by_cases h : 1 ≤ xs.length
  · rw [Nat.min_eq_left h]
  · rw [Nat.min_eq_right (by omega), List.take_length, List.take_of_length_le (by omega)]
theorem cut_toN (xs : List V) (r : Int) (h0 : 0 ≤ r) (h1 : r < xs.length + 1) : cutV xs none (some r) = xs.take r.toNat := by
  have e2 : HT.sIx xs.length xs.length (some r) = r.toNat := by
    unfold HT.sIx
    simp only []
    rw [if_neg (show ¬ r < 0 by omega)]; omega
  unfold cutV
  rw [show HT.sIx xs.length 0 none = 0 from rfl, e2]; simp
theorem val_atD {α : Type} [PyD α] {A : Addr → Prop} {H : Hp} {es : List (Key × V)} {l : List (Str × α)} (h : Paired (DcE A H) es l) {n : Str} {a : α} (e : lk l n = some a) : ∃ v, valV es (Sum.inr n) = some v ∧ PyD.at_ A H v a := by
  rcases val_lk h n with ⟨_, h2⟩ | ⟨v, a', h1, h2, h3⟩
  · rw [e] at h2; cases h2
  · rw [e] at h2
    obtain rfl := Option.some.inj h2
    exact ⟨v, h1, h3⟩
theorem lk_in {α : Type} {l : List (Str × α)} {n : Str} (h : n ∈ l.map (·.1)) : ∃ a, lk l n = some a ∧ (n, a) ∈ l := by
  induction l with
  | nil => cases h
  | cons e l ih =>
    rw [lk_cons]
    by_cases c : e.1 = n
    · rw [if_pos c]
      exact ⟨e.2, rfl, by rw [← c]; exact List.mem_cons_self⟩
    · rw [if_neg c]
      rw [List.map_cons, List.mem_cons] at h
      obtain ⟨a, h1, h2⟩ := ih (h.resolve_left fun z => c z.symm)
      exact ⟨a, h1, List.mem_cons_of_mem _ h2⟩
theorem lk_get {α : Type} {l : List (Str × α)} {n : Str} {a : α} (h : lk l n = some a) : (n, a) ∈ l := by
  induction l with
  | nil => cases h
  | cons e l ih =>
    rw [lk_cons] at h
    by_cases c : e.1 = n
    · rw [if_pos c] at h
      rw [← c, ← Option.some.inj h]
      exact List.mem_cons_self
    · rw [if_neg c] at h
      exact List.mem_cons_of_mem _ (ih h)
theorem SqA.kp {K : PySem.W.Frag} {H H' : Hp} {a : Addr} {xs : List V} (h : SqA K H a xs) (k : ∀ o, H a = some o → H' a = some o) : SqA K H' a xs := h.imp (fun h => k _ h) (fun h => k _ h)
theorem nd_inr {l : List Str} (h : l.Nodup) : (l.map (Sum.inr : Str → Key)).Nodup := List.Pairwise.map Sum.inr (fun a b n e => n (Sum.inr.inj e)) h
theorem keys_L {A : Addr → Prop} {H : Hp} {α : Type} [PyD α] {es : List (Key × V)} {l : List (Str × α)} (h : Paired (DcE A H) es l) : (es.map fun kv => kV kv.1) = (l.map (·.1)).map V.str := by
  have z2 := congrArg (List.map kV) (dc_keys h)
  rw [List.map_map, List.map_map] at z2
  exact z2
theorem strm_kept {H H' : Hp} {l ls g : Addr} {N : Int} (h : Strm H l ls N) (gl : g ≠ l) (gs : g ≠ ls) (s : ∀ b o, b ≠ g → H b = some o → H' b = some o) : Strm H' l ls N := by
  obtain ⟨cs, x, k, m, S⟩ := h
  exact ⟨cs, x, k, m, s _ _ (Ne.symm gl) S.o, s _ _ (Ne.symm gs) S.c, S.ne, S.g0, S.k0, S.k1, S.m0, S.m1, S.sz⟩
/-! what is reached -/
abbrev ArT : Type := Str × Str
abbrev NtT : Type := List (Str × ArT)
inductive Reach (E : List ArT) (a : Str) : Str → Prop
  | base : Reach E a a
  | step {x y : Str} : Reach E a x → (x, y) ∈ E → Reach E a y
theorem reach_in {E : List ArT} {a : Str} {S : List Str} (b : a ∈ S) (c : ∀ e ∈ E, e.1 ∈ S → e.2 ∈ S) {x : Str} (h : Reach E a x) : x ∈ S := by
  induction h with
  | base => exact b
  | step _ m ih => exact c _ m ih
theorem reach_trans {E : List ArT} {a b c : Str} (h : Reach E a b) (h2 : Reach E b c) : Reach E a c := by
  induction h2 with
  | base => exact h
  | step _ m ih => exact .step ih m
theorem nd_sub_len : ∀ {l l' : List Str}, l.Nodup → (∀ x ∈ l, x ∈ l') → l.length ≤ l'.length
  | [], _, _, _ => Nat.zero_le _
  | a :: l, l', nd, s => by
    rw [List.nodup_cons] at nd
    have m := s a List.mem_cons_self
    have ih := nd_sub_len (l := l) (l' := l'.erase a) nd.2 fun x hx => (List.mem_erase_of_ne fun z => nd.1 (by rw [← z]; exact hx)).mpr (s x (List.mem_cons_of_mem _ hx))
    rw [List.length_erase_of_mem m] at ih
    have p := List.length_pos_of_mem m
    rw [List.length_cons]
    omega
end L2.TB
/-! onward, reached -/
namespace L2.TB
open PySem PySem.Spec PyProof.Rows
/-- a step: the arc, one way, its start, its end -/
def StepAt (H : Hp) (t : Addr) (e : Str × ArT) : Prop := H t = some (.tup [.str e.1, .int 1, .str e.2.1, .str e.2.2])
def spOnw : Sp := fun vs H Q _ => ∃ (D : Addr) (arcs : NtT) (A : Addr → Prop), vs = [.ref D, .ref D] ∧ PyD.at_ A H (.ref D) (Dc.mk arcs) ∧ arcs.length < 1000 ∧ ∀ H' q ts, H q = none → H' q = some (.lst (ts.map V.ref)) → Paired (StepAt H') ts arcs → Same H H' → Q (.ref q) H'
abbrev NOw : List Str := ["arcs", "names", "name"]
theorem scOnw : FnScope NOw ["arcs", "names"] (defScope sOnward) := ⟨rfl, rfl, rfl, by decide +kernel, rfl, by decide +kernel, by decide +kernel⟩
def spReached : Sp := fun vs H Q _ => ∃ (st : Addr) (b : Str) (ts : List Addr) (arcs : NtT), vs = [.ref st, .str b] ∧ H st = some (.lst (ts.map V.ref)) ∧ Paired (StepAt H) ts arcs ∧ arcs.length < 1000 ∧
  ∀ H' D es (S : List Str), H D = none → H' D = some (.dK es) → es.map (·.1) = S.map Sum.inr → S.Nodup → (∀ n, n ∈ S ↔ Reach (arcs.map (·.2)) b n) → Same H H' → Q (.ref D) H'
abbrev NRe : List Str := ["steps", "begin", "found", "todo", "at", "step"]
theorem scReached : FnScope NRe ["steps", "begin"] (defScope sReached) := ⟨rfl, rfl, rfl, by decide +kernel, rfl, by decide +kernel, by decide +kernel⟩
section
variable {P : Program} {w : World} {K : PySem.W.Frag} {mg : Str → Option Value} {base : Heap} {f : Addr} {fd : FuncData}
theorem ok_onw (F : Fun K "onward" "onward" sOnward f fd) : FnOk P w K mg base CX0 1 f fd ["arcs", "names"] spOnw := by
  refine F.ok scOnw (fun vs H Q E h => by obtain ⟨D, arcs, A, e, _⟩ := h; rw [e]; rfl) fun cdv A outer s H vs Q E hr hsp => ?_
  obtain ⟨D, arcs, A0, rfl, at_, sh, hq⟩ := hsp
  have nd := scOnw.nd
  have hu := hu_of hr
  refine ⟨_, pss_one (ps_ret (pe_lock (pe_lc (own := [("name", 2)]) (tt := tYes) (g := gName 2) (te := tTup (tCons (tVar 2) (tCons (tC (.int 1)) (tCons (tOp (rIx K) (tDGet (tVar 0) (tVar 2)) (tC (.int 0))) (tCons (tOp (rIx K) (tDGet (tVar 0) (tVar 2)) (tC (.int 1))) tNil))))) rfl nd (pi_keys (pv 1)) (blkOk_by (N := NOw) (sc := defScope sOnward) (by decide +kernel)) (fun _ _ _ _ _ => pg_name (i := 2) nd rfl (Or.inl rfl)) (fun _ _ _ _ _ => pts_nil)
    (fun _ _ _ _ _ => pe_tup (pa_cons (pv 2) (pa_cons pe_int (pa_cons (pe_ix (r := rIx K) ix_seq (pe_dget hu (pv 0) (pv 2) (fun _ _ => rfl)) pe_int (fun _ _ => rfl)) (pa_cons (pe_ix (r := rIx K) ix_seq (pe_dget hu (pv 0) (pv 2) (fun _ _ => rfl)) pe_int (fun _ _ => rfl)) pa_nil)))))))), ?_⟩
  obtain ⟨D', es, e1, aD, oD, rnd, pr⟩ := at_
  obtain rfl := V.ref.inj e1
  have les : es.length = arcs.length := Paired.length pr
  have ndes : (es.map (·.1)).Nodup := by rw [dc_keys pr]; exact nd_inr rnd
  refine ⟨D, _, oD, trivial, fun od => ⟨_, rfl, D, od, rfl, .inl ⟨es, upd_same, ?_⟩⟩⟩
  have oL : upd H D (.frz od (.dK es)) D = some (.frz od (.dK es)) := upd_same
  refine lc_made arcs.length (by omega) (fun i H' s lt => ⟨s _ _ oL, by rw [les]; exact lt⟩) (fun H' s => ⟨s _ _ oL, by rw [les]; exact Nat.le_refl _⟩)
    (fun i y H' => ∃ t e, y = .ref t ∧ arcs[i]? = some e ∧ StepAt H' t e) (fun i y H1 H2 C l ⟨t, e, ey, ea, st⟩ hC keep => ⟨t, e, ey, ea, keep _ _ (fun z => by unfold StepAt at st; rw [z, hC] at st; cases st) st⟩) ?_ ?_
  · rintro i y H2 H3 Cn Nn lt s2 ⟨rfl, k0, v0, ekv, rfl⟩ yes
    obtain ⟨e, ee, hk, t0, x, z, hv, ap, op, hx, hz⟩ := paired_get pr ekv
    have hk : k0 = Sum.inr e.1 := hk
    have hv : v0 = .ref t0 := hv
    have hx : x = .str e.2.1 := hx
    have hz : z = .str e.2.2 := hz
    subst hk hv hx hz
    have tD : t0 ≠ D := fun z => by rw [z, oD] at op; cases op
    have op3 := s2 _ _ (show upd H D (.frz od (.dK es)) t0 = _ by rw [upd_ne tD]; exact op)
    have dg : DGet H3 D (.str e.1) (some (.ref t0)) := .inl ⟨es, Sum.inr e.1, .inr ⟨od, s2 _ _ oL⟩, rfl, (valV_atN ndes ekv).symm⟩
    refine ⟨rfl, ?_⟩
    refine ⟨_, rfl, _, rfl, _, rfl, D, _, rfl, dg, .inr (.inl ⟨t0, _, _, _, rfl, rfl, SqT.of op3, rfl, ?_⟩)⟩
    refine ⟨_, rfl, _, rfl, D, _, rfl, dg, .inr (.inl ⟨t0, _, _, _, rfl, rfl, SqT.of op3, rfl, ?_⟩)⟩
    refine ⟨(by show 4 ≤ sizeLine; decide), fun t nt => yes _ _ ⟨t, e, rfl, ee, upd_same⟩ (same_new nt)⟩
  · intro H2 q ys nq oq ly ry s2
    obtain ⟨b1, s12⟩ := lock_offN oD s2
    obtain ⟨ts, rfl, pt⟩ := addrs_of (H := H2) (P := fun i t => ∃ e, arcs[i]? = some e ∧ StepAt H2 t e) ys 0 fun j y ey => by
      obtain ⟨t, e, rfl, h1, h2⟩ := ry j y ey
      exact ⟨t, rfl, e, by rw [Nat.zero_add]; exact h1, h2⟩
    have qD : q ≠ D := fun z => by rw [z, upd_same] at nq; cases nq
    rw [List.length_map] at ly
    refine ⟨b1, hq _ q ts (by rw [upd_ne qD] at nq; exact nq) (by rw [upd_ne qD]; exact oq) (paired_of _ _ ly fun i t e et ee => ?_) s12⟩
    obtain ⟨e', ee', st⟩ := pt i t et
    rw [Nat.zero_add, ee] at ee'
    obtain rfl := Option.some.inj ee'
    have tD : t ≠ D := fun z => by unfold StepAt at st; rw [z, b1] at st; cases st
    unfold StepAt
    rw [upd_ne tD]
    exact st
/-- what stands while it is gone on: the place, what has been met -/
structure RI (E : List ArT) (b : Str) (i : Nat) (S : List Str) : Prop where
  nd : S.Nodup
  b0 : b ∈ S
  r : ∀ n ∈ S, Reach E b n
  le : i ≤ S.length
  c : ∀ (j : Nat) (n : Str), j < i → S[j]? = some n → ∀ e ∈ E, e.1 = n → e.2 ∈ S
  sub : ∀ n ∈ S, n = b ∨ n ∈ E.map (·.2)
theorem RI.short {E : List ArT} {b : Str} {i : Nat} {S : List Str} (h : RI E b i S) : S.length ≤ E.length + 1 := by
  have z := nd_sub_len (l' := b :: E.map (·.2)) h.nd fun x hx => by
    rcases h.sub x hx with e | e
    · rw [e]; exact List.mem_cons_self
    · exact List.mem_cons_of_mem _ e
  rw [List.length_cons, List.length_map] at z
  exact z
theorem RI.add {E : List ArT} {b : Str} {i : Nat} {S : List Str} (h : RI E b i S) {e : ArT} (he : e ∈ E) (h1 : e.1 ∈ S) (h2 : e.2 ∉ S) : RI E b i (S ++ [e.2]) := by
  refine ⟨List.nodup_append.mpr ⟨h.nd, by simp, fun x hx y hy z => h2 (by rw [List.mem_singleton.mp hy] at z; rw [← z]; exact hx)⟩, List.mem_append_left _ h.b0, fun n hn => ?_, by rw [List.length_append]; have := h.le; omega, fun j n lt en e' he' e1 => ?_, fun n hn => ?_⟩
  · rcases List.mem_append.mp hn with z | z
    · exact h.r n z
    · rw [List.mem_singleton.mp z]; exact .step (h.r _ h1) he
  · have lj : j < S.length := Nat.lt_of_lt_of_le lt h.le
    rw [List.getElem?_append_left lj] at en
    exact List.mem_append_left _ (h.c j n lt en e' he' e1)
  · rcases List.mem_append.mp hn with z | z
    · exact h.sub n z
    · rw [List.mem_singleton.mp z]; exact .inr (List.mem_map_of_mem he)
theorem val_inS : ∀ {es : List (Key × V)} {S : List Str}, es.map (·.1) = S.map Sum.inr → ∀ x : Str, (x ∈ S → ∃ v, valV es (Sum.inr x) = some v) ∧ (x ∉ S → valV es (Sum.inr x) = none)
  | [], [], _, x => ⟨fun h => by (cases h), fun _ => rfl⟩
  | [], _ :: _, h, _ => by (cases h)
  | _ :: _, [], h, _ => by (cases h)
  | e :: es, n :: S, h, x => by
    obtain ⟨h1, h2⟩ := List.cons.inj h
    have h1 : e.1 = Sum.inr n := h1
    have ih := val_inS (es := es) (S := S) h2 x
    by_cases c : n = x
    · refine ⟨fun _ => ⟨e.2, valV_pos (by rw [h1, c])⟩, fun z => absurd (by rw [c]; exact List.mem_cons_self) z⟩
    · rw [valV_neg (by rw [h1]; exact fun z => c (Sum.inr.inj z))]
      exact ⟨fun z => ih.1 ((List.mem_cons.mp z).resolve_left fun y => c y.symm), fun z => ih.2 fun y => z (List.mem_cons_of_mem _ y)⟩
theorem ok_reached (F : Fun K "reached" "reached" sReached f fd) (nN : mg "len" = none) : FnOk P w K mg base CX0 1 f fd ["steps", "begin"] spReached := by
  refine F.ok scReached (fun vs H Q E h => by obtain ⟨st, b, ts, arcs, e, _⟩ := h; rw [e]; rfl) fun cdv A outer s H vs Q E hr hsp => ?_
  obtain ⟨st, b, ts, arcs, rfl, ost, pst, sh, hq⟩ := hsp
  have nd := scReached.nd
  have hu := hu_of hr
  refine ⟨_, pss_cons (ps_set (i := 2) nd rfl (Or.inl rfl) (pe_disp (pps_cons (pv 1) pe_non pps_nil) rfl rfl (by decide) (by decide)))
    (pss_cons (ps_set (i := 3) nd rfl (Or.inl rfl) (pe_lst (pa_cons (pv 1) pa_nil)))
    (pss_cons (ps_set (i := 4) nd rfl (Or.inl rfl) pe_int)
    (pss_cons (ps_while PassesOwn.never (pt_cmpR op_lt (pv 4) (pe_callB call_len rfl nN boot_len (pa_cons (pv 3) pa_nil)) (nomark _))
      (pss_cons (ps_for PassesOwn.never rfl (pi_list (pv 0)) (pg_name (i := 5) nd rfl (Or.inl rfl))
        (pss_one (ps_if (PW.pt (pw_and (pt_cmpR op_eq (pe_ix (r := rIx K) ix_seq (pv 5) pe_int (fun _ _ => rfl)) (pe_ix (r := rIxL K) ix_list (pv 3) (pv 4) (fun _ _ => rfl)) (nomark _)) (pw_and1 (pt_cmp (pc_dnotin hu (pe_ix (r := rIx K) ix_seq (pv 5) pe_int (fun _ _ => rfl)) (pv 2))))))
          (pss_cons (ps_dput hu (pv 2) (pe_ix (r := rIx K) ix_seq (pv 5) pe_int (fun _ _ => rfl)) (pv 5) rfl)
          (pss_one (ps_expr (pe_bm PySem.F.plainAttrs_list PySem.F.slot_list_append PySem.F.type_list_append mt_append (pv 3) (pa_cons (pe_ix (r := rIx K) ix_seq (pv 5) pe_int (fun _ _ => rfl)) pa_nil))))) pss_nil)))
      (pss_one (ps_aug (i := 4) nd rfl (Or.inl rfl) pe_int ip_add))))
    (pss_one (ps_ret (pv 2)))))), ?_⟩
  refine fun FD nFD => ?_
  have kF := same_new (o := .dK []) nFD
  refine ⟨_, rfl, upd_same, [(Sum.inr b, .non)], rfl, (by show 1 ≤ 15; decide), ?_⟩
  have k1 : Same H (upd (upd H FD (.dK [])) FD (.dK (mergeK [] [((Sum.inr b : Key), V.non)]))) := same_upd2 nFD
  have oF : upd (upd H FD (.dK [])) FD (.dK (mergeK [] [((Sum.inr b : Key), V.non)])) FD = some (.dK [(Sum.inr b, .non)]) := upd_same
  generalize upd (upd H FD (.dK [])) FD (.dK (mergeK [] [((Sum.inr b : Key), V.non)])) = H1 at k1 oF
  refine ⟨_, rfl, (by show 1 ≤ sizeLine; decide), fun TD nTD => ?_⟩
  have k2 := same_new (o := .lst [.str b]) nTD
  have oT : upd H1 TD (.lst [.str b]) TD = some (.lst ([b].map V.str)) := upd_same
  have TF : TD ≠ FD := fun z => by rw [z, oF] at nTD; cases nTD
  have oF2 := k2 _ _ oF
  have k02 := k1.trans k2
  have nTD0 := k1.free nTD
  generalize upd H1 TD (.lst [.str b]) = H2 at k2 oT oF2 k02
  have lE : (arcs.map (·.2)).length = arcs.length := List.length_map _
  refine ⟨fun m σ Hc => ∃ (i : Nat) (S : List Str) (es : List (Key × V)) (s5 : Option V), σ = [some (.ref st), some (.str b), some (.ref FD), some (.ref TD), some (.int i), s5] ∧ Hc FD = some (.dK es) ∧ es.map (·.1) = S.map Sum.inr ∧ Hc TD = some (.lst (S.map V.str)) ∧ RI (arcs.map (·.2)) b i S ∧ Same H Hc ∧ m = arcs.length + 1 - i,
    ⟨_, 0, [b], [(Sum.inr b, .non)], none, rfl, oF2, rfl, oT, ⟨by simp, by simp, fun n hn => by rw [List.mem_singleton.mp hn]; exact .base, Nat.zero_le _, fun j n lt => absurd lt (Nat.not_lt_zero _), fun n hn => .inl (List.mem_singleton.mp hn)⟩, k02, rfl⟩, ?_⟩
  rintro m σ Hc ⟨i, S, es, s5, rfl, oFc, ek, oTc, R, kc, rfl⟩
  have shS := R.short
  rw [lE] at shS
  refine ⟨_, rfl, _, rfl, .ref TD, S.length, rfl, .inl ⟨_, SqL.of oTc, by rw [List.length_map]⟩, _, _, rfl, rfl, _, rfl, ?_⟩
  by_cases more : i < S.length
  case neg =>
    rw [decide_eq_false (by omega : ¬ ((i : Nat) : Int) < ((S.length : Nat) : Int))]
    have ei : i = S.length := by have := R.le; omega
    refine iteF ⟨_, rfl, hq Hc FD es S nFD oFc ek R.nd (fun n => ⟨R.r n, fun h => reach_in R.b0 (fun e he h1 => ?_) h⟩) kc⟩
    obtain ⟨j, hj⟩ := List.getElem?_of_mem h1
    exact R.c j e.1 (by rw [ei]; exact (List.getElem?_eq_some_iff.mp hj).1) hj e he rfl
  rw [decide_eq_true (by omega : ((i : Nat) : Int) < ((S.length : Nat) : Int))]
  refine iteT ⟨fun σ' H' => ∃ m', m' < arcs.length + 1 - i ∧ ∃ (i : Nat) (S : List Str) (es : List (Key × V)) (s5 : Option V), σ' = [some (.ref st), some (.str b), some (.ref FD), some (.ref TD), some (.int i), s5] ∧ H' FD = some (.dK es) ∧ es.map (·.1) = S.map Sum.inr ∧ H' TD = some (.lst (S.map V.str)) ∧ RI (arcs.map (·.2)) b i S ∧ Same H H' ∧ m' = arcs.length + 1 - i, fun σ' H' h => h, ?_⟩
  obtain ⟨n, en⟩ : ∃ n, S[i]? = some n := ⟨_, List.getElem?_eq_getElem more⟩
  have lts : ts.length = arcs.length := Paired.length pst
  refine ⟨_, rfl, st, rfl, ⟨_, SqL.of (kc _ _ ost)⟩, for_list (xs := ts.map V.ref) (fun j σ H' => ∃ (S' : List Str) (es' : List (Key × V)) (s5 : Option V), σ = [some (.ref st), some (.str b), some (.ref FD), some (.ref TD), some (.int i), s5] ∧ H' FD = some (.dK es') ∧ es'.map (·.1) = S'.map Sum.inr ∧ H' TD = some (.lst (S'.map V.str)) ∧ RI (arcs.map (·.2)) b i S' ∧ S'[i]? = some n ∧ (∀ e ∈ arcs.take j, e.2.1 = n → e.2.2 ∈ S') ∧ Same H H')
    ⟨S, es, s5, rfl, oFc, ek, oTc, R, en, fun e he => by rw [List.take_zero] at he; (cases he), kc⟩ (fun j σ H' _ h => by obtain ⟨_, _, _, _, _, _, _, _, _, _, k⟩ := h; exact SqL.of (k _ _ ost)) ?_ ?_⟩
  · rintro j x σ H3 ex ⟨S', es', s5, rfl, oF3, ek3, oT3, R3, en3, c3, k3⟩
    rw [List.getElem?_map] at ex
    obtain ⟨t, et, rfl⟩ := Option.map_eq_some_iff.mp ex
    obtain ⟨e, ee, ot⟩ := paired_get pst et
    have ot3 := k3 _ _ ot
    have ein : e.2 ∈ arcs.map (·.2) := List.mem_map_of_mem (List.mem_of_getElem? ee)
    have tk : arcs.take (j + 1) = arcs.take j ++ [e] := by rw [List.take_succ, ee]; rfl
    have sh3 := R3.short
    rw [lE] at sh3
    have les3 : es'.length = S'.length := by
      have z := congrArg List.length ek3
      rwa [List.length_map, List.length_map] at z
    refine ⟨_, rfl, .inr (.inl ⟨t, _, _, _, rfl, rfl, SqT.of ot3, rfl, ?_⟩)⟩
    refine ⟨_, rfl, _, rfl, TD, _, (i : Nat), .str n, rfl, rfl, SqL.of oT3, atI_nat (by rw [List.getElem?_map, en3]; rfl), rfl, _, rfl, ?_⟩
    have ed : decide (V.str e.2.1 = V.str n) = decide (e.2.1 = n) := decide_eq_decide.mpr ⟨fun h => V.str.inj h, fun h => congrArg V.str h⟩
    rw [ed]
    by_cases c : e.2.1 = n
    case neg =>
      rw [decide_eq_false c]
      refine iteF (iteF ⟨S', es', _, rfl, oF3, ek3, oT3, R3, en3, fun e' he' h1 => ?_, k3⟩)
      rw [tk] at he'
      rcases List.mem_append.mp he' with z | z
      · exact c3 e' z h1
      · rw [List.mem_singleton.mp z] at h1; exact absurd h1 c
    rw [decide_eq_true c]
    refine iteT ?_
    refine ⟨_, rfl, .inr (.inl ⟨t, _, _, _, rfl, rfl, SqT.of ot3, rfl, ?_⟩)⟩
    refine ⟨_, rfl, FD, _, rfl, DGet.k (k := Sum.inr e.2.2) oF3, ?_⟩
    by_cases mem : e.2.2 ∈ S'
    · obtain ⟨v, ev⟩ := (val_inS ek3 e.2.2).1 mem
      rw [ev]
      refine ⟨_, rfl, iteF ⟨S', es', _, rfl, oF3, ek3, oT3, R3, en3, fun e' he' h1 => ?_, k3⟩⟩
      rw [tk] at he'
      rcases List.mem_append.mp he' with z | z
      · exact c3 e' z h1
      · rw [List.mem_singleton.mp z]; exact mem
    · rw [(val_inS ek3 e.2.2).2 mem]
      refine ⟨_, rfl, iteT ?_⟩
      refine ⟨_, rfl, _, rfl, _, rfl, .inr (.inl ⟨t, _, _, _, rfl, rfl, SqT.of ot3, rfl, FD, _, rfl, DPut.k (k := Sum.inr e.2.2) oF3 (by rw [sizeLine_eq]; omega), ?_⟩)⟩
      have kout : (Sum.inr e.2.2 : Key) ∉ es'.map (·.1) := fun z => mem (by
        rw [ek3] at z
        obtain ⟨y, hy, e0⟩ := List.mem_map.mp z
        rw [← Sum.inr.inj e0]
        exact hy)
      have up : ∀ b' o, b' ≠ FD → H3 b' = some o → upd H3 FD (.dK (putK es' (Sum.inr e.2.2) (.ref t))) b' = some o := fun b' o nb h => by rw [upd_ne nb]; exact h
      have oF4 : upd H3 FD (.dK (putK es' (Sum.inr e.2.2) (.ref t))) FD = _ := upd_same
      have oT4 := up _ _ TF oT3
      have k4 : Same H (upd H3 FD (.dK (putK es' (Sum.inr e.2.2) (.ref t)))) := fun b' o h => up _ _ (ne_of_none h nFD) (k3 _ _ h)
      have ot4 := k4 _ _ ot
      rw [put_last kout] at oF4 oT4 k4 ot4 ⊢
      generalize upd H3 FD (.dK (es' ++ [(Sum.inr e.2.2, V.ref t)])) = H4 at oF4 oT4 k4 ot4
      refine ⟨_, rfl, .inl ⟨rfl, _, SqL.of oT4⟩, _, rfl, .inr (.inl ⟨t, _, _, _, rfl, rfl, SqT.of ot4, rfl, TD, _, _, rfl, rfl, oT4, by rw [sizeLine_eq, List.length_map]; omega, ?_⟩)⟩
      have TF' : FD ≠ TD := Ne.symm TF
      refine ⟨S' ++ [e.2.2], _, _, rfl, by rw [upd_ne TF']; exact oF4, by rw [List.map_append, List.map_append, ek3]; rfl, by rw [upd_same, List.map_append]; rfl, R3.add ein (by rw [c]; exact List.mem_of_getElem? en3) mem, by rw [List.getElem?_append_left (List.getElem?_eq_some_iff.mp en3).1]; exact en3, fun e' he' h1 => ?_, fun b' o h => by rw [upd_ne (ne_of_none h nTD0)]; exact k4 _ _ h⟩
      rw [tk] at he'
      rcases List.mem_append.mp he' with z | z
      · exact List.mem_append_left _ (c3 e' z h1)
      · rw [List.mem_singleton.mp z]; exact List.mem_append_right _ (List.mem_singleton.mpr rfl)
  · rintro σ H3 ⟨S', es', s5, rfl, oF3, ek3, oT3, R3, en3, c3, k3⟩
    rw [List.length_map, lts, List.take_length] at c3
    refine ⟨_, rfl, _, _, rfl, rfl, ?_⟩
    have sh3 := R3.short
    rw [lE] at sh3
    have li := (List.getElem?_eq_some_iff.mp en3).1
    refine ⟨arcs.length + 1 - (i + 1), by omega, i + 1, S', es', s5, rfl, oF3, ek3, oT3, ⟨R3.nd, R3.b0, R3.r, li, fun j n' lt en' e he h1 => ?_, R3.sub⟩, k3, rfl⟩
    rcases Nat.lt_succ_iff_lt_or_eq.mp lt with lt | rfl
    · exact R3.c j n' lt en' e he h1
    · rw [en3] at en'
      obtain rfl := Option.some.inj en'
      obtain ⟨a, ha, rfl⟩ := List.mem_map.mp he
      exact c3 a ha h1
end
end L2.TB
/-! steps either way; reached, with the last step to each node -/
namespace L2.TB
open PySem PySem.Spec PyProof.Rows
/-- a step: the arc, the sign, start and end -/
abbrev StpT : Type := Str × Int × Str × Str
def StepA (H : Hp) (t : Addr) (s : StpT) : Prop := H t = some (.tup [.str s.1, .int s.2.1, .str s.2.2.1, .str s.2.2.2])
def edgS (s : StpT) : ArT := (s.2.2.1, s.2.2.2)
abbrev FoT : Type := List (Str × Option StpT)
structure FOk (L : List StpT) (b : Str) (F : FoT) : Prop where
  nd : (F.map (·.1)).Nodup
  hd : F[0]? = some (b, none)
  st : ∀ (i : Nat) n o, F[i]? = some (n, o) → 0 < i → ∃ s : StpT, o = some s ∧ s ∈ L ∧ s.2.2.2 = n ∧ ∃ (j : Nat) (o' : Option StpT), j < i ∧ F[j]? = some (s.2.2.1, o')
theorem fok_nil {L : List StpT} {b : Str} : FOk L b [(b, none)] := ⟨by simp, rfl, fun i n o e h => by
  have := (List.getElem?_eq_some_iff.mp e).1
  simp only [List.length_singleton] at this
  omega⟩
theorem FOk.add {L : List StpT} {b : Str} {F : FoT} {s : StpT} (h : FOk L b F) (hs : s ∈ L) (out : s.2.2.2 ∉ F.map (·.1)) (inn : s.2.2.1 ∈ F.map (·.1)) : FOk L b (F ++ [(s.2.2.2, some s)]) := by
  have l0 := (List.getElem?_eq_some_iff.mp h.hd).1
  refine ⟨?_, by rw [List.getElem?_append_left l0]; exact h.hd, fun i n o e hi => ?_⟩
  · rw [List.map_append, List.nodup_append]
    exact ⟨h.nd, by simp, fun x hx y hy z => by
      have hy : y = s.2.2.2 := List.mem_singleton.mp hy
      exact out (by rw [← hy, ← z]; exact hx)⟩
  · rcases Nat.lt_or_ge i F.length with lt | ge
    · rw [List.getElem?_append_left lt] at e
      obtain ⟨s', h1, h2, h3, j, o', lj, ej⟩ := h.st i n o e hi
      exact ⟨s', h1, h2, h3, j, o', lj, by rw [List.getElem?_append_left (by omega)]; exact ej⟩
    · rw [List.getElem?_append_right ge] at e
      have e0 : i - F.length = 0 := by
        have := (List.getElem?_eq_some_iff.mp e).1
        simp only [List.length_singleton] at this
        omega
      rw [e0] at e
      have e := Option.some.inj e
      obtain ⟨q, hq, e2⟩ := List.mem_map.mp inn
      obtain ⟨j, hj⟩ := List.getElem?_of_mem hq
      have lj := (List.getElem?_eq_some_iff.mp hj).1
      refine ⟨s, (congrArg Prod.snd e).symm, hs, congrArg Prod.fst e, j, q.2, by omega, ?_⟩
      rw [List.getElem?_append_left lj, hj, ← e2]
theorem ri_nil {E : List ArT} {b : Str} : RI E b 0 [b] := ⟨by simp, by simp, fun n hn => by rw [List.mem_singleton.mp hn]; exact .base, Nat.zero_le _, fun j n lt => absurd lt (Nat.not_lt_zero _), fun n hn => .inl (List.mem_singleton.mp hn)⟩
def FE (H : Hp) (e : Key × V) (p : Str × Option StpT) : Prop := e.1 = Sum.inr p.1 ∧ match p.2 with
  | none => e.2 = .non
  | some s => ∃ t, e.2 = .ref t ∧ StepA H t s
theorem FE.same {H H' : Hp} {e : Key × V} {p : Str × Option StpT} (h : FE H e p) (s : Same H H') : FE H' e p := by
  obtain ⟨n, o⟩ := p
  cases o with
  | none => exact h
  | some x =>
    obtain ⟨h1, t, h2, h3⟩ := h
    exact ⟨h1, t, h2, s _ _ h3⟩
theorem fe_keys {H : Hp} {es : List (Key × V)} {F : FoT} (h : Paired (FE H) es F) : es.map (·.1) = (F.map (·.1)).map Sum.inr := by
  induction h with
  | nil => rfl
  | cons h _ ih => rw [List.map_cons, List.map_cons, List.map_cons, ih, h.1]
theorem paired_appR {α β : Type} {R : α → β → Prop} {as as' : List α} {bs bs' : List β} (h : Paired R as bs) (h' : Paired R as' bs') : Paired R (as ++ as') (bs ++ bs') := by
  induction h with
  | nil => exact h'
  | cons h _ ih => exact .cons h ih
def spReachG : Sp := fun vs H Q _ => ∃ (st : Addr) (b : Str) (ts : List Addr) (L : List StpT), vs = [.ref st, .str b] ∧ H st = some (.lst (ts.map V.ref)) ∧ Paired (StepA H) ts L ∧ L.length < 1000 ∧
  ∀ H' D es F, H D = none → H' D = some (.dK es) → Paired (FE H') es F → FOk L b F → (∀ n, n ∈ F.map (·.1) ↔ Reach (L.map edgS) b n) → Same H H' → Q (.ref D) H'
section
variable {P : Program} {w : World} {K : PySem.W.Frag} {mg : Str → Option Value} {base : Heap} {f : Addr} {fd : FuncData}
theorem ok_reachG (F : Fun K "reached" "reached" sReached f fd) (nN : mg "len" = none) : FnOk P w K mg base CX0 1 f fd ["steps", "begin"] spReachG := by
  refine F.ok scReached (fun vs H Q E h => by obtain ⟨st, b, ts, L, e, _⟩ := h; rw [e]; rfl) fun cdv A outer s H vs Q E hr hsp => ?_
  obtain ⟨st, b, ts, L, rfl, ost, pst, sh, hq⟩ := hsp
  have nd := scReached.nd
  have hu := hu_of hr
  refine ⟨_, pss_cons (ps_set (i := 2) nd rfl (Or.inl rfl) (pe_disp (pps_cons (pv 1) pe_non pps_nil) rfl rfl (by decide) (by decide)))
    (pss_cons (ps_set (i := 3) nd rfl (Or.inl rfl) (pe_lst (pa_cons (pv 1) pa_nil)))
    (pss_cons (ps_set (i := 4) nd rfl (Or.inl rfl) pe_int)
    (pss_cons (ps_while PassesOwn.never (pt_cmpR op_lt (pv 4) (pe_callB call_len rfl nN boot_len (pa_cons (pv 3) pa_nil)) (nomark _))
      (pss_cons (ps_for PassesOwn.never rfl (pi_list (pv 0)) (pg_name (i := 5) nd rfl (Or.inl rfl))
        (pss_one (ps_if (PW.pt (pw_and (pt_cmpR op_eq (pe_ix (r := rIx K) ix_seq (pv 5) pe_int (fun _ _ => rfl)) (pe_ix (r := rIxL K) ix_list (pv 3) (pv 4) (fun _ _ => rfl)) (nomark _)) (pw_and1 (pt_cmp (pc_dnotin hu (pe_ix (r := rIx K) ix_seq (pv 5) pe_int (fun _ _ => rfl)) (pv 2))))))
          (pss_cons (ps_dput hu (pv 2) (pe_ix (r := rIx K) ix_seq (pv 5) pe_int (fun _ _ => rfl)) (pv 5) rfl)
          (pss_one (ps_expr (pe_bm PySem.F.plainAttrs_list PySem.F.slot_list_append PySem.F.type_list_append mt_append (pv 3) (pa_cons (pe_ix (r := rIx K) ix_seq (pv 5) pe_int (fun _ _ => rfl)) pa_nil))))) pss_nil)))
      (pss_one (ps_aug (i := 4) nd rfl (Or.inl rfl) pe_int ip_add))))
    (pss_one (ps_ret (pv 2)))))), ?_⟩
  refine fun FD nFD => ?_
  have kF := same_new (o := .dK []) nFD
  refine ⟨_, rfl, upd_same, [(Sum.inr b, .non)], rfl, (by show 1 ≤ 15; decide), ?_⟩
  have k1 : Same H (upd (upd H FD (.dK [])) FD (.dK (mergeK [] [((Sum.inr b : Key), V.non)]))) := same_upd2 nFD
  have oF : upd (upd H FD (.dK [])) FD (.dK (mergeK [] [((Sum.inr b : Key), V.non)])) FD = some (.dK [(Sum.inr b, .non)]) := upd_same
  generalize upd (upd H FD (.dK [])) FD (.dK (mergeK [] [((Sum.inr b : Key), V.non)])) = H1 at k1 oF
  refine ⟨_, rfl, (by show 1 ≤ sizeLine; decide), fun TD nTD => ?_⟩
  have k2 := same_new (o := .lst [.str b]) nTD
  have oT : upd H1 TD (.lst [.str b]) TD = some (.lst ([b].map V.str)) := upd_same
  have TF : TD ≠ FD := fun z => by rw [z, oF] at nTD; cases nTD
  have oF2 := k2 _ _ oF
  have k02 := k1.trans k2
  have nTD0 := k1.free nTD
  generalize upd H1 TD (.lst [.str b]) = H2 at k2 oT oF2 k02
  have lE : (L.map edgS).length = L.length := List.length_map _
  refine ⟨fun m σ Hc => ∃ (i : Nat) (F : FoT) (es : List (Key × V)) (s5 : Option V), σ = [some (.ref st), some (.str b), some (.ref FD), some (.ref TD), some (.int i), s5] ∧ Hc FD = some (.dK es) ∧ Paired (FE H) es F ∧ Hc TD = some (.lst ((F.map (·.1)).map V.str)) ∧ RI (L.map edgS) b i (F.map (·.1)) ∧ FOk L b F ∧ Same H Hc ∧ m = L.length + 1 - i,
    ⟨_, 0, [(b, none)], [(Sum.inr b, .non)], none, rfl, oF2, .cons ⟨rfl, rfl⟩ .nil, oT, ri_nil, fok_nil, k02, rfl⟩, ?_⟩
  rintro m σ Hc ⟨i, F, es, s5, rfl, oFc, pF, oTc, R, FO, kc, rfl⟩
  generalize eS : F.map (·.1) = S at oTc R
  have ek : es.map (·.1) = S.map Sum.inr := by rw [← eS]; exact fe_keys pF
  have shS := R.short
  rw [lE] at shS
  refine ⟨_, rfl, _, rfl, .ref TD, S.length, rfl, .inl ⟨_, SqL.of oTc, by rw [List.length_map]⟩, _, _, rfl, rfl, _, rfl, ?_⟩
  by_cases more : i < S.length
  case neg =>
    rw [decide_eq_false (by omega : ¬ ((i : Nat) : Int) < ((S.length : Nat) : Int))]
    have ei : i = S.length := by have := R.le; omega
    refine iteF ⟨_, rfl, hq Hc FD es F nFD oFc (Paired.mapP pF fun e q h => h.same kc) FO (fun n => ⟨fun h => R.r n (eS ▸ h), fun h => eS ▸ reach_in R.b0 (fun e he h1 => ?_) h⟩) kc⟩
    obtain ⟨j, hj⟩ := List.getElem?_of_mem h1
    exact R.c j e.1 (by rw [ei]; exact (List.getElem?_eq_some_iff.mp hj).1) hj e he rfl
  rw [decide_eq_true (by omega : ((i : Nat) : Int) < ((S.length : Nat) : Int))]
  refine iteT ⟨fun σ' H' => ∃ m', m' < L.length + 1 - i ∧ ∃ (i : Nat) (F : FoT) (es : List (Key × V)) (s5 : Option V), σ' = [some (.ref st), some (.str b), some (.ref FD), some (.ref TD), some (.int i), s5] ∧ H' FD = some (.dK es) ∧ Paired (FE H) es F ∧ H' TD = some (.lst ((F.map (·.1)).map V.str)) ∧ RI (L.map edgS) b i (F.map (·.1)) ∧ FOk L b F ∧ Same H H' ∧ m' = L.length + 1 - i, fun σ' H' h => h, ?_⟩
  obtain ⟨n, en⟩ : ∃ n, S[i]? = some n := ⟨_, List.getElem?_eq_getElem more⟩
  have lts : ts.length = L.length := Paired.length pst
  refine ⟨_, rfl, st, rfl, ⟨_, SqL.of (kc _ _ ost)⟩, for_list (xs := ts.map V.ref) (fun j σ H' => ∃ (F' : FoT) (es' : List (Key × V)) (s5 : Option V), σ = [some (.ref st), some (.str b), some (.ref FD), some (.ref TD), some (.int i), s5] ∧ H' FD = some (.dK es') ∧ Paired (FE H) es' F' ∧ H' TD = some (.lst ((F'.map (·.1)).map V.str)) ∧ RI (L.map edgS) b i (F'.map (·.1)) ∧ FOk L b F' ∧ (F'.map (·.1))[i]? = some n ∧ (∀ e ∈ L.take j, e.2.2.1 = n → e.2.2.2 ∈ F'.map (·.1)) ∧ Same H H')
    ⟨F, es, s5, rfl, oFc, pF, eS ▸ oTc, eS ▸ R, FO, eS ▸ en, fun e he => by rw [List.take_zero] at he; (cases he), kc⟩ (fun j σ H' _ h => by obtain ⟨_, _, _, _, _, _, _, _, _, _, _, k⟩ := h; exact SqL.of (k _ _ ost)) ?_ ?_⟩
  · rintro j x σ H3 ex ⟨F', es', s5, rfl, oF3, pF3, oT3, R3, FO3, en3, c3, k3⟩
    have ek3 := fe_keys pF3
    obtain ⟨S', eS'⟩ : ∃ S', S' = F'.map (·.1) := ⟨_, rfl⟩
    rw [← eS'] at oT3 R3 en3 c3 ek3
    rw [List.getElem?_map] at ex
    obtain ⟨t, et, rfl⟩ := Option.map_eq_some_iff.mp ex
    obtain ⟨e, ee, ot⟩ := paired_get pst et
    have ot3 := k3 _ _ ot
    have ein : edgS e ∈ L.map edgS := List.mem_map_of_mem (List.mem_of_getElem? ee)
    have tk : L.take (j + 1) = L.take j ++ [e] := by rw [List.take_succ, ee]; rfl
    have sh3 := R3.short
    rw [lE] at sh3
    have les3 : es'.length = S'.length := by
      have z := congrArg List.length ek3
      rwa [List.length_map, List.length_map] at z
    refine ⟨_, rfl, .inr (.inl ⟨t, _, _, _, rfl, rfl, SqT.of ot3, rfl, ?_⟩)⟩
    refine ⟨_, rfl, _, rfl, TD, _, (i : Nat), .str n, rfl, rfl, SqL.of oT3, atI_nat (by rw [List.getElem?_map, en3]; rfl), rfl, _, rfl, ?_⟩
    have ed : decide (V.str e.2.2.1 = V.str n) = decide (e.2.2.1 = n) := decide_eq_decide.mpr ⟨fun h => V.str.inj h, fun h => congrArg V.str h⟩
    rw [ed]
    by_cases c : e.2.2.1 = n
    case neg =>
      rw [decide_eq_false c]
      refine iteF (iteF ⟨F', es', _, rfl, oF3, pF3, eS' ▸ oT3, eS' ▸ R3, FO3, eS' ▸ en3, eS' ▸ (fun e' he' h1 => ?_), k3⟩)
      rw [tk] at he'
      rcases List.mem_append.mp he' with z | z
      · exact c3 e' z h1
      · rw [List.mem_singleton.mp z] at h1; exact absurd h1 c
    rw [decide_eq_true c]
    refine iteT ?_
    refine ⟨_, rfl, .inr (.inl ⟨t, _, _, _, rfl, rfl, SqT.of ot3, rfl, ?_⟩)⟩
    refine ⟨_, rfl, FD, _, rfl, DGet.k (k := Sum.inr e.2.2.2) oF3, ?_⟩
    by_cases mem : e.2.2.2 ∈ S'
    · obtain ⟨v, ev⟩ := (val_inS ek3 e.2.2.2).1 mem
      rw [ev]
      refine ⟨_, rfl, iteF ⟨F', es', _, rfl, oF3, pF3, eS' ▸ oT3, eS' ▸ R3, FO3, eS' ▸ en3, eS' ▸ (fun e' he' h1 => ?_), k3⟩⟩
      rw [tk] at he'
      rcases List.mem_append.mp he' with z | z
      · exact c3 e' z h1
      · rw [List.mem_singleton.mp z]; exact mem
    · rw [(val_inS ek3 e.2.2.2).2 mem]
      refine ⟨_, rfl, iteT ?_⟩
      refine ⟨_, rfl, _, rfl, _, rfl, .inr (.inl ⟨t, _, _, _, rfl, rfl, SqT.of ot3, rfl, FD, _, rfl, DPut.k (k := Sum.inr e.2.2.2) oF3 (by rw [sizeLine_eq]; omega), ?_⟩)⟩
      have kout : (Sum.inr e.2.2.2 : Key) ∉ es'.map (·.1) := fun z => mem (by
        rw [ek3] at z
        obtain ⟨y, hy, e0⟩ := List.mem_map.mp z
        rw [← Sum.inr.inj e0]
        exact hy)
      have up : ∀ b' o, b' ≠ FD → H3 b' = some o → upd H3 FD (.dK (putK es' (Sum.inr e.2.2.2) (.ref t))) b' = some o := fun b' o nb h => by rw [upd_ne nb]; exact h
      have oF4 : upd H3 FD (.dK (putK es' (Sum.inr e.2.2.2) (.ref t))) FD = _ := upd_same
      have oT4 := up _ _ TF oT3
      have k4 : Same H (upd H3 FD (.dK (putK es' (Sum.inr e.2.2.2) (.ref t)))) := fun b' o h => up _ _ (ne_of_none h nFD) (k3 _ _ h)
      have ot4 := k4 _ _ ot
      rw [put_last kout] at oF4 oT4 k4 ot4 ⊢
      generalize upd H3 FD (.dK (es' ++ [(Sum.inr e.2.2.2, V.ref t)])) = H4 at oF4 oT4 k4 ot4
      refine ⟨_, rfl, .inl ⟨rfl, _, SqL.of oT4⟩, _, rfl, .inr (.inl ⟨t, _, _, _, rfl, rfl, SqT.of ot4, rfl, TD, _, _, rfl, rfl, oT4, by rw [sizeLine_eq, List.length_map]; omega, ?_⟩)⟩
      have TF' : FD ≠ TD := Ne.symm TF
      have eA : (F' ++ [(e.2.2.2, some e)]).map (·.1) = S' ++ [e.2.2.2] := by rw [List.map_append, eS']; rfl
      refine ⟨F' ++ [(e.2.2.2, some e)], _, _, rfl, by rw [upd_ne TF']; exact oF4, paired_appR pF3 (.cons ⟨rfl, t, rfl, ot⟩ .nil), by rw [eA, upd_same, List.map_append]; rfl, eA ▸ R3.add ein (by show e.2.2.1 ∈ S'; rw [c]; exact List.mem_of_getElem? en3) mem, FO3.add (List.mem_of_getElem? ee) (eS' ▸ mem) (by rw [c, ← eS']; exact List.mem_of_getElem? en3), by rw [eA, List.getElem?_append_left (List.getElem?_eq_some_iff.mp en3).1]; exact en3, eA ▸ (fun e' he' h1 => ?_), fun b' o h => by rw [upd_ne (ne_of_none h nTD0)]; exact k4 _ _ h⟩
      rw [tk] at he'
      rcases List.mem_append.mp he' with z | z
      · exact List.mem_append_left _ (c3 e' z h1)
      · rw [List.mem_singleton.mp z]; exact List.mem_append_right _ (List.mem_singleton.mpr rfl)
  · rintro σ H3 ⟨F', es', s5, rfl, oF3, pF3, oT3, R3, FO3, en3, c3, k3⟩
    obtain ⟨S', eS'⟩ : ∃ S', S' = F'.map (·.1) := ⟨_, rfl⟩
    rw [← eS'] at oT3 R3 en3 c3
    rw [List.length_map, lts, List.take_length] at c3
    refine ⟨_, rfl, _, _, rfl, rfl, ?_⟩
    have sh3 := R3.short
    rw [lE] at sh3
    have li := (List.getElem?_eq_some_iff.mp en3).1
    refine ⟨L.length + 1 - (i + 1), by omega, i + 1, F', es', s5, rfl, oF3, pF3, eS' ▸ oT3, eS' ▸ ⟨R3.nd, R3.b0, R3.r, li, fun j n' lt en' e he h1 => ?_, R3.sub⟩, FO3, k3, rfl⟩
    rcases Nat.lt_succ_iff_lt_or_eq.mp lt with lt | rfl
    · exact R3.c j n' lt en' e he h1
    · rw [en3] at en'
      obtain rfl := Option.some.inj en'
      obtain ⟨a, ha, rfl⟩ := List.mem_map.mp he
      exact c3 a ha h1
end
end L2.TB
/-! onward of a locked dict; _is_live -/
namespace L2.TB
open PySem PySem.Spec PyProof.Rows
structure NetC (K : PySem.W.Frag) (C : Addr) : Prop where
  cl : Cls K C
  nA : NoAttr K C "_arcs"
  nN : NoAttr K C "_nodes"
  nL : NoAttr K C "_live"
def edgesOf (arcs : NtT) : List ArT := arcs.map (·.2)
def spOnwF : Sp := fun vs H Q _ => ∃ (D : Addr) (od : Obj) (es : List (Key × V)) (arcs : NtT) (A : Addr → Prop), vs = [.ref D, .ref D] ∧ H D = some (.frz od (.dK es)) ∧ Paired (DcE A H) es arcs ∧ (arcs.map (·.1)).Nodup ∧ arcs.length < 1000 ∧ ∀ H' q ts, H' q = some (.lst (ts.map V.ref)) → Paired (StepAt H') ts arcs → Same H H' → Q (.ref q) H'
def spIsLive (C : Addr) : Sp := fun vs H Q _ => ∃ (x dx D : Addr) (fs : List (Str × V)) (od : Obj) (es : List (Key × V)) (arcs : NtT) (A : Addr → Prop) (e : Str × ArT), vs = [.ref x, .str e.1] ∧ H x = some (.ins C dx fs) ∧ fs.lookup ("_arcs" : Str) = some (.ref D) ∧ H D = some (.frz od (.dK es)) ∧ Paired (DcE A H) es arcs ∧ (arcs.map (·.1)).Nodup ∧ arcs.length < 1000 ∧ e ∈ arcs ∧
  ∀ H' b, (b = true ↔ Reach (edgesOf arcs) e.2.2 e.2.1) → Same H H' → Q (.bl b) H'
theorem scIsLive : FnScope ["self", "name", "start", "end"] ["self", "name"] (defScope sIsLive) := ⟨rfl, rfl, rfl, by decide +kernel, rfl, by decide +kernel, by decide +kernel⟩
section
variable {P : Program} {w : World} {K : PySem.W.Frag} {mg : Str → Option Value} {base : Heap} {f C fO fR : Addr} {fd fdO fdR : FuncData}
theorem ok_onwF (F : Fun K "onward" "onward" sOnward f fd) : FnOk P w K mg base CX0 1 f fd ["arcs", "names"] spOnwF := by
  refine F.ok scOnw (fun vs H Q E h => by obtain ⟨D, od, es, arcs, A, e, _⟩ := h; rw [e]; rfl) fun cdv A outer s H vs Q E hr hsp => ?_
  obtain ⟨D, od, es, arcs, A0, rfl, oD, pr, rnd, sh, hq⟩ := hsp
  have nd := scOnw.nd
  have hu := hu_of hr
  refine ⟨_, pss_one (ps_ret (pe_lc (own := [("name", 2)]) (tt := tYes) (g := gName 2) (te := tTup (tCons (tVar 2) (tCons (tC (.int 1)) (tCons (tOp (rIx K) (tDGet (tVar 0) (tVar 2)) (tC (.int 0))) (tCons (tOp (rIx K) (tDGet (tVar 0) (tVar 2)) (tC (.int 1))) tNil))))) rfl nd (pi_keys (pv 1)) (blkOk_by (N := NOw) (sc := defScope sOnward) (by decide +kernel)) (fun _ _ _ _ _ => pg_name (i := 2) nd rfl (Or.inl rfl)) (fun _ _ _ _ _ => pts_nil)
    (fun _ _ _ _ _ => pe_tup (pa_cons (pv 2) (pa_cons pe_int (pa_cons (pe_ix (r := rIx K) ix_seq (pe_dget hu (pv 0) (pv 2) (fun _ _ => rfl)) pe_int (fun _ _ => rfl)) (pa_cons (pe_ix (r := rIx K) ix_seq (pe_dget hu (pv 0) (pv 2) (fun _ _ => rfl)) pe_int (fun _ _ => rfl)) pa_nil))))))), ?_⟩
  have les : es.length = arcs.length := Paired.length pr
  have ndes : (es.map (·.1)).Nodup := by rw [dc_keys pr]; exact nd_inr rnd
  refine ⟨_, rfl, D, od, rfl, .inl ⟨es, oD, ?_⟩⟩
  refine lc_made arcs.length (by omega) (fun i H' s lt => ⟨s _ _ oD, by rw [les]; exact lt⟩) (fun H' s => ⟨s _ _ oD, by rw [les]; exact Nat.le_refl _⟩)
    (fun i y H' => ∃ t e, y = .ref t ∧ arcs[i]? = some e ∧ StepAt H' t e) (fun i y H1 H2 C l ⟨t, e, ey, ea, st⟩ hC keep => ⟨t, e, ey, ea, keep _ _ (fun z => by unfold StepAt at st; rw [z, hC] at st; cases st) st⟩) ?_ ?_
  · rintro i y H2 H3 Cn Nn lt s2 ⟨rfl, k0, v0, ekv, rfl⟩ yes
    obtain ⟨e, ee, hk, t0, x, z, hv, ap, op, hx, hz⟩ := paired_get pr ekv
    have hk : k0 = Sum.inr e.1 := hk
    have hv : v0 = .ref t0 := hv
    have hx : x = .str e.2.1 := hx
    have hz : z = .str e.2.2 := hz
    subst hk hv hx hz
    have op3 := s2 _ _ op
    have dg : DGet H3 D (.str e.1) (some (.ref t0)) := .inl ⟨es, Sum.inr e.1, .inr ⟨od, s2 _ _ oD⟩, rfl, (valV_atN ndes ekv).symm⟩
    refine ⟨rfl, ?_⟩
    refine ⟨_, rfl, _, rfl, _, rfl, D, _, rfl, dg, .inr (.inl ⟨t0, _, _, _, rfl, rfl, SqT.of op3, rfl, ?_⟩)⟩
    refine ⟨_, rfl, _, rfl, D, _, rfl, dg, .inr (.inl ⟨t0, _, _, _, rfl, rfl, SqT.of op3, rfl, ?_⟩)⟩
    refine ⟨(by show 4 ≤ sizeLine; decide), fun t nt => yes _ _ ⟨t, e, rfl, ee, upd_same⟩ (same_new nt)⟩
  · intro H2 q ys nq oq ly ry s2
    obtain ⟨ts, rfl, pt⟩ := addrs_of (H := H2) (P := fun i t => ∃ e, arcs[i]? = some e ∧ StepAt H2 t e) ys 0 fun j y ey => by
      obtain ⟨t, e, rfl, h1, h2⟩ := ry j y ey
      exact ⟨t, rfl, e, by rw [Nat.zero_add]; exact h1, h2⟩
    rw [List.length_map] at ly
    refine hq _ q ts oq (paired_of _ _ ly fun i t e et ee => ?_) s2
    obtain ⟨e', ee', st⟩ := pt i t et
    rw [Nat.zero_add, ee] at ee'
    obtain rfl := Option.some.inj ee'
    exact st
theorem ok_isLive (F : Fun K "_is_live" "Net._is_live" sIsLive f fd) (S : NetC K C) (FR : Fun K "reached" "reached" sReached fR fdR) (gR : mg "reached" = some (.ref fR)) (FO : Fun K "onward" "onward" sOnward fO fdO) (gO : mg "onward" = some (.ref fO)) (nN : mg "len" = none) : FnOk P w K mg base CX0 2 f fd ["self", "name"] (spIsLive C) := by
  have GR : FnOk P w K mg base CX0 1 fR fdR ["steps", "begin"] spReached := ok_reached FR nN
  have bR := FR.binds (ps := ["steps", "begin"]) fun _ _ _ _ _ _ us hl => match us, hl with | [_, _], _ => rfl
  have GO : FnOk P w K mg base CX0 1 fO fdO ["arcs", "names"] spOnwF := ok_onwF FO
  have bO := FO.binds (ps := ["arcs", "names"]) fun _ _ _ _ _ _ us hl => match us, hl with | [_, _], _ => rfl
  refine F.ok scIsLive (fun vs H Q E h => by obtain ⟨x, dx, D, fs, od, es, arcs, A, e, h, _⟩ := h; rw [h]; rfl) fun cdv A outer s H vs Q E hr hsp => ?_
  obtain ⟨x, dx, D, fs, od, es, arcs, A0, e, rfl, hx, hf, oD, pr, rnd, sh, ein, hq⟩ := hsp
  have nd := scIsLive.nd
  have hu := hu_of hr
  refine ⟨_, pss_cons (ps_asg (pe_dget hu (pe_fld (pv 0) rfl) (pv 1) (fun _ _ => rfl)) (pg_tup (n := 2) rfl (pgs_cons (pg_name (i := 2) nd rfl (Or.inl rfl)) (pgs_cons (pg_name (i := 3) nd rfl (Or.inl rfl)) pgs_nil))))
    (pss_one (ps_ret (pe_cmp (pc_din hu (pv 2) (pe_call GR hr rfl gR FR.kp bR .nil pass0 (pa_cons (pe_call GO hr rfl gO FO.kp bO .nil pass0 (pa_cons (pe_fld (pv 0) rfl) (pa_cons (pe_fld (pv 0) rfl) pa_nil))) (pa_cons (pv 3) pa_nil))))))), ?_⟩
  obtain ⟨v, ev, atv⟩ := val_atD pr (lk_mem rnd ein)
  obtain ⟨t0, y, z, hv, ap, op, hy, hz⟩ := atv
  have hy : y = .str e.2.1 := hy
  have hz : z = .str e.2.2 := hz
  subst hv hy hz
  refine ⟨_, rfl, x, C, dx, _, _, rfl, hx, S.cl, S.nA, hf, _, rfl, D, _, rfl, .inl ⟨es, Sum.inr e.1, .inr ⟨od, oD⟩, rfl, ev.symm⟩, t0, _, rfl, SqT.of op, rfl, _, _, rfl, _, _, rfl, rfl, ?_⟩
  refine ⟨_, rfl, _, rfl, x, C, dx, _, _, rfl, hx, S.cl, S.nA, hf, _, rfl, x, C, dx, _, _, rfl, hx, S.cl, S.nA, hf, D, od, es, arcs, _, rfl, oD, pr, rnd, sh, fun H1 q ts oq pt k1 => ?_⟩
  refine ⟨_, rfl, q, _, ts, arcs, rfl, oq, pt, sh, fun H2 G es2 S2 nG oG ek _ rS k2 => ?_⟩
  refine ⟨G, _, rfl, DGet.k (k := Sum.inr e.2.1) oG, ?_⟩
  have kk := k1.trans k2
  by_cases m : e.2.1 ∈ S2
  · obtain ⟨v, ev2⟩ := (val_inS ek _).1 m
    rw [ev2]
    exact hq H2 true ⟨fun _ => (rS _).1 m, fun _ => rfl⟩ kk
  · rw [(val_inS ek _).2 m]
    exact hq H2 false ⟨(fun z => by cases z), fun z => absurd ((rS _).2 z) m⟩ kk
end
end L2.TB
/-! _nodes_of, inward -/
namespace L2.TB
open PySem PySem.Spec PyProof.Rows
def addN (S : List Str) (n : Str) : List Str := if n ∈ S then S else S ++ [n]
def nodesF (S : List Str) (arcs : NtT) : List Str := arcs.foldl (fun S e => addN (addN S e.2.1) e.2.2) S
def nodesL (arcs : NtT) : List Str := nodesF [] arcs
theorem addN_in {S : List Str} {n x : Str} : x ∈ addN S n ↔ x ∈ S ∨ x = n := by
  unfold addN
  by_cases h : n ∈ S
  · rw [if_pos h]
    exact ⟨.inl, fun z => z.elim id fun z => by rw [z]; exact h⟩
  · rw [if_neg h, List.mem_append, List.mem_singleton]
theorem addN_len (S : List Str) (n : Str) : (addN S n).length ≤ S.length + 1 := by
  unfold addN
  split
  · omega
  · rw [List.length_append]; exact Nat.le_refl _
theorem addN_nd {S : List Str} {n : Str} (h : S.Nodup) : (addN S n).Nodup := by
  unfold addN
  split
  · exact h
  · rename_i c
    exact List.nodup_append.mpr ⟨h, by simp, fun x hx y hy z => c (by rw [List.mem_singleton.mp hy] at z; rw [← z]; exact hx)⟩
theorem nodesF_take (S : List Str) {arcs : NtT} {i : Nat} {e : Str × ArT} (h : arcs[i]? = some e) : nodesF S (arcs.take (i + 1)) = addN (addN (nodesF S (arcs.take i)) e.2.1) e.2.2 := by
  have et : arcs.take (i + 1) = arcs.take i ++ [e] := by rw [List.take_succ, h]; rfl
  unfold nodesF
  rw [et, List.foldl_append]
  rfl
theorem nodesF_len : ∀ (arcs : NtT) (S : List Str), (nodesF S arcs).length ≤ S.length + 2 * arcs.length
  | [], S => by show S.length ≤ _; omega
  | e :: l, S => by
    have ih := nodesF_len l (addN (addN S e.2.1) e.2.2)
    have h1 := addN_len S e.2.1
    have h2 := addN_len (addN S e.2.1) e.2.2
    rw [List.length_cons]
    show (nodesF (addN (addN S e.2.1) e.2.2) l).length ≤ _
    omega
theorem nodesF_nd : ∀ (arcs : NtT) (S : List Str), S.Nodup → (nodesF S arcs).Nodup
  | [], S, h => h
  | e :: l, S, h => nodesF_nd l _ (addN_nd (addN_nd h))
theorem nodesF_in : ∀ (arcs : NtT) (S : List Str) (x : Str), x ∈ nodesF S arcs ↔ x ∈ S ∨ ∃ e ∈ arcs, x = e.2.1 ∨ x = e.2.2
  | [], S, x => ⟨.inl, fun h => h.elim id (fun ⟨e, he, _⟩ => by cases he)⟩
  | e :: l, S, x => by
    show x ∈ nodesF (addN (addN S e.2.1) e.2.2) l ↔ _
    rw [nodesF_in l, addN_in, addN_in]
    constructor
    · intro hh
      rcases hh with ((h | h) | h) | ⟨e', he, h⟩
      · exact .inl h
      · exact .inr ⟨e, List.mem_cons_self, .inl h⟩
      · exact .inr ⟨e, List.mem_cons_self, .inr h⟩
      · exact .inr ⟨e', List.mem_cons_of_mem _ he, h⟩
    · intro hh
      rcases hh with h | ⟨e', he, h⟩
      · exact .inl (.inl (.inl h))
      · rcases (List.mem_cons.mp he) with rfl | he
        · exact h.elim (fun h => .inl (.inl (.inr h))) fun h => .inl (.inr h)
        · exact .inr ⟨e', he, h⟩
theorem seen_put2 (S : List Str) (n : Str) : putK (seenD S) (Sum.inr n) (.bl true) = seenD (addN S n) := by
  unfold addN
  by_cases h : n ∈ S
  · rw [if_pos h, put_has (by unfold seenD; rw [List.map_map]; exact List.mem_map_of_mem h)]
    unfold seenD
    rw [List.map_map]
    refine (List.map_congr_left fun x _ => ?_)
    show (if (Sum.inr x : Key) = Sum.inr n then ((Sum.inr x : Key), V.bl true) else (Sum.inr x, .bl true)) = _
    split <;> rfl
  · rw [if_neg h, seen_put h]
/-- what goes in less what goes out -/
def inwL (x : Str → Int) (S : List Str) (arcs : NtT) : Int := arcs.foldl (fun t e => (t + if e.2.2 ∈ S ∧ e.2.1 ∉ S then x e.1 else 0) - if e.2.1 ∈ S ∧ e.2.2 ∉ S then x e.1 else 0) 0
theorem inwL_take (x : Str → Int) (S : List Str) {arcs : NtT} {i : Nat} {e : Str × ArT} (h : arcs[i]? = some e) : inwL x S (arcs.take (i + 1)) = (inwL x S (arcs.take i) + if e.2.2 ∈ S ∧ e.2.1 ∉ S then x e.1 else 0) - if e.2.1 ∈ S ∧ e.2.2 ∉ S then x e.1 else 0 := by
  have et : arcs.take (i + 1) = arcs.take i ++ [e] := by rw [List.take_succ, h]; rfl
  unfold inwL
  rw [et, List.foldl_append]
  rfl
def spNodesOf : Sp := fun vs H Q _ => ∃ (D : Addr) (arcs : NtT) (A : Addr → Prop), vs = [.ref D] ∧ PyD.at_ A H (.ref D) (Dc.mk arcs) ∧ arcs.length < 1000 ∧ ∀ H' q, H q = none → H' q = some (.lst ((nodesL arcs).map V.str)) → Same H H' → Q (.ref q) H'
abbrev NNo : List Str := ["arcs", "nodes", "name", "start", "end"]
theorem scNodesOf : FnScope NNo ["arcs"] (defScope sNodesOf) := ⟨rfl, rfl, rfl, by decide +kernel, rfl, by decide +kernel, by decide +kernel⟩
def spInw : Sp := fun vs H Q _ => ∃ (D X sd : Addr) (arcs : NtT) (A : Addr → Prop) (kvs : List (Key × V)) (S : List Str) (x : Str → Int), vs = [.ref D, .ref D, .ref X, .ref sd] ∧ PyD.at_ A H (.ref D) (Dc.mk arcs) ∧ arcs.length < 1000 ∧ H X = some (.dK kvs) ∧ X ≠ D ∧ (∀ e ∈ arcs, valV kvs (Sum.inr e.1) = some (.int (x e.1))) ∧ H sd = some (.lst (S.map V.str)) ∧ S.length < 1000 ∧ ∀ H', Same H H' → Q (.int (inwL x S arcs)) H'
abbrev NIw : List Str := ["arcs", "names", "answers", "side", "total", "name", "start", "end"]
theorem scInw : FnScope NIw ["arcs", "names", "answers", "side"] (defScope sInward) := ⟨rfl, rfl, rfl, by decide +kernel, rfl, by decide +kernel, by decide +kernel⟩
section
variable {P : Program} {w : World} {K : PySem.W.Frag} {mg : Str → Option Value} {base : Heap} {f : Addr} {fd : FuncData}
theorem ok_nodesOf (F : Fun K "_nodes_of" "_nodes_of" sNodesOf f fd) (nL : mg "list" = none) : FnOk P w K mg base CX0 1 f fd ["arcs"] spNodesOf := by
  refine F.ok scNodesOf (fun vs H Q E h => by obtain ⟨D, arcs, A, e, _⟩ := h; rw [e]; rfl) fun cdv A outer s H vs Q E hr hsp => ?_
  obtain ⟨D, arcs, A0, rfl, at_, sh, hq⟩ := hsp
  have nd := scNodesOf.nd
  have hu := hu_of hr
  refine ⟨_, pss_cons (ps_set (i := 1) nd rfl (Or.inl rfl) pe_dnewK)
    (pss_cons (ps_lock (ps_for PassesOwn.never rfl (pi_keys (pv 0)) (pg_name (i := 2) nd rfl (Or.inl rfl))
      (pss_cons (ps_asg (pe_dget hu (pv 0) (pv 2) (fun _ _ => rfl)) (pg_tup (n := 2) rfl (pgs_cons (pg_name (i := 3) nd rfl (Or.inl rfl)) (pgs_cons (pg_name (i := 4) nd rfl (Or.inl rfl)) pgs_nil))))
      (pss_cons (ps_dput hu (pv 1) (pv 3) pe_bl rfl)
      (pss_one (ps_dput hu (pv 1) (pv 4) pe_bl rfl))))))
    (pss_one (ps_ret (pe_callTy (call_listD rfl) rfl nL boot_list' (pa_cons (pv 1) pa_nil))))), ?_⟩
  obtain ⟨D', es, e1, aD, oD, rnd, pr⟩ := at_
  obtain rfl := V.ref.inj e1
  have les : es.length = arcs.length := Paired.length pr
  have ndes : (es.map (·.1)).Nodup := by rw [dc_keys pr]; exact nd_inr rnd
  refine fun g ng => ?_
  have kg := same_new (o := .dK []) ng
  have og : upd H g (.dK []) g = some (.dK (seenD [])) := upd_same
  have gD : g ≠ D := fun z => by rw [z, oD] at ng; cases ng
  have oD1 := kg _ _ oD
  generalize upd H g (.dK []) = H1 at kg og oD1
  refine ⟨D, _, oD1, trivial, fun od => ⟨_, rfl, D, od, rfl, .inl ⟨es, upd_same, for_it walk_keys (fun i σ H' => H' g = some (.dK (seenD (nodesF [] (arcs.take i)))) ∧ (∀ b o, b ≠ g → upd H1 D (.frz od (.dK es)) b = some o → H' b = some o) ∧ ∃ s2 s3 s4, σ = [some (.ref D), some (.ref g), s2, s3, s4])
    ⟨by rw [upd_ne gD, List.take_zero]; exact og, fun _ _ _ e => e, _, _, _, rfl⟩ (fun i σ H' _ h => h.2.1 _ _ (Ne.symm gD) upd_same) ?_ ?_⟩⟩⟩
  · rintro i y σ H2 H3 lt ⟨og2, fr, s2, s3, s4, rfl⟩ ⟨rfl, k0, v0, ekv, rfl⟩
    obtain ⟨e, ee, hk, t0, x, z, hv, ap, op, hx, hz⟩ := paired_get pr ekv
    have hk : k0 = Sum.inr e.1 := hk
    have hv : v0 = .ref t0 := hv
    have hx : x = .str e.2.1 := hx
    have hz : z = .str e.2.2 := hz
    subst hk hv hx hz
    have tD : t0 ≠ D := fun z => by rw [z, oD] at op; cases op
    have tg : t0 ≠ g := fun z => by rw [z, ng] at op; cases op
    have op3 := fr _ _ tg (show upd H1 D (.frz od (.dK es)) t0 = _ by rw [upd_ne tD]; exact kg _ _ op)
    have oD3 := fr _ _ (Ne.symm gD) (show upd H1 D (.frz od (.dK es)) D = _ from upd_same)
    have ln := nodesF_len (arcs.take i) []
    have lt2 : (arcs.take i).length ≤ arcs.length := by rw [List.length_take]; omega
    have l1 := addN_len (nodesF [] (arcs.take i)) e.2.1
    have ls : ∀ S : List Str, (seenD S).length = S.length := fun S => List.length_map _
    refine ⟨_, rfl, _, rfl, D, _, rfl, .inl ⟨es, Sum.inr e.1, .inr ⟨od, oD3⟩, rfl, (valV_atN ndes ekv).symm⟩, t0, _, rfl, SqT.of op3, rfl, _, _, rfl, _, _, rfl, rfl, ?_⟩
    refine ⟨_, rfl, _, rfl, g, _, rfl, DPut.k (k := Sum.inr e.2.1) og2 (by rw [ls, sizeLine_eq]; simp only [List.length_nil] at ln; omega), ?_⟩
    rw [seen_put2]
    refine ⟨_, rfl, _, rfl, g, _, rfl, DPut.k (k := Sum.inr e.2.2) upd_same (by rw [ls, sizeLine_eq]; simp only [List.length_nil] at ln; omega), ?_⟩
    rw [seen_put2]
    exact ⟨by rw [upd_same, nodesF_take [] ee], fun b o nb h => by rw [upd_ne nb, upd_ne nb]; exact fr _ _ nb h, _, _, _, rfl⟩
  · rintro σ H2 ⟨og2, fr, s2, s3, s4, rfl⟩
    rw [les, List.take_length] at og2
    have oD2 := fr _ _ (Ne.symm gD) (show upd H1 D (.frz od (.dK es)) D = _ from upd_same)
    refine ⟨oD2, ?_⟩
    have og3 : upd H2 D (.dK es) g = _ := (upd_ne gD).trans og2
    have k3 : Same H (upd H2 D (.dK es)) := fun b o e => by
      by_cases c : b = D
      · rw [c, upd_same, ← oD, ← c]; exact e
      · rw [upd_ne c]
        exact fr _ _ (ne_of_none e ng) (by rw [upd_ne c]; exact kg _ _ e)
    refine ⟨_, rfl, g, _, rfl, .inl og3, fun q nq => ?_⟩
    have ek : ((seenD (nodesF [] arcs)).map fun kv => kV kv.1) = (nodesL arcs).map V.str := by
      unfold seenD nodesL
      rw [List.map_map]
      rfl
    rw [ek]
    exact hq _ q (k3.free nq) upd_same (k3.trans (same_new nq))
theorem ok_inw (F : Fun K "inward" "inward" sInward f fd) : FnOk P w K mg base CX0 1 f fd ["arcs", "names", "answers", "side"] spInw := by
  refine F.ok scInw (fun vs H Q E h => by obtain ⟨D, X, sd, arcs, A, kvs, S, x, e, _⟩ := h; rw [e]; rfl) fun cdv A outer s H vs Q E hr hsp => ?_
  obtain ⟨D, X, sd, arcs, A0, kvs, S, x, rfl, at_, sh, oX, XD, xv, osd, shS, hq⟩ := hsp
  have nd := scInw.nd
  have hu := hu_of hr
  refine ⟨_, pss_cons (ps_set (i := 4) nd rfl (Or.inl rfl) pe_int)
    (pss_cons (ps_lock (ps_for PassesOwn.never rfl (pi_keys (pv 1)) (pg_name (i := 5) nd rfl (Or.inl rfl))
      (pss_cons (ps_asg (pe_dget hu (pv 0) (pv 5) (fun _ _ => rfl)) (pg_tup (n := 2) rfl (pgs_cons (pg_name (i := 6) nd rfl (Or.inl rfl)) (pgs_cons (pg_name (i := 7) nd rfl (Or.inl rfl)) pgs_nil))))
      (pss_cons (ps_if (PW.pt (pw_and (pt_cmpR op_in_seq (pv 7) (pv 3) rfl) (pw_and1 (pt_cmpR op_notIn_seq (pv 6) (pv 3) rfl)))) (pss_one (ps_aug (i := 4) nd rfl (Or.inl rfl) (pe_dget hu (pv 2) (pv 5) (fun _ _ => rfl)) ip_add)) pss_nil)
      (pss_one (ps_if (PW.pt (pw_and (pt_cmpR op_in_seq (pv 6) (pv 3) rfl) (pw_and1 (pt_cmpR op_notIn_seq (pv 7) (pv 3) rfl)))) (pss_one (ps_aug (i := 4) nd rfl (Or.inl rfl) (pe_dget hu (pv 2) (pv 5) (fun _ _ => rfl)) ip_sub)) pss_nil))))))
    (pss_one (ps_ret (pv 4)))), ?_⟩
  obtain ⟨D', es, e1, aD, oD, rnd, pr⟩ := at_
  obtain rfl := V.ref.inj e1
  have les : es.length = arcs.length := Paired.length pr
  have ndes : (es.map (·.1)).Nodup := by rw [dc_keys pr]; exact nd_inr rnd
  refine ⟨D, _, oD, trivial, fun od => ⟨_, rfl, D, od, rfl, .inl ⟨es, upd_same, for_it walk_keys (fun i σ H' => Same (upd H D (.frz od (.dK es))) H' ∧ ∃ s5 s6 s7, σ = [some (.ref D), some (.ref D), some (.ref X), some (.ref sd), some (.int (inwL x S (arcs.take i))), s5, s6, s7])
    ⟨Same.refl _, _, _, _, rfl⟩ (fun i σ H' _ h => h.1 _ _ upd_same) ?_ ?_⟩⟩⟩
  · rintro i y σ H2 H3 lt ⟨k2, s5, s6, s7, rfl⟩ ⟨rfl, k0, v0, ekv, rfl⟩
    obtain ⟨e, ee, hk, t0, u1, u2, hv, ap, op, hx, hz⟩ := paired_get pr ekv
    have hk : k0 = Sum.inr e.1 := hk
    have hv : v0 = .ref t0 := hv
    have hx : u1 = .str e.2.1 := hx
    have hz : u2 = .str e.2.2 := hz
    subst hk hv hx hz
    have up : ∀ b o, b ≠ D → H b = some o → H3 b = some o := fun b o nb h => k2 _ _ (by rw [upd_ne nb]; exact h)
    have tD : t0 ≠ D := fun z => by rw [z, oD] at op; cases op
    have sD : sd ≠ D := fun z => by rw [z, oD] at osd; cases osd
    have oD3 := k2 _ _ (show upd H D (.frz od (.dK es)) D = _ from upd_same)
    have ox3 := up _ _ XD oX
    have os3 := up _ _ sD osd
    have ev := xv e (List.mem_of_getElem? ee)
    have dgx : DGet H3 X (.str e.1) (some (.int (x e.1))) := .inl ⟨kvs, Sum.inr e.1, .inl ox3, rfl, ev.symm⟩
    refine ⟨_, rfl, _, rfl, D, _, rfl, .inl ⟨es, Sum.inr e.1, .inr ⟨od, oD3⟩, rfl, (valV_atN ndes ekv).symm⟩, t0, _, rfl, SqT.of (up _ _ tD op), rfl, _, _, rfl, _, _, rfl, rfl, ?_⟩
    have ee : arcs[i]? = some e := ee
    have et := inwL_take x S ee
    have fin : ∀ z : Int, z = inwL x S (arcs.take (i + 1)) → ∃ s5 s6 s7, [some (V.ref D), some (.ref D), some (.ref X), some (.ref sd), some (.int z), some (.str e.1), some (.str e.2.1), some (.str e.2.2)] = [some (V.ref D), some (.ref D), some (.ref X), some (.ref sd), some (.int (inwL x S (arcs.take (i + 1)))), s5, s6, s7] := fun z e => by rw [e]; exact ⟨_, _, _, rfl⟩
    refine ⟨_, rfl, _, rfl, sd, _, rfl, .inl (SqL.of os3), rfl, flat_strs S, ?_⟩
    rw [inV_strs]
    by_cases c1 : e.2.2 ∈ S
    · refine ⟨_, rfl, ?_⟩
      rw [decide_eq_true c1]
      refine iteT ⟨_, rfl, _, rfl, sd, _, rfl, .inl (SqL.of os3), rfl, flat_strs S, ?_⟩
      rw [inV_strs]
      by_cases c2 : e.2.1 ∈ S
      · refine ⟨_, rfl, ?_⟩
        rw [decide_eq_true c2]
        refine iteF ⟨_, rfl, _, rfl, sd, _, rfl, .inl (SqL.of os3), rfl, flat_strs S, ?_⟩
        rw [inV_strs]
        refine ⟨_, rfl, ?_⟩
        rw [decide_eq_true c2]
        refine iteT ⟨_, rfl, _, rfl, sd, _, rfl, .inl (SqL.of os3), rfl, flat_strs S, ?_⟩
        rw [inV_strs]
        refine ⟨_, rfl, ?_⟩
        rw [decide_eq_true c1]
        refine iteF ⟨k2, fin _ ?_⟩
        rw [et, if_neg (fun z => z.2 c2), if_neg (fun z => z.2 c1)]; omega
      · refine ⟨_, rfl, ?_⟩
        rw [decide_eq_false c2]
        refine iteT ⟨_, rfl, _, rfl, _, rfl, X, _, rfl, dgx, _, _, rfl, rfl, ?_⟩
        refine ⟨_, rfl, _, rfl, sd, _, rfl, .inl (SqL.of os3), rfl, flat_strs S, ?_⟩
        rw [inV_strs]
        refine ⟨_, rfl, ?_⟩
        rw [decide_eq_false c2]
        refine iteF ⟨k2, fin _ ?_⟩
        rw [et, if_pos ⟨c1, c2⟩, if_neg (fun z => c2 z.1)]; show inwL x S (arcs.take i) + x e.1 = _; omega
    · refine ⟨_, rfl, ?_⟩
      rw [decide_eq_false c1]
      refine iteF ⟨_, rfl, _, rfl, sd, _, rfl, .inl (SqL.of os3), rfl, flat_strs S, ?_⟩
      rw [inV_strs]
      by_cases c2 : e.2.1 ∈ S
      · refine ⟨_, rfl, ?_⟩
        rw [decide_eq_true c2]
        refine iteT ⟨_, rfl, _, rfl, sd, _, rfl, .inl (SqL.of os3), rfl, flat_strs S, ?_⟩
        rw [inV_strs]
        refine ⟨_, rfl, ?_⟩
        rw [decide_eq_false c1]
        refine iteT ⟨_, rfl, _, rfl, _, rfl, X, _, rfl, dgx, _, _, rfl, rfl, k2, fin _ ?_⟩
        rw [et, if_neg (fun z => c1 z.1), if_pos ⟨c2, c1⟩]; show inwL x S (arcs.take i) - x e.1 = _; omega
      · refine ⟨_, rfl, ?_⟩
        rw [decide_eq_false c2]
        refine iteF ⟨k2, fin _ ?_⟩
        rw [et, if_neg (fun z => c1 z.1), if_neg (fun z => c2 z.1)]; omega
  · rintro σ H2 ⟨k2, s5, s6, s7, rfl⟩
    rw [les, List.take_length]
    obtain ⟨b1, k3⟩ := lock_offN oD k2
    exact ⟨b1, _, rfl, hq _ k3⟩
end
end L2.TB
/-! has_just of anything, _is_world of anything -/
namespace L2.TB
open PySem PySem.Spec PyProof.Rows
def NoDict (K : PySem.W.Frag) (H : Hp) (v : V) : Prop := ∃ t : String, TyX K H v (.type t) ∧ kitB t "dict" = some false
theorem NoDict.same {K : PySem.W.Frag} {H H' : Hp} {v : V} (h : NoDict K H v) (s : Same H H') : NoDict K H' v := let ⟨t, a, b⟩ := h; ⟨t, ty_same a s, b⟩
/-- whether a dict has just some names -/
def justB (kvs : List (Key × V)) (ns : List Str) : Bool := decide (kvs.length = ns.length) && ns.all fun n => (valV kvs (Sum.inr n)).isSome
def spJustG (K : PySem.W.Frag) : Sp := fun vs H Q _ => ∃ (v : V) (D : Addr) (es : List (Key × V)) (ns : List Str), vs = [v, .ref D] ∧ H D = some (.dK es) ∧ es.map (·.1) = ns.map Sum.inr ∧ ns.length < 1000 ∧
  ((NoDict K H v ∧ Q (.bl false) H) ∨ ∃ d kvs, v = .ref d ∧ d ≠ D ∧ H d = some (.dK kvs) ∧ kvs.length < 2000 ∧ ∀ H', Same H H' → Q (.bl (justB kvs ns)) H')
section
variable {P : Program} {w : World} {K : PySem.W.Frag} {mg : Str → Option Value} {base : Heap} {f C : Addr} {fd : FuncData}
theorem ok_justG (F : Fun K "has_just" "has_just" sHasJust f fd) (gI : mg "isinstance" = none) (gD : mg "dict" = none) (gN : mg "len" = none) (gA : mg "all" = none) : FnOk P w K mg base CX0 1 f fd ["thing", "names"] (spJustG K) := by
  refine F.ok scHasJust (fun vs H Q E h => by obtain ⟨v, D, es, ns, e, _⟩ := h; rw [e]; rfl) fun cdv A outer s H vs Q E hr hsp => ?_
  obtain ⟨v, D, es, ns, rfl, oD, ek, sh, hq⟩ := hsp
  have nd := scHasJust.nd
  have hu := hu_of hr
  refine ⟨_, pss_one (ps_ret (pe_and (pe_callB (r := rIsi K) call_isi rfl gI boot_isi (pa_cons (pv 0) (pa_cons (pe_bltn (v := .ty "dict") rfl gD boot_dict' rfl) pa_nil))) (pe_and (pe_cmpR op_eq (pe_callB call_lenD rfl gN boot_len (pa_cons (pv 0) pa_nil)) (pe_callB call_lenD rfl gN boot_len (pa_cons (pv 1) pa_nil)) (nomark _))
    (pe_one (pe_callB (cr_all rfl) rfl gA boot_allN (pa_cons (pe_lock (pe_lc (own := [("name", 2)]) (g := gName 2) (tt := tYes) rfl nd (pi_keys (pv 1)) (blkOk_by (N := NHj) (sc := defScope sHasJust) (by decide +kernel)) (fun _ _ _ _ _ => pg_name (i := 2) nd rfl (Or.inl rfl)) (fun _ _ _ _ _ => pts_nil)
      (fun _ _ _ _ _ => pe_cmp (pc_din hu (pv 2) (pv 0))))) pa_nil)))))), ?_⟩
  have les : es.length = ns.length := by
    have z := congrArg List.length ek
    rwa [List.length_map, List.length_map] at z
  rcases hq with ⟨⟨t, h1, h2⟩, hq⟩ | ⟨d, kvs, rfl, dD, od, shk, hq⟩
  · exact ⟨_, rfl, _, _, _, _, false, rfl, .ty _, h1, kit_ty h2, _, rfl, iteF hq⟩
  · refine ⟨_, rfl, _, _, _, _, true, rfl, .ty _, .base (.dK od), kit_ty (by decide +kernel), _, rfl, iteT ?_⟩
    have ed : decide (V.int (kvs.length : Nat) = V.int (es.length : Nat)) = decide (kvs.length = ns.length) := decide_eq_decide.mpr ⟨fun h => by have := V.int.inj h; omega, fun h => by rw [h, les]⟩
    refine ⟨_, rfl, d, kvs, rfl, od, _, rfl, D, es, rfl, oD, rfl, decide (kvs.length = ns.length), congrArg V.bl ed, ?_⟩
    by_cases c : kvs.length = ns.length
    · rw [decide_eq_true c]
      refine iteT ⟨D, _, oD, trivial, fun oo => ⟨_, rfl, D, oo, rfl, .inl ⟨es, upd_same, ?_⟩⟩⟩
      have oL : upd H D (.frz oo (.dK es)) D = some (.frz oo (.dK es)) := upd_same
      refine lc_gen ((ns.map fun n => (valV kvs (Sum.inr n)).isSome).map V.bl) (by rw [List.length_map, List.length_map]; omega) (fun i H' s lt => ⟨s _ _ oL, by rw [List.length_map, List.length_map] at lt; omega⟩) (fun H' s => ⟨s _ _ oL, by rw [List.length_map, List.length_map]; omega⟩) ?_ ?_
      · rintro i y b H2 H3 Cn Nn eb s2 ⟨rfl, k0, v0, ekv, rfl⟩ yes
        have e1 : (es.map (·.1))[i]? = some k0 := by rw [List.getElem?_map, ekv]; rfl
        rw [ek, List.getElem?_map] at e1
        obtain ⟨n, en, rfl⟩ := Option.map_eq_some_iff.mp e1
        rw [List.getElem?_map, List.getElem?_map, en] at eb
        obtain rfl := Option.some.inj eb
        have od3 := s2 _ _ (show upd H D (.frz oo (.dK es)) d = _ by rw [upd_ne dD]; exact od)
        refine ⟨rfl, ?_⟩
        refine ⟨_, rfl, _, rfl, d, _, rfl, DGet.k (k := Sum.inr n) od3, ?_⟩
        exact yes H3 (Same.refl _)
      · intro H2 q nq oq s2
        obtain ⟨b1, s12⟩ := lock_offN oD s2
        have qD : q ≠ D := fun z => by rw [z, upd_same] at nq; cases nq
        refine ⟨b1, q, _, rfl, SqL.of (by rw [upd_ne qD]; exact oq), ?_⟩
        have e : justB kvs ns = (ns.map fun n => (valV kvs (Sum.inr n)).isSome).all id := by
          unfold justB
          rw [decide_eq_true c, List.all_map]
          rfl
        rw [← e]
        exact hq _ s12
    · rw [decide_eq_false c]
      have z := hq H (Same.refl _)
      have e : justB kvs ns = false := by unfold justB; rw [decide_eq_false c]; rfl
      rw [e] at z
      exact iteF z
end
end L2.TB
/-! a net in the heap; _is_world of anything -/
namespace L2.TB
open PySem PySem.Spec PyProof.Rows
noncomputable def liveB (arcs : NtT) (e : Str × ArT) : Bool := @decide (Reach (edgesOf arcs) e.2.2 e.2.1) (Classical.propDecidable _)
theorem liveB_iff {arcs : NtT} {e : Str × ArT} : liveB arcs e = true ↔ Reach (edgesOf arcs) e.2.2 e.2.1 := by
  unfold liveB
  exact @decide_eq_true_iff _ (Classical.propDecidable _)
noncomputable def liveL (arcs : NtT) : List Str := (arcs.filter (liveB arcs)).map (·.1)
abbrev ntF (D N Lv : Addr) : List (Str × V) := [("_arcs", .ref D), ("_nodes", .ref N), ("_live", .ref Lv)]
structure NetA (A : Addr → Prop) (H : Hp) (C x : Addr) (arcs : NtT) : Prop where
  ex : ∃ dx D N Lv, H x = some (.ins C dx (ntF D N Lv)) ∧ PyD.at_ A H (.ref D) (Dc.mk arcs) ∧ A N ∧ H N = some (.lst ((nodesL arcs).map V.str)) ∧ A Lv ∧ H Lv = some (.lst ((liveL arcs).map V.str))
theorem NetA.keep {A A' : Addr → Prop} {H H' : Hp} {C x : Addr} {arcs : NtT} (h : NetA A H C x arcs) (hx : ∀ o, H x = some o → H' x = some o) (k : ∀ b o, A b → H b = some o → A' b ∧ H' b = some o) : NetA A' H' C x arcs := by
  obtain ⟨dx, D, N, Lv, h1, h2, a1, h3, a2, h4⟩ := h.ex
  exact ⟨dx, D, N, Lv, hx _ h1, PyD.kp h2 k, (k _ _ a1 h3).1, (k _ _ a1 h3).2, (k _ _ a2 h4).1, (k _ _ a2 h4).2⟩
theorem NetA.same {A : Addr → Prop} {H H' : Hp} {C x : Addr} {arcs : NtT} (h : NetA A H C x arcs) (s : Same H H') : NetA A H' C x arcs := h.keep (fun o e => s _ _ e) fun b o a e => ⟨a, s _ _ e⟩
/-- what is asked of arcs -/
structure NtOk (arcs : NtT) : Prop where
  n0 : 0 < arcs.length
  n1 : arcs.length < 300
  nd : (arcs.map (·.1)).Nodup
  nm : ∀ e ∈ arcs, NmOk e.1 ∧ NmOk e.2.1 ∧ NmOk e.2.2
def cntB : V → Bool
  | .int k => decide (0 ≤ k)
  | _ => false
def intV : V → Int
  | .int k => k
  | _ => 0
/-- whether values are a world of a net -/
def valsB (vv : Str → V) (arcs : NtT) : Bool := (arcs.all fun e => cntB (vv e.1)) && (nodesL arcs).all fun n => decide (inwL (fun x => intV (vv x)) [n] arcs = 0)
inductive WTh (K : PySem.W.Frag) (H : Hp) (arcs : NtT) : V → Bool → Prop
  | no {v : V} (h : NoDict K H v) : WTh K H arcs v false
  | bad {d : Addr} {kvs : List (Key × V)} (o : H d = some (.dK kvs)) (sh : kvs.length < 2000) (j : justB kvs (arcs.map (·.1)) = false) : WTh K H arcs (.ref d) false
  | val {d : Addr} {kvs : List (Key × V)} (o : H d = some (.dK kvs)) (sh : kvs.length < 2000) (j : justB kvs (arcs.map (·.1)) = true) (vv : Str → V) (hv : ∀ e ∈ arcs, valV kvs (Sum.inr e.1) = some (vv e.1) ∧ Atom (vv e.1)) : WTh K H arcs (.ref d) (valsB vv arcs)
theorem WTh.same {K : PySem.W.Frag} {H H' : Hp} {arcs : NtT} {v : V} {b : Bool} (h : WTh K H arcs v b) (s : Same H H') : WTh K H' arcs v b := by
  cases h with
  | no h => exact .no (h.same s)
  | bad o sh j => exact .bad (s _ _ o) sh j
  | val o sh j vv hv => exact .val (s _ _ o) sh j vv hv
theorem cnt_noInt {K : PySem.W.Frag} {H : Hp} {v : V} (a : Atom v) : (∃ k, v = .int k) ∨ (NoInt K H v ∧ cntB v = false) := by
  cases a with
  | str x => exact .inr ⟨.ty (.base (.str x)) (by decide +kernel), rfl⟩
  | int i => exact .inl ⟨i, rfl⟩
  | bl b => exact .inr ⟨.bl b, rfl⟩
  | non => exact .inr ⟨.ty (.base .non) (by decide +kernel), rfl⟩
/-- the dict of a net is no such thing -/
theorem wth_far {A : Addr → Prop} {H : Hp} {arcs : NtT} {D d : Addr} {kvs es : List (Key × V)} (n0 : 0 < arcs.length) (rnd : (arcs.map (·.1)).Nodup) (oD : H D = some (.dK es)) (pr : Paired (DcE A H) es arcs) (od : H d = some (.dK kvs)) (h : justB kvs (arcs.map (·.1)) = false ∨ ∃ vv : Str → V, ∀ e ∈ arcs, valV kvs (Sum.inr e.1) = some (vv e.1) ∧ Atom (vv e.1)) : d ≠ D := fun z => by
  rw [z, oD] at od
  obtain rfl := HO.dK.inj (Option.some.inj od)
  have kd : es.map (·.1) = (arcs.map (·.1)).map Sum.inr := dc_keys pr
  rcases h with h | ⟨vv, hv⟩
  · have e : justB es (arcs.map (·.1)) = true := by
      unfold justB
      rw [decide_eq_true (by rw [List.length_map]; exact Paired.length pr), List.all_eq_true.mpr fun n hn => ?_]
      · rfl
      · obtain ⟨v, ev⟩ := (val_inS kd n).1 hn
        rw [ev]; rfl
    rw [e] at h; cases h
  · obtain ⟨e, he⟩ : ∃ e, e ∈ arcs := ⟨_, List.getElem_mem n0⟩
    obtain ⟨v, ev, t, y, z, hv2, _⟩ := val_atD pr (lk_mem rnd he)
    obtain ⟨h1, h2⟩ := hv e he
    rw [ev] at h1
    rw [← Option.some.inj h1, hv2] at h2
    cases h2
def spMIsWorld (K : PySem.W.Frag) (C : Addr) : Sp := fun vs H Q _ => ∃ (x : Addr) (v : V) (arcs : NtT) (A : Addr → Prop) (b : Bool), vs = [.ref x, v] ∧ NetA A H C x arcs ∧ NtOk arcs ∧ WTh K H arcs v b ∧ ∀ H', Same H H' → Q (.bl b) H'
abbrev NIm : List Str := ["self", "thing", "name", "node"]
theorem scIsWorldM : FnScope NIm ["self", "thing"] (defScope sIsWorldM) := ⟨rfl, rfl, rfl, by decide +kernel, rfl, by decide +kernel, by decide +kernel⟩
section
variable {P : Program} {w : World} {K : PySem.W.Frag} {mg : Str → Option Value} {base : Heap} {f C fJ fI fC : Addr} {fd fdJ fdI fdC : FuncData}
theorem ok_mIsWorld (F : Fun K "_is_world" "Net._is_world" sIsWorldM f fd) (S : NetC K C) (FJ : Fun K "has_just" "has_just" sHasJust fJ fdJ) (gJ : mg "has_just" = some (.ref fJ)) (FI : Fun K "inward" "inward" sInward fI fdI) (gI : mg "inward" = some (.ref fI)) (FC : Fun K "is_count" "is_count" sIsCount fC fdC) (gC : mg "is_count" = some (.ref fC)) (GC : FnOk P w K mg base CX0 2 fC fdC ["thing"] (spIsCountG K))
    (nI : mg "isinstance" = none) (nD : mg "dict" = none) (nN : mg "len" = none) (nA : mg "all" = none) : FnOk P w K mg base CX0 3 f fd ["self", "thing"] (spMIsWorld K C) := by
  have GJ : FnOk P w K mg base CX0 1 fJ fdJ ["thing", "names"] (spJustG K) := ok_justG FJ nI nD nN nA
  have bJ := FJ.binds (ps := ["thing", "names"]) fun _ _ _ _ _ _ us hl => match us, hl with | [_, _], _ => rfl
  have GI : FnOk P w K mg base CX0 1 fI fdI ["arcs", "names", "answers", "side"] spInw := ok_inw FI
  have bI := FI.binds (ps := ["arcs", "names", "answers", "side"]) fun _ _ _ _ _ _ us hl => match us, hl with | [_, _, _, _], _ => rfl
  have bC := FC.binds (ps := ["thing"]) fun _ _ _ _ _ _ us hl => match us, hl with | [_], _ => rfl
  refine F.ok scIsWorldM (fun vs H Q E h => by obtain ⟨x, v, arcs, A, b, e, _⟩ := h; rw [e]; rfl) fun cdv A outer s H vs Q E hr hsp => ?_
  obtain ⟨x, v, arcs, A0, b, rfl, net, nok, wt, hq⟩ := hsp
  have nd := scIsWorldM.nd
  have hu := hu_of (hr.mono (show 1 ≤ 2 by decide))
  refine ⟨_, pss_cons (ps_if (PW.pt (pw_or (pt_not (pt_val (pe_call GJ (hr.mono (by decide)) rfl gJ FJ.kp bJ .nil pass0 (pa_cons (pv 1) (pa_cons (pe_fld (pv 0) rfl) pa_nil)))))
      (pw_or1 (pt_not (pt_val (pe_callB (cr_all rfl) rfl nA boot_allN (pa_cons (pe_lock (pe_lc (own := [("name", 2)]) (g := gName 2) (tt := tYes) rfl nd (pi_keys (pe_fld (pv 0) rfl)) (blkOk_by (N := NIm) (sc := defScope sIsWorldM) (by decide +kernel)) (fun _ _ _ _ _ => pg_name (i := 2) nd rfl (Or.inl rfl)) (fun _ _ _ _ _ => pts_nil)
        (fun _ _ _ _ _ => pe_call GC hr rfl gC FC.kp bC .nil pass0 (pa_cons (pe_dget hu (pv 1) (pv 2) (fun _ _ => rfl)) pa_nil)))) pa_nil))))))) (pss_one (ps_ret pe_bl)) pss_nil)
    (pss_one (ps_ret (pe_callB (cr_all rfl) rfl nA boot_allN (pa_cons (pe_lc (own := [("node", 3)]) (g := gName 3) (tt := tYes) (te := tOp rEq (tCall spInw [] E0 (tCons (tFld K (tVar 0) "_arcs") (tCons (tFld K (tVar 0) "_arcs") (tCons (tVar 1) (tCons (tLst (tCons (tVar 3) tNil)) tNil))))) (tC (.int 0))) rfl nd (pi_list (pe_fld (pv 0) rfl)) (blkOk_by (N := NIm) (sc := defScope sIsWorldM) (by decide +kernel)) (fun _ _ _ _ _ => pg_name (i := 3) nd rfl (Or.inl rfl)) (fun _ _ _ _ _ => pts_nil)
      (fun _ _ _ _ _ => pe_cmpR op_eq (pe_call GI (hr.mono (by decide)) rfl gI FI.kp bI .nil pass0 (pa_cons (pe_fld (pv 0) rfl) (pa_cons (pe_fld (pv 0) rfl) (pa_cons (pv 1) (pa_cons (pe_lst (pa_cons (pv 3) pa_nil)) pa_nil))))) pe_int (nomark _))) pa_nil)))), ?_⟩
  have nodup := nok.nd
  have sh := nok.n1
  obtain ⟨dx, D, Nd, Lv, hx, at_, _, oN, _, _⟩ := net.ex
  have at0 := at_
  obtain ⟨D', es, e1, aD, oD, rnd, pr⟩ := at_
  obtain rfl := V.ref.inj e1
  have ek : es.map (·.1) = (arcs.map (·.1)).map Sum.inr := dc_keys pr
  have les : es.length = arcs.length := Paired.length pr
  have xD : x ≠ D := fun z => by rw [z, oD] at hx; cases hx
  refine ⟨_, rfl, _, rfl, x, C, dx, _, _, rfl, hx, S.cl, S.nA, rfl, v, D, es, arcs.map (·.1), rfl, oD, ek, by rw [List.length_map]; omega, ?_⟩
  cases wt with
  | no h => exact .inl ⟨h, _, rfl, iteT (iteT (hq H (Same.refl _)))⟩
  | @bad d kvs o shk j =>
    have dD := wth_far nok.n0 rnd oD pr o (.inl j)
    refine .inr ⟨d, kvs, rfl, dD, o, shk, fun H1 k1 => ?_⟩
    rw [j]
    exact ⟨_, rfl, iteT (iteT (hq H1 k1))⟩
  | @val d kvs o shk j vv hv =>
    have dD := wth_far nok.n0 rnd oD pr o (.inr ⟨vv, hv⟩)
    refine .inr ⟨d, kvs, rfl, dD, o, shk, fun H1 k1 => ?_⟩
    rw [j]
    refine ⟨_, rfl, iteF ?_⟩
    have hx1 := k1 _ _ hx
    have oD1 := k1 _ _ oD
    refine ⟨D, _, oD1, trivial, fun oo => ⟨_, rfl, x, C, dx, _, _, rfl, (by rw [upd_ne xD]; exact hx1), S.cl, S.nA, rfl, D, oo, rfl, .inl ⟨es, upd_same, ?_⟩⟩⟩
    have oL : upd H1 D (.frz oo (.dK es)) D = some (.frz oo (.dK es)) := upd_same
    refine lc_gen ((arcs.map fun e => cntB (vv e.1)).map V.bl) (by rw [List.length_map, List.length_map]; omega) (fun i H' s lt => ⟨s _ _ oL, by rw [List.length_map, List.length_map] at lt; omega⟩) (fun H' s => ⟨s _ _ oL, by rw [List.length_map, List.length_map]; omega⟩) ?_ ?_
    · rintro i y b0 H2 H3 Cn Nn eb s2 ⟨rfl, k0, v0, ekv, rfl⟩ yes
      obtain ⟨e, ee, hk, _⟩ := paired_get pr ekv
      have hk : k0 = Sum.inr e.1 := hk
      subst hk
      rw [List.getElem?_map, List.getElem?_map, show arcs[i]? = some e from ee] at eb
      obtain rfl := Option.some.inj eb
      obtain ⟨ev, at2⟩ := hv e (List.mem_of_getElem? ee)
      have od3 := s2 _ _ (show upd H1 D (.frz oo (.dK es)) d = _ by rw [upd_ne dD]; exact k1 _ _ o)
      refine ⟨rfl, ?_⟩
      refine ⟨_, rfl, _, rfl, d, _, rfl, .inl ⟨kvs, Sum.inr e.1, .inl od3, rfl, ev.symm⟩, vv e.1, rfl, ?_⟩
      rcases cnt_noInt (K := K) (H := H3) at2 with ⟨k, ek2⟩ | ⟨n, ek2⟩
      · refine .inl ⟨k, ek2, ?_⟩
        have z := yes H3 (Same.refl _)
        have z : Cn (V.bl (cntB (vv e.1))) H3 := z
        rw [ek2] at z
        exact z
      · refine .inr ⟨n, ?_⟩
        have z := yes H3 (Same.refl _)
        have z : Cn (V.bl (cntB (vv e.1))) H3 := z
        rw [ek2] at z
        exact z
    · intro H2 q nq oq s2
      obtain ⟨b1, s12⟩ := lock_offN oD1 s2
      have qD : q ≠ D := fun z => by rw [z, upd_same] at nq; cases nq
      refine ⟨b1, q, _, rfl, SqL.of (by rw [upd_ne qD]; exact oq), ?_⟩
      have eall : (arcs.map fun e => cntB (vv e.1)).all id = arcs.all fun e => cntB (vv e.1) := by rw [List.all_map]; rfl
      rw [eall]
      cases ca : arcs.all fun e => cntB (vv e.1) with
      | false =>
        have z := hq _ (k1.trans s12)
        have e : valsB vv arcs = false := by unfold valsB; rw [ca]; rfl
        rw [e] at z
        exact ⟨_, rfl, iteT z⟩
      | true =>
        refine ⟨_, rfl, iteF ?_⟩
        have k02 := k1.trans s12
        generalize upd H2 D (.dK es) = H4 at k02
        have hx4 := k02 _ _ hx
        have oN4 := k02 _ _ oN
        have ln : (nodesL arcs).length ≤ 2 * arcs.length := by
          have z := nodesF_len arcs []
          simp only [List.length_nil] at z
          unfold nodesL
          omega
        refine ⟨_, rfl, x, C, dx, _, _, rfl, hx4, S.cl, S.nN, rfl, Nd, rfl, ⟨_, SqL.of oN4⟩, lc_gen (((nodesL arcs).map fun n => decide (inwL (fun x => intV (vv x)) [n] arcs = 0)).map V.bl) (by rw [List.length_map, List.length_map]; omega) (fun i H' s lt => ⟨_, _, SqL.of (s _ _ oN4), List.getElem?_eq_getElem (by rw [List.length_map, List.length_map] at lt; rw [List.length_map]; exact lt)⟩) (fun H' s => ⟨_, SqL.of (s _ _ oN4), by rw [List.length_map, List.length_map, List.length_map]; exact Nat.le_refl _⟩) ?_ ?_⟩
        · rintro i y b0 H5 H6 Cn Nn eb s5 ⟨rfl, ev⟩ yes
          have ev := ev _ (SqL.of (s5 _ _ oN4))
          rw [List.getElem?_map] at ev
          obtain ⟨n, en, rfl⟩ := Option.map_eq_some_iff.mp ev
          rw [List.getElem?_map, List.getElem?_map, en] at eb
          obtain rfl := Option.some.inj eb
          have hx6 := s5 _ _ hx4
          refine ⟨rfl, ?_⟩
          refine ⟨_, rfl, x, C, dx, _, _, rfl, hx6, S.cl, S.nA, rfl, _, rfl, x, C, dx, _, _, rfl, hx6, S.cl, S.nA, rfl, _, rfl, _, rfl, (by show 1 ≤ sizeLine; decide), fun t nt => ?_⟩
          have kt := same_new (o := .lst [.str n]) nt
          have k06 := (k02.trans s5).trans kt
          have at6 := PyD.kp at0 (A' := A0) fun b o a e => ⟨a, k06 _ _ e⟩
          refine ⟨D, d, t, arcs, A0, kvs, [n], fun x => intV (vv x), rfl, at6, by omega, k06 _ _ o, dD, fun e he => ?_, upd_same, by show 1 < 1000; decide, fun H7 k7 => ?_⟩
          · obtain ⟨h1, h2⟩ := hv e he
            rw [h1]
            have cb := List.all_eq_true.mp ca e he
            show some (vv e.1) = some (V.int (intV (vv e.1)))
            cases vq : vv e.1 with
            | int k => rfl
            | _ => rw [vq] at cb; cases cb
          · have ed : decide (V.int (inwL (fun x => intV (vv x)) [n] arcs) = V.int 0) = decide (inwL (fun x => intV (vv x)) [n] arcs = 0) := decide_eq_decide.mpr ⟨fun h => V.int.inj h, fun h => congrArg V.int h⟩
            refine ⟨rfl, ?_⟩
            rw [ed]
            exact yes _ (kt.trans k7)
        · intro H5 q2 nq2 oq2 s5
          refine ⟨q2, _, rfl, SqL.of oq2, ?_⟩
          have z := hq _ (k02.trans s5)
          have e : valsB vv arcs = ((nodesL arcs).map fun n => decide (inwL (fun x => intV (vv x)) [n] arcs = 0)).all id := by
            unfold valsB
            rw [ca, List.all_map]
            rfl
          rw [e] at z
          exact z
end
end L2.TB
/-! is_pair, _is_arc of anything -/
namespace L2.TB
open PySem PySem.Spec PyProof.Rows
inductive NmTh (K : PySem.W.Frag) (H : Hp) : V → Bool → Prop
  | str {x : Str} (short : x.cps.toList.length < 1000) : NmTh K H (.str x) (nmB x)
  | no {v : V} (h : NoStr K H v) : NmTh K H v false
theorem NmTh.same {K : PySem.W.Frag} {H H' : Hp} {v : V} {b : Bool} (h : NmTh K H v b) (s : Same H H') : NmTh K H' v b := by
  cases h with
  | str sh => exact .str sh
  | no h => exact .no (h.same s)
inductive ArcTh (K : PySem.W.Frag) (H : Hp) : V → Bool → Prop
  | no {v : V} (h : NoSeq K H v) : ArcTh K H v false
  | len {a : Addr} {xs : List V} (h : SqA K H a xs) (n : xs.length ≠ 2) (sh : xs.length < 1000) : ArcTh K H (.ref a) false
  | two {a : Addr} {u v : V} {b c : Bool} (h : SqA K H a [u, v]) (h1 : NmTh K H u b) (h2 : NmTh K H v c) : ArcTh K H (.ref a) (b && c)
theorem ArcTh.same {K : PySem.W.Frag} {H H' : Hp} {v : V} {b : Bool} (h : ArcTh K H v b) (s : Same H H') : ArcTh K H' v b := by
  cases h with
  | no h => exact .no (h.same s)
  | len h n sh => exact .len (h.same s) n sh
  | two h h1 h2 => exact .two (h.same s) (h1.same s) (h2.same s)
def spPairG (K : PySem.W.Frag) : Sp := fun vs H Q _ => ∃ v : V, vs = [v] ∧ ((NoSeq K H v ∧ ∀ H', Same H H' → Q (.bl false) H') ∨ ∃ a xs, v = .ref a ∧ SqA K H a xs ∧ xs.length < 1000 ∧ ∀ H', Same H H' → Q (.bl (decide (xs.length = 2))) H')
theorem scIsPair : FnScope ["thing"] ["thing"] (defScope sIsPair) := ⟨rfl, rfl, rfl, by decide +kernel, rfl, by decide +kernel, by decide +kernel⟩
def spArcG (K : PySem.W.Frag) : Sp := fun vs H Q _ => ∃ (v : V) (b : Bool), vs = [v] ∧ ArcTh K H v b ∧ ∀ H', Same H H' → Q (.bl b) H'
theorem scIsArc : FnScope ["thing"] ["thing"] (defScope sIsArc) := ⟨rfl, rfl, rfl, by decide +kernel, rfl, by decide +kernel, by decide +kernel⟩
section
variable {P : Program} {w : World} {K : PySem.W.Frag} {mg : Str → Option Value} {base : Heap} {f fL fP fN : Addr} {fd fdL fdP fdN : FuncData}
theorem ok_pairG (F : Fun K "is_pair" "is_pair" sIsPair f fd) (FL : Fun K "is_list" "is_list" sIsList fL fdL) (gL : mg "is_list" = some (.ref fL)) (nI : mg "isinstance" = none) (nL : mg "list" = none) (nT : mg "tuple" = none) (nN : mg "len" = none) : FnOk P w K mg base CX0 2 f fd ["thing"] (spPairG K) := by
  have GL : FnOk P w K mg base CX0 1 fL fdL ["thing"] (spIsListG K) := ok_isListG FL nI nL nT
  have bL := FL.binds (ps := ["thing"]) fun _ _ _ _ _ _ us hl => match us, hl with | [_], _ => rfl
  refine F.ok scIsPair (fun vs H Q E h => by obtain ⟨v, e, _⟩ := h; rw [e]; rfl) fun cdv A outer s H vs Q E hr hsp => ?_
  obtain ⟨v, rfl, hq⟩ := hsp
  refine ⟨_, pss_one (ps_ret (pe_and (pe_call GL hr rfl gL FL.kp bL .nil pass0 (pa_cons (pv 0) pa_nil)) (pe_one (pe_cmpR op_eq (pe_callB call_len rfl nN boot_len (pa_cons (pv 0) pa_nil)) pe_int (nomark _))))), ?_⟩
  rcases hq with ⟨h, hq⟩ | ⟨a, xs, rfl, h, sh, hq⟩
  · exact ⟨_, rfl, v, rfl, .inr ⟨h, fun H1 k1 => ⟨_, rfl, iteF (hq H1 k1)⟩⟩⟩
  · refine ⟨_, rfl, _, rfl, .inl ⟨⟨a, xs, rfl, h⟩, fun H1 k1 => ⟨_, rfl, iteT ?_⟩⟩⟩
    have ed : decide (V.int (xs.length : Nat) = V.int 2) = decide (xs.length = 2) := decide_eq_decide.mpr ⟨fun h => by have := V.int.inj h; omega, fun h => by rw [h]; rfl⟩
    have z := hq H1 k1
    rw [← ed] at z
    refine ⟨_, rfl, .ref a, xs.length, rfl, ?_, rfl, z⟩
    rcases h.same k1 with e | e
    · exact .inl ⟨_, SqL.of e, rfl⟩
    · exact .inr ⟨_, SqT.of e, rfl⟩
theorem ok_arcG (F : Fun K "_is_arc" "_is_arc" sIsArc f fd) (FP : Fun K "is_pair" "is_pair" sIsPair fP fdP) (gP : mg "is_pair" = some (.ref fP)) (GP : FnOk P w K mg base CX0 2 fP fdP ["thing"] (spPairG K)) (FN : Fun K "is_name" "is_name" sIsName fN fdN) (gN : mg "is_name" = some (.ref fN)) (GN : FnOk P w K mg base CX0 1 fN fdN ["thing"] (spIsNameG K)) : FnOk P w K mg base CX0 3 f fd ["thing"] (spArcG K) := by
  have bP := FP.binds (ps := ["thing"]) fun _ _ _ _ _ _ us hl => match us, hl with | [_], _ => rfl
  have bN := FN.binds (ps := ["thing"]) fun _ _ _ _ _ _ us hl => match us, hl with | [_], _ => rfl
  refine F.ok scIsArc (fun vs H Q E h => by obtain ⟨v, b, e, _⟩ := h; rw [e]; rfl) fun cdv A outer s H vs Q E hr hsp => ?_
  obtain ⟨v, b, rfl, ta, hq⟩ := hsp
  refine ⟨_, pss_one (ps_ret (pe_and (pe_call GP hr rfl gP FP.kp bP .nil pass0 (pa_cons (pv 0) pa_nil)) (pe_and (pe_call GN (hr.mono (by decide)) rfl gN FN.kp bN .nil pass0 (pa_cons (pe_ix (r := rIx K) ix_seq (pv 0) pe_int (fun _ _ => rfl)) pa_nil)) (pe_one (pe_call GN (hr.mono (by decide)) rfl gN FN.kp bN .nil pass0 (pa_cons (pe_ix (r := rIx K) ix_seq (pv 0) pe_int (fun _ _ => rfl)) pa_nil)))))), ?_⟩
  cases ta with
  | no h => exact ⟨_, rfl, v, rfl, .inl ⟨h, fun H1 k1 => ⟨_, rfl, iteF (hq H1 k1)⟩⟩⟩
  | @len a xs h n sh =>
    refine ⟨_, rfl, _, rfl, .inr ⟨a, xs, rfl, h, sh, fun H1 k1 => ?_⟩⟩
    rw [decide_eq_false n]
    exact ⟨_, rfl, iteF (hq H1 k1)⟩
  | @two a u v b c h h1 h2 =>
    refine ⟨_, rfl, _, rfl, .inr ⟨a, _, rfl, h, by show 2 < 1000; decide, fun H1 k1 => ?_⟩⟩
    refine ⟨_, rfl, iteT ?_⟩
    have ixa : ∀ {H' : Hp} {j : Int} {y : V} {R : VK}, Same H H' → atI [u, v] j = some y → R y H' → rIx K (.ref a) (.int j) H' R := fun s e r => by
      rcases h.same s with z | z
      · exact .inl ⟨a, _, _, _, rfl, rfl, SqL.of z, e, r⟩
      · exact .inr (.inl ⟨a, _, _, _, rfl, rfl, SqT.of z, e, r⟩)
    refine ⟨_, rfl, ixa k1 rfl ?_⟩
    have rest : ∀ H2, Same H H2 → NmTh K H2 v c := fun H2 s => h2.same s
    cases h1.same k1 with
    | @no u h =>
      refine ⟨_, rfl, .inr ⟨h, _, rfl, iteF ?_⟩⟩
      have z := hq H1 k1
      rw [Bool.false_and] at z
      exact z
    | @str x sh =>
      refine ⟨_, rfl, .inl ⟨x, rfl, sh, fun H2 k2 => ?_⟩⟩
      have k02 := k1.trans k2
      cases hb : nmB x with
      | false =>
        rw [hb] at hq
        have z := hq H2 k02
        rw [Bool.false_and] at z
        exact ⟨_, rfl, iteF z⟩
      | true =>
        rw [hb] at hq
        refine ⟨_, rfl, iteT ⟨_, rfl, ixa k02 rfl ?_⟩⟩
        cases rest H2 k02 with
        | @no v h =>
          have z := hq H2 k02
          rw [Bool.and_false] at z
          exact ⟨_, rfl, .inr ⟨h, z⟩⟩
        | @str y sh2 =>
          refine ⟨_, rfl, .inl ⟨y, rfl, sh2, fun H3 k3 => ?_⟩⟩
          have z := hq H3 (k02.trans k3)
          rw [Bool.true_and] at z
          exact z
end
end L2.TB
/-! steps along some arcs, back, either way -/
namespace L2.TB
open PySem PySem.Spec PyProof.Rows
def onS (e : Str × ArT) : StpT := (e.1, 1, e.2.1, e.2.2)
def bkS (e : Str × ArT) : StpT := (e.1, -1, e.2.2, e.2.1)
def eiS (L : NtT) : List StpT := L.map onS ++ L.map bkS
def eithE (L : NtT) : List ArT := (eiS L).map edgS
/-- steps made of some arcs -/
def spStp (sf : Str × ArT → StpT) : Sp := fun vs H Q _ => ∃ (D q : Addr) (arcs L : NtT) (A : Addr → Prop), vs = [.ref D, .ref q] ∧ PyD.at_ A H (.ref D) (Dc.mk arcs) ∧ H q = some (.lst ((L.map (·.1)).map V.str)) ∧ (∀ e ∈ L, e ∈ arcs) ∧ L.length < 1000 ∧ ∀ H' r ts, H r = none → H' r = some (.lst (ts.map V.ref)) → Paired (StepA H') ts (L.map sf) → Same H H' → Q (.ref r) H'
def spEith : Sp := fun vs H Q _ => ∃ (D q : Addr) (arcs L : NtT) (A : Addr → Prop), vs = [.ref D, .ref q] ∧ PyD.at_ A H (.ref D) (Dc.mk arcs) ∧ H q = some (.lst ((L.map (·.1)).map V.str)) ∧ (∀ e ∈ L, e ∈ arcs) ∧ L.length < 400 ∧ ∀ H' r ts, H r = none → H' r = some (.lst (ts.map V.ref)) → Paired (StepA H') ts (eiS L) → Same H H' → Q (.ref r) H'
theorem scBk : FnScope NOw ["arcs", "names"] (defScope sBack) := ⟨rfl, rfl, rfl, by decide +kernel, rfl, by decide +kernel, by decide +kernel⟩
theorem scEi : FnScope ["arcs", "names"] ["arcs", "names"] (defScope sEither) := ⟨rfl, rfl, rfl, by decide +kernel, rfl, by decide +kernel, by decide +kernel⟩
theorem step_map {α : Type} {H : Hp} {f : α → StpT} {ts : List Addr} {L : List α} (h : Paired (fun t a => StepA H t (f a)) ts L) : Paired (StepA H) ts (L.map f) := by
  induction h with
  | nil => exact .nil
  | cons h _ ih => exact .cons h ih
/-- what arcs tell of one of them -/
theorem arc_at {A : Addr → Prop} {H : Hp} {D : Addr} {arcs : NtT} (h : PyD.at_ A H (.ref D) (Dc.mk arcs)) {e : Str × ArT} (he : e ∈ arcs) : ∃ es t, H D = some (.dK es) ∧ valV es (Sum.inr e.1) = some (.ref t) ∧ A t ∧ H t = some (.tup [.str e.2.1, .str e.2.2]) := by
  obtain ⟨D', es, e1, aD, oD, rnd, pr⟩ := h
  obtain rfl := V.ref.inj e1
  obtain ⟨v, ev, t, y, z, hv, at_, ot, hy, hz⟩ := val_atD pr (lk_mem rnd he)
  have hy : y = .str e.2.1 := hy
  have hz : z = .str e.2.2 := hz
  subst hv hy hz
  exact ⟨es, t, oD, ev, at_, ot⟩
section
variable {P : Program} {w : World} {K : PySem.W.Frag} {mg : Str → Option Value} {base : Heap} {f fO fB : Addr} {fd fdO fdB : FuncData}
theorem ok_onL (F : Fun K "onward" "onward" sOnward f fd) : FnOk P w K mg base CX0 1 f fd ["arcs", "names"] (spStp onS) := by
  refine F.ok scOnw (fun vs H Q E h => by obtain ⟨D, q, arcs, L, A, e, _⟩ := h; rw [e]; rfl) fun cdv A outer s H vs Q E hr hsp => ?_
  obtain ⟨D, q, arcs, L, A0, rfl, at_, oq, sub, sh, hq⟩ := hsp
  have nd := scOnw.nd
  have hu := hu_of hr
  refine ⟨_, pss_one (ps_ret (pe_lc (own := [("name", 2)]) (tt := tYes) (g := gName 2) (te := tTup (tCons (tVar 2) (tCons (tC (.int 1)) (tCons (tOp (rIx K) (tDGet (tVar 0) (tVar 2)) (tC (.int 0))) (tCons (tOp (rIx K) (tDGet (tVar 0) (tVar 2)) (tC (.int 1))) tNil))))) rfl nd (pi_list (pv 1)) (blkOk_by (N := NOw) (sc := defScope sOnward) (by decide +kernel))
    (fun _ _ _ _ _ => pg_name (i := 2) nd rfl (Or.inl rfl)) (fun _ _ _ _ _ => pts_nil) (fun _ _ _ _ _ => pe_tup (pa_cons (pv 2) (pa_cons (pe_int) (pa_cons (pe_ix (r := rIx K) ix_seq (pe_dget hu (pv 0) (pv 2) (fun _ _ => rfl)) pe_int (fun _ _ => rfl)) (pa_cons (pe_ix (r := rIx K) ix_seq (pe_dget hu (pv 0) (pv 2) (fun _ _ => rfl)) pe_int (fun _ _ => rfl)) pa_nil))))))), ?_⟩
  refine ⟨_, rfl, q, rfl, ⟨_, SqL.of oq⟩, ?_⟩
  have ll : ((L.map (·.1)).map V.str).length = L.length := by rw [List.length_map, List.length_map]
  refine lc_made L.length (by omega) (fun i H' s lt => ⟨_, _, SqL.of (s _ _ oq), List.getElem?_eq_getElem (by rw [ll]; exact lt)⟩) (fun H' s => ⟨_, SqL.of (s _ _ oq), by rw [ll]; exact Nat.le_refl _⟩)
    (fun i y H' => ∃ t e, y = .ref t ∧ L[i]? = some e ∧ StepA H' t (onS e)) (fun i y H1 H2 C l ⟨t, e, ey, ea, st⟩ hC keep => ⟨t, e, ey, ea, keep _ _ (fun z => by unfold StepA at st; rw [z, hC] at st; cases st) st⟩) ?_ ?_
  · rintro i y H2 H3 Cn Nn lt s2 ⟨rfl, ev⟩ yes
    have ev := ev _ (SqL.of (s2 _ _ oq))
    rw [List.getElem?_map, List.getElem?_map] at ev
    obtain ⟨n, en, rfl⟩ := Option.map_eq_some_iff.mp ev
    obtain ⟨e, ee, rfl⟩ := Option.map_eq_some_iff.mp en
    obtain ⟨es, t0, oD, ev0, _, ot⟩ := arc_at at_ (sub e (List.mem_of_getElem? ee))
    have op3 := s2 _ _ ot
    have dg : DGet H3 D (.str e.1) (some (.ref t0)) := .inl ⟨es, Sum.inr e.1, .inl (s2 _ _ oD), rfl, ev0.symm⟩
    refine ⟨rfl, ?_⟩
    refine ⟨_, rfl, _, rfl, _, rfl, D, _, rfl, dg, .inr (.inl ⟨t0, _, _, _, rfl, rfl, SqT.of op3, rfl, ?_⟩)⟩
    refine ⟨_, rfl, _, rfl, D, _, rfl, dg, .inr (.inl ⟨t0, _, _, _, rfl, rfl, SqT.of op3, rfl, ?_⟩)⟩
    exact ⟨(by show 4 ≤ sizeLine; decide), fun t nt => yes _ _ ⟨t, e, rfl, ee, upd_same⟩ (same_new nt)⟩
  · intro H2 r ys nr or ly ry s2
    obtain ⟨ts, rfl, pt⟩ := addrs_of (H := H2) (P := fun i t => ∃ e, L[i]? = some e ∧ StepA H2 t (onS e)) ys 0 fun j y ey => by
      obtain ⟨t, e, rfl, h1, h2⟩ := ry j y ey
      exact ⟨t, rfl, e, by rw [Nat.zero_add]; exact h1, h2⟩
    rw [List.length_map] at ly
    refine hq _ r ts nr or (step_map (paired_of _ _ ly fun i t e et ee => ?_)) s2
    obtain ⟨e', ee', st⟩ := pt i t et
    rw [Nat.zero_add, ee] at ee'
    obtain rfl := Option.some.inj ee'
    exact st
theorem ok_bkL (F : Fun K "back" "back" sBack f fd) : FnOk P w K mg base CX0 1 f fd ["arcs", "names"] (spStp bkS) := by
  refine F.ok scBk (fun vs H Q E h => by obtain ⟨D, q, arcs, L, A, e, _⟩ := h; rw [e]; rfl) fun cdv A outer s H vs Q E hr hsp => ?_
  obtain ⟨D, q, arcs, L, A0, rfl, at_, oq, sub, sh, hq⟩ := hsp
  have nd := scBk.nd
  have hu := hu_of hr
  refine ⟨_, pss_one (ps_ret (pe_lc (own := [("name", 2)]) (tt := tYes) (g := gName 2) (te := tTup (tCons (tVar 2) (tCons (tUn (rU fun i => .int (-i)) (tC (.int 1))) (tCons (tOp (rIx K) (tDGet (tVar 0) (tVar 2)) (tC (.int 1))) (tCons (tOp (rIx K) (tDGet (tVar 0) (tVar 2)) (tC (.int 0))) tNil))))) rfl nd (pi_list (pv 1)) (blkOk_by (N := NOw) (sc := defScope sBack) (by decide +kernel))
    (fun _ _ _ _ _ => pg_name (i := 2) nd rfl (Or.inl rfl)) (fun _ _ _ _ _ => pts_nil) (fun _ _ _ _ _ => pe_tup (pa_cons (pv 2) (pa_cons (pe_un un_neg pe_int) (pa_cons (pe_ix (r := rIx K) ix_seq (pe_dget hu (pv 0) (pv 2) (fun _ _ => rfl)) pe_int (fun _ _ => rfl)) (pa_cons (pe_ix (r := rIx K) ix_seq (pe_dget hu (pv 0) (pv 2) (fun _ _ => rfl)) pe_int (fun _ _ => rfl)) pa_nil))))))), ?_⟩
  refine ⟨_, rfl, q, rfl, ⟨_, SqL.of oq⟩, ?_⟩
  have ll : ((L.map (·.1)).map V.str).length = L.length := by rw [List.length_map, List.length_map]
  refine lc_made L.length (by omega) (fun i H' s lt => ⟨_, _, SqL.of (s _ _ oq), List.getElem?_eq_getElem (by rw [ll]; exact lt)⟩) (fun H' s => ⟨_, SqL.of (s _ _ oq), by rw [ll]; exact Nat.le_refl _⟩)
    (fun i y H' => ∃ t e, y = .ref t ∧ L[i]? = some e ∧ StepA H' t (bkS e)) (fun i y H1 H2 C l ⟨t, e, ey, ea, st⟩ hC keep => ⟨t, e, ey, ea, keep _ _ (fun z => by unfold StepA at st; rw [z, hC] at st; cases st) st⟩) ?_ ?_
  · rintro i y H2 H3 Cn Nn lt s2 ⟨rfl, ev⟩ yes
    have ev := ev _ (SqL.of (s2 _ _ oq))
    rw [List.getElem?_map, List.getElem?_map] at ev
    obtain ⟨n, en, rfl⟩ := Option.map_eq_some_iff.mp ev
    obtain ⟨e, ee, rfl⟩ := Option.map_eq_some_iff.mp en
    obtain ⟨es, t0, oD, ev0, _, ot⟩ := arc_at at_ (sub e (List.mem_of_getElem? ee))
    have op3 := s2 _ _ ot
    have dg : DGet H3 D (.str e.1) (some (.ref t0)) := .inl ⟨es, Sum.inr e.1, .inl (s2 _ _ oD), rfl, ev0.symm⟩
    refine ⟨rfl, ?_⟩
    refine ⟨_, rfl, _, rfl, _, rfl, _, rfl, D, _, rfl, dg, .inr (.inl ⟨t0, _, _, _, rfl, rfl, SqT.of op3, rfl, ?_⟩)⟩
    refine ⟨_, rfl, _, rfl, D, _, rfl, dg, .inr (.inl ⟨t0, _, _, _, rfl, rfl, SqT.of op3, rfl, ?_⟩)⟩
    exact ⟨(by show 4 ≤ sizeLine; decide), fun t nt => yes _ _ ⟨t, e, rfl, ee, upd_same⟩ (same_new nt)⟩
  · intro H2 r ys nr or ly ry s2
    obtain ⟨ts, rfl, pt⟩ := addrs_of (H := H2) (P := fun i t => ∃ e, L[i]? = some e ∧ StepA H2 t (bkS e)) ys 0 fun j y ey => by
      obtain ⟨t, e, rfl, h1, h2⟩ := ry j y ey
      exact ⟨t, rfl, e, by rw [Nat.zero_add]; exact h1, h2⟩
    rw [List.length_map] at ly
    refine hq _ r ts nr or (step_map (paired_of _ _ ly fun i t e et ee => ?_)) s2
    obtain ⟨e', ee', st⟩ := pt i t et
    rw [Nat.zero_add, ee] at ee'
    obtain rfl := Option.some.inj ee'
    exact st
theorem ok_eith (F : Fun K "either_way" "either_way" sEither f fd) (FO : Fun K "onward" "onward" sOnward fO fdO) (gO : mg "onward" = some (.ref fO)) (FB : Fun K "back" "back" sBack fB fdB) (gB : mg "back" = some (.ref fB)) : FnOk P w K mg base CX0 2 f fd ["arcs", "names"] spEith := by
  have GO : FnOk P w K mg base CX0 1 fO fdO ["arcs", "names"] (spStp onS) := ok_onL FO
  have bO := FO.binds (ps := ["arcs", "names"]) fun _ _ _ _ _ _ us hl => match us, hl with | [_, _], _ => rfl
  have GB : FnOk P w K mg base CX0 1 fB fdB ["arcs", "names"] (spStp bkS) := ok_bkL FB
  have bB := FB.binds (ps := ["arcs", "names"]) fun _ _ _ _ _ _ us hl => match us, hl with | [_, _], _ => rfl
  refine F.ok scEi (fun vs H Q E h => by obtain ⟨D, q, arcs, L, A, e, _⟩ := h; rw [e]; rfl) fun cdv A outer s H vs Q E hr hsp => ?_
  obtain ⟨D, q, arcs, L, A0, rfl, at_, oq, sub, sh, hq⟩ := hsp
  refine ⟨_, pss_one (ps_ret (pe_op op_cat (pe_call GO hr rfl gO FO.kp bO .nil pass0 (pa_cons (pv 0) (pa_cons (pv 1) pa_nil))) (pe_call GB hr rfl gB FB.kp bB .nil pass0 (pa_cons (pv 0) (pa_cons (pv 1) pa_nil))))), ?_⟩
  refine ⟨_, rfl, _, rfl, D, q, arcs, L, A0, rfl, at_, oq, sub, by omega, fun H1 r1 ts1 n1 o1 p1 k1 => ?_⟩
  refine ⟨_, rfl, _, rfl, D, q, arcs, L, A0, rfl, PyD.kp at_ (fun b o a e => ⟨a, k1 _ _ e⟩), k1 _ _ oq, sub, by omega, fun H2 r2 ts2 n2 o2 p2 k2 => ?_⟩
  have l1 := Paired.length p1
  have l2 := Paired.length p2
  rw [List.length_map] at l1 l2
  refine ⟨r1, r2, _, _, rfl, rfl, k2 _ _ o1, o2, by rw [List.length_map, List.length_map, sizeLine_eq]; omega, fun r nr => ?_⟩
  have k3 := same_new (o := .lst (ts1.map V.ref ++ ts2.map V.ref)) nr
  refine hq _ r (ts1 ++ ts2) ?_ (by rw [upd_same, List.map_append]) (paired_appR (Paired.mapP p1 fun t s h => (k2.trans k3) _ _ h) (Paired.mapP p2 fun t s h => k3 _ _ h)) ((k1.trans k2).trans k3)
  cases z : H r with
  | none => rfl
  | some o => rw [(k1.trans k2) _ _ z] at nr; cases nr
end
end L2.TB
/-! way_to; is_joined; ring_through -/
namespace L2.TB
open PySem PySem.Spec PyProof.Rows
def spWayTo (K : PySem.W.Frag) : Sp := fun vs H Q _ => ∃ (FD : Addr) (n b : Str) (es : List (Key × V)) (F : FoT) (L : List StpT), vs = [.ref FD, .str n] ∧ H FD = some (.dK es) ∧ Paired (FE H) es F ∧ FOk L b F ∧ n ∈ F.map (·.1) ∧ F.length < 1000 ∧
  ∀ H' q ts W, H q = none → H' q = some (.lst ((ts : List Addr).map V.ref)) → Paired (StepA H') ts W → (∀ s ∈ W, s ∈ L) → W.length < F.length → Same H H' → Q (.ref q) H'
abbrev NWt : List Str := ["found", "node", "way"]
theorem scWt : FnScope NWt ["found", "node"] (defScope sWayTo) := ⟨rfl, rfl, rfl, by decide +kernel, rfl, by decide +kernel, by decide +kernel⟩
def FV (H : Hp) (v : V) : Option StpT → Prop
  | none => v = .non
  | some s => ∃ t, v = .ref t ∧ StepA H t s
theorem fe_val {H : Hp} {es : List (Key × V)} {F : FoT} (h : Paired (FE H) es F) (nd : (F.map (·.1)).Nodup) {i : Nat} {n : Str} {o : Option StpT} (e : F[i]? = some (n, o)) : ∃ v, valV es (Sum.inr n) = some v ∧ FV H v o := by
  have ek := fe_keys h
  have lt := (List.getElem?_eq_some_iff.mp e).1
  have le : i < es.length := by rw [Paired.length h]; exact lt
  obtain ⟨p, ep, hp⟩ := paired_get h (List.getElem?_eq_getElem le)
  rw [e] at ep
  obtain rfl := Option.some.inj ep
  have ndes : (es.map (·.1)).Nodup := by rw [ek]; exact nd_inr nd
  have z := valV_atN (k := es[i].1) (x := es[i].2) ndes (List.getElem?_eq_getElem le)
  refine ⟨es[i].2, ?_, ?_⟩
  · rw [← z, hp.1]
  · cases o with
    | none => exact hp.2
    | some s => exact hp.2
section
variable {P : Program} {w : World} {K : PySem.W.Frag} {mg : Str → Option Value} {base : Heap} {f : Addr} {fd : FuncData}
theorem ok_wayTo (F : Fun K "way_to" "way_to" sWayTo f fd) : FnOk P w K mg base CX0 1 f fd ["found", "node"] (spWayTo K) := by
  refine F.ok scWt (fun vs H Q E h => by obtain ⟨FD, n, b, es, F, L, e, _⟩ := h; rw [e]; rfl) fun cdv A outer s H vs Q E hr hsp => ?_
  obtain ⟨FD, n, b, es, F, L, rfl, oF, pF, FO, hn, sh, hq⟩ := hsp
  have nd := scWt.nd
  have hu := hu_of hr
  refine ⟨_, pss_cons (ps_set (i := 2) nd rfl (Or.inl rfl) (pe_lst pa_nil))
    (pss_cons (ps_while PassesOwn.never (pt_cmp (pc_notN (pe_dget hu (pv 0) (pv 1) (fun _ _ => rfl))))
      (pss_cons (ps_expr (pe_bm PySem.F.plainAttrs_list PySem.F.slot_list_append PySem.F.type_list_append mt_append (pv 2) (pa_cons (pe_dget hu (pv 0) (pv 1) (fun _ _ => rfl)) pa_nil)))
      (pss_one (ps_set (i := 1) nd rfl (Or.inl rfl) (pe_ix (r := rIx K) ix_seq (pe_dget hu (pv 0) (pv 1) (fun _ _ => rfl)) pe_int (fun _ _ => rfl))))))
    (pss_one (ps_ret (pe_revL (pv 2))))), ?_⟩
  refine ⟨Nat.zero_le _, fun WD nWD => ?_⟩
  have kW := same_new (o := .lst []) nWD
  obtain ⟨p, hp, hp2⟩ := List.mem_map.mp hn
  obtain ⟨i0, hi0⟩ := List.getElem?_of_mem hp
  have li0 := (List.getElem?_eq_some_iff.mp hi0).1
  refine ⟨fun m σ Hc => ∃ (i : Nat) (n' : Str) (o : Option StpT) (ts : List Addr) (W : List StpT), σ = [some (.ref FD), some (.str n'), some (.ref WD)] ∧ F[i]? = some (n', o) ∧ Hc WD = some (.lst (ts.map V.ref)) ∧ Paired (StepA H) ts W ∧ (∀ s ∈ W, s ∈ L) ∧ W.length + i < F.length ∧ Same H Hc ∧ m = i,
    ⟨_, i0, n, p.2, [], [], rfl, by rw [hi0, ← hp2], upd_same, .nil, fun s hs => (by cases hs), (by simpa using li0), kW, rfl⟩, ?_⟩
  rintro m σ Hc ⟨i, n', o, ts, W, rfl, ei, oW, pW, sW, lW, kc, rfl⟩
  obtain ⟨v, ev, hv⟩ := fe_val pF FO.nd ei
  have dg : DGet Hc FD (.str n') (some v) := .inl ⟨es, Sum.inr n', .inl (kc _ _ oF), rfl, ev.symm⟩
  have ltW := Paired.length pW
  refine ⟨_, rfl, _, rfl, FD, _, rfl, dg, ?_⟩
  cases o with
  | none =>
    obtain rfl : v = .non := hv
    refine ⟨_, rfl, iteF ⟨_, rfl, WD, _, rfl, SqL.of oW, fun q nq => ?_⟩⟩
    have kq := same_new (o := .lst ((ts.map V.ref).reverse)) nq
    refine hq _ q ts.reverse W.reverse ?_ (by rw [upd_same, List.map_reverse]) (paired_rev (Paired.mapP pW fun t s h => kq _ _ (kc _ _ h))) (fun s hs => sW s (List.mem_reverse.mp hs)) (by rw [List.length_reverse]; omega) (kc.trans kq)
    cases z : H q with
    | none => rfl
    | some o => rw [kc _ _ z] at nq; cases nq
  | some x =>
    obtain ⟨t, rfl, ot⟩ := hv
    refine ⟨_, rfl, iteT ⟨fun σ' H' => ∃ m', m' < m ∧ ∃ (i : Nat) (n' : Str) (o : Option StpT) (ts : List Addr) (W : List StpT), σ' = [some (.ref FD), some (.str n'), some (.ref WD)] ∧ F[i]? = some (n', o) ∧ H' WD = some (.lst (ts.map V.ref)) ∧ Paired (StepA H) ts W ∧ (∀ s ∈ W, s ∈ L) ∧ W.length + i < F.length ∧ Same H H' ∧ m' = i, fun σ' H' h => h, ?_⟩⟩
    have i0' : 0 < m := by
      refine Nat.pos_of_ne_zero fun z => ?_
      rw [z, FO.hd] at ei
      cases ei
    obtain ⟨s', es', hs, _, j, o', lj, ej⟩ := FO.st m n' _ ei i0'
    obtain rfl := Option.some.inj es'
    refine ⟨_, rfl, .inl ⟨rfl, _, SqL.of oW⟩, _, rfl, _, rfl, FD, _, rfl, dg, WD, _, _, rfl, rfl, oW, (by rw [List.length_map, sizeLine_eq]; omega), ?_⟩
    have up : ∀ b' o, b' ≠ WD → Hc b' = some o → upd Hc WD (.lst (ts.map V.ref ++ [.ref t])) b' = some o := fun b' o nb h => by rw [upd_ne nb]; exact h
    have oW2 : upd Hc WD (.lst (ts.map V.ref ++ [.ref t])) WD = some (.lst ((ts ++ [t]).map V.ref)) := by rw [upd_same, List.map_append]; rfl
    have k4 : Same H (upd Hc WD (.lst (ts.map V.ref ++ [.ref t]))) := fun b' o h => up _ _ (ne_of_none h nWD) (kc _ _ h)
    generalize upd Hc WD (.lst (ts.map V.ref ++ [.ref t])) = H4 at oW2 k4
    have dg4 : DGet H4 FD (.str n') (some (.ref t)) := .inl ⟨es, Sum.inr n', .inl (k4 _ _ oF), rfl, ev.symm⟩
    refine ⟨_, rfl, _, rfl, FD, _, rfl, dg4, .inr (.inl ⟨t, _, _, _, rfl, rfl, SqT.of (k4 _ _ ot), rfl, ?_⟩)⟩
    exact ⟨j, lj, j, _, o', ts ++ [t], W ++ [x], rfl, ej, oW2, paired_appR pW (.cons ot .nil), fun s hs2 => (List.mem_append.mp hs2).elim (sW s) fun z => by rw [List.mem_singleton.mp z]; exact hs, by rw [List.length_append]; show W.length + 1 + j < _; omega, k4, rfl⟩
end
end L2.TB
/-! Net.__init__ -/
namespace L2.TB
open PySem PySem.Spec PyProof.Rows
def HandArc (K : PySem.W.Frag) (A : Addr → Prop) (H : Hp) (e : Key × V) (q : Str × ArT) : Prop := e.1 = Sum.inr q.1 ∧ ∃ p, e.2 = .ref p ∧ A p ∧ SqA K H p [.str q.2.1, .str q.2.2]
theorem HandArc.keep {K : PySem.W.Frag} {A A' : Addr → Prop} {H H' : Hp} {e : Key × V} {q : Str × ArT} (h : HandArc K A H e q) (k : ∀ b o, A b → H b = some o → A' b ∧ H' b = some o) : HandArc K A' H' e q := by
  obtain ⟨h1, p, h2, a, s⟩ := h
  have hp : ∃ o, H p = some o := s.elim (fun h => ⟨_, h⟩) (fun h => ⟨_, h⟩)
  obtain ⟨o, ho⟩ := hp
  exact ⟨h1, p, h2, (k _ _ a ho).1, s.kp fun o h => (k _ _ a h).2⟩
theorem ha_keys {K : PySem.W.Frag} {A : Addr → Prop} {H : Hp} {es : List (Key × V)} {arcs : NtT} (h : Paired (HandArc K A H) es arcs) : es.map (·.1) = (arcs.map (·.1)).map Sum.inr := by
  induction h with
  | nil => rfl
  | cons h _ ih => rw [List.map_cons, List.map_cons, List.map_cons, ih, h.1]
theorem nm_len {x : Str} (h : NmOk x) : x.cps.toList.length < 1000 := by
  have := h.2.1
  omega
def spNInit (K : PySem.W.Frag) (C : Addr) : Sp := fun vs H Q _ => ∃ (x dx g : Addr) (arcs : NtT) (es : List (Key × V)), vs = [.ref x, .ref g] ∧ H x = some (.ins C dx []) ∧ H g = some (.dK es) ∧ Paired (HandArc K (fun _ => True) H) es arcs ∧ NtOk arcs ∧
  ∀ H', NetA (fun b => H b = none) H' C x arcs → (∀ b o, b ≠ x → H b = some o → H' b = some o) → Q .non H'
abbrev NNi : List Str := ["self", "arcs", "name"]
theorem scNInit : FnScope NNi ["self", "arcs"] (defScope sInit) := ⟨rfl, rfl, rfl, by decide +kernel, rfl, by decide +kernel, by decide +kernel⟩
section
variable {P : Program} {w : World} {K : PySem.W.Frag} {mg : Str → Option Value} {base : Heap} {f C fN fA fO fL : Addr} {fd fdN fdA fdO fdL : FuncData}
theorem ok_nInit (F : Fun K "__init__" "Net.__init__" sInit f fd) (S : NetC K C) (FN : Fun K "is_name" "is_name" sIsName fN fdN) (gN : mg "is_name" = some (.ref fN)) (GN : FnOk P w K mg base CX0 1 fN fdN ["thing"] (spIsNameG K)) (FA : Fun K "_is_arc" "_is_arc" sIsArc fA fdA) (gA : mg "_is_arc" = some (.ref fA)) (GA : FnOk P w K mg base CX0 3 fA fdA ["thing"] (spArcG K))
    (FO : Fun K "_nodes_of" "_nodes_of" sNodesOf fO fdO) (gO : mg "_nodes_of" = some (.ref fO)) (mL : Meth K C "_is_live" fL) (GL : FnOk P w K mg base CX0 2 fL fdL ["self", "name"] (spIsLive C)) (bL : Binds K fdL ["self", "name"] [])
    (nI : mg "isinstance" = none) (nD : mg "dict" = none) (nN : mg "len" = none) (nLi : mg "list" = none) : FnOk P w K mg base CX0 5 f fd ["self", "arcs"] (spNInit K C) := by
  have GO : FnOk P w K mg base CX0 1 fO fdO ["arcs"] spNodesOf := ok_nodesOf FO nLi
  have bO := FO.binds (ps := ["arcs"]) fun _ _ _ _ _ _ us hl => match us, hl with | [_], _ => rfl
  have bN := FN.binds (ps := ["thing"]) fun _ _ _ _ _ _ us hl => match us, hl with | [_], _ => rfl
  have bA := FA.binds (ps := ["thing"]) fun _ _ _ _ _ _ us hl => match us, hl with | [_], _ => rfl
  refine F.ok scNInit (fun vs H Q E h => by obtain ⟨x, dx, g, arcs, es, e, _⟩ := h; rw [e]; rfl) fun cdv A outer s H vs Q E hr hsp => ?_
  obtain ⟨x, dx, g, arcs, es, rfl, hx, hg, hp, ok, hq⟩ := hsp
  have nd := scNInit.nd
  have hu := hu_of (hr.mono (show 1 ≤ 4 by decide))
  refine ⟨_, pss_cons (ps_if (PW.pt (pw_or (pt_not (pt_val (pe_callB (r := rIsi K) call_isi rfl nI boot_isi (pa_cons (pv 1) (pa_cons (pe_bltn (v := .ty "dict") rfl nD boot_dict' rfl) pa_nil))))) (pw_or1 (pt_cmpR op_eq (pe_callB call_lenD rfl nN boot_len (pa_cons (pv 1) pa_nil)) pe_int (nomark _))))) (pss_one ps_never) pss_nil)
    (pss_cons (ps_lock (ps_for PassesOwn.never rfl (pi_keys (pv 1)) (pg_name (i := 2) nd rfl (Or.inl rfl))
      (pss_one (ps_if (PW.pt (pw_or (pt_not (pt_val (pe_call GN (hr.mono (by decide)) rfl gN FN.kp bN .nil pass0 (pa_cons (pv 2) pa_nil)))) (pw_or1 (pt_not (pt_val (pe_call GA (hr.mono (by decide)) rfl gA FA.kp bA .nil pass0 (pa_cons (pe_dget hu (pv 1) (pv 2) (fun _ _ => rfl)) pa_nil))))))) (pss_one ps_never) pss_nil))))
    (pss_cons (ps_fld (pv 0) (pe_lock (pe_dc (own := [("name", 2)]) (tt := tYes) (g := gName 2) (tk := tVar 2) (tv := tTup (tCons (tOp (rIx K) (tDGet (tVar 1) (tVar 2)) (tC (.int 0))) (tCons (tOp (rIx K) (tDGet (tVar 1) (tVar 2)) (tC (.int 1))) tNil))) rfl nd (pi_keys (pv 1)) (blkOk_by (N := NNi) (sc := defScope sInit) (by decide +kernel))
      (fun _ _ _ _ _ => pg_name (i := 2) nd rfl (Or.inl rfl)) (fun _ _ _ _ _ => pts_nil) (fun _ _ _ _ _ => pv 2)
      (fun _ _ _ _ _ => pe_tup (pa_cons (pe_ix (r := rIx K) ix_seq (pe_dget hu (pv 1) (pv 2) (fun _ _ => rfl)) pe_int (fun _ _ => rfl)) (pa_cons (pe_ix (r := rIx K) ix_seq (pe_dget hu (pv 1) (pv 2) (fun _ _ => rfl)) pe_int (fun _ _ => rfl)) pa_nil))))) rfl)
    (pss_cons (ps_fld (pv 0) (pe_call GO (hr.mono (by decide)) rfl gO FO.kp bO .nil pass0 (pa_cons (pe_fld (pv 0) rfl) pa_nil)) rfl)
    (pss_one (ps_fld (pv 0) (pe_lock (pe_lc (own := [("name", 2)]) (g := gName 2) (te := tVar 2) (tt := tTest (tMeth C "_is_live" (spIsLive C) [] E0 (tVar 0) (tCons (tVar 2) tNil))) rfl nd (pi_keys (pe_fld (pv 0) rfl)) (blkOk_by (N := NNi) (sc := defScope sInit) (by decide +kernel)) (fun _ _ _ _ _ => pg_name (i := 2) nd rfl (Or.inl rfl))
      (fun _ _ _ _ _ => pts_one (pt_val (pe_meth (pv 0) S.cl mL GL (hr.mono (by decide)) bL .nil pass0 (pa_cons (pv 2) pa_nil)))) (fun _ _ _ _ _ => pv 2))) rfl))))), ?_⟩
  have les : es.length = arcs.length := Paired.length hp
  have kes := ha_keys hp
  have ndes : (es.map (·.1)).Nodup := by rw [kes]; exact nd_inr ok.nd
  have n0 := ok.n0
  have n1 := ok.n1
  have got : ∀ (i : Nat) (k : Key) (v : V), es[i]? = some (k, v) → ∃ q p, arcs[i]? = some q ∧ k = Sum.inr q.1 ∧ v = .ref p ∧ valV es (Sum.inr q.1) = some v ∧ SqA K H p [.str q.2.1, .str q.2.2] := fun i k v e => by
    obtain ⟨q, eq, h1, p, h2, _, h3⟩ := paired_get hp e
    have h1 : k = Sum.inr q.1 := h1
    have h2 : v = .ref p := h2
    subst h1 h2
    exact ⟨q, p, eq, rfl, rfl, valV_atN ndes e, h3⟩
  have sqn : ∀ {p : Addr} {xs : List V}, SqA K H p xs → p ≠ g ∧ p ≠ x := fun h => by
    rcases h with h | h
    · exact ⟨(fun z => by rw [z, hg] at h; cases h), (fun z => by rw [z, hx] at h; cases h)⟩
    · exact ⟨(fun z => by rw [z, hg] at h; cases h), (fun z => by rw [z, hx] at h; cases h)⟩
  have gx : g ≠ x := fun z => by rw [z, hx] at hg; cases hg
  refine ⟨_, rfl, _, _, _, _, true, rfl, .ty _, .base (.dK hg), kit_ty (by decide +kernel), _, rfl, iteF ?_⟩
  refine ⟨_, rfl, g, es, rfl, hg, rfl, false, congrArg V.bl (decide_eq_false fun z => by have z := V.int.inj z; omega), iteF ?_⟩
  refine ⟨g, _, hg, trivial, fun od => ⟨_, rfl, g, od, rfl, .inl ⟨es, upd_same, for_it walk_keys (fun i σ H' => Same (upd H g (.frz od (.dK es))) H' ∧ ∃ s2, σ = [some (.ref x), some (.ref g), s2]) ⟨Same.refl _, _, rfl⟩ (fun i σ H' _ h => h.1 _ _ upd_same) ?_ ?_⟩⟩⟩
  · rintro i y σ H2 H3 lt ⟨k2, s2, rfl⟩ ⟨rfl, k0, v0, ekv, rfl⟩
    obtain ⟨q, p, eq, rfl, rfl, ev, sq⟩ := got i _ _ ekv
    have up : ∀ {H' : Hp}, Same H3 H' → ∀ b o, b ≠ g → H b = some o → H' b = some o := fun s b o nb e => s _ _ (k2 _ _ (by rw [upd_ne nb]; exact e))
    obtain ⟨m1, m2, m3⟩ := ok.nm q (List.mem_of_getElem? eq)
    refine ⟨_, rfl, _, rfl, .inl ⟨q.1, rfl, nm_len m1, fun H4 k4 => ?_⟩⟩
    rw [nmB_ok m1]
    refine ⟨_, rfl, iteF ?_⟩
    refine ⟨_, rfl, _, rfl, g, _, rfl, .inl ⟨es, Sum.inr q.1, .inr ⟨od, k4 _ _ (k2 _ _ upd_same)⟩, rfl, ev.symm⟩, ?_⟩
    refine ⟨.ref p, _, rfl, .two (sq.kp fun o e => up k4 p o (sqn sq).1 e) (.str (nm_len m2)) (.str (nm_len m3)), fun H5 k5 => ?_⟩
    rw [nmB_ok m2, nmB_ok m3]
    exact ⟨_, rfl, iteF ⟨(k2.trans k4).trans k5, _, rfl⟩⟩
  rintro σ H2 ⟨k2, s2, rfl⟩
  obtain ⟨e2, k02⟩ := lock_offN hg k2
  refine ⟨e2, ?_⟩
  generalize upd H2 g (.dK es) = H4 at k02
  have hx4 := k02 _ _ hx
  have hg4 := k02 _ _ hg
  refine ⟨g, _, hg4, trivial, fun od2 => ⟨_, rfl, g, od2, rfl, .inl ⟨es, upd_same, ?_⟩⟩⟩
  have oL : upd H4 g (.frz od2 (.dK es)) g = some (.frz od2 (.dK es)) := upd_same
  have xL : upd H4 g (.frz od2 (.dK es)) x = some (.ins C dx []) := by rw [upd_ne (Ne.symm gx)]; exact hx4
  refine dc_madeN (es.map (·.1)) (by rw [List.length_map]; omega) ndes (fun i H' s lt => ⟨s _ _ oL, by rw [List.length_map] at lt; exact lt⟩) (fun H' s => ⟨s _ _ oL, by rw [List.length_map]; exact Nat.le_refl _⟩)
    (fun i y H' => ∃ q t, arcs[i]? = some q ∧ y = .ref t ∧ H t = none ∧ t ≠ g ∧ t ≠ x ∧ H' t = some (.tup [.str q.2.1, .str q.2.2])) ?_ ?_ ?_
  · rintro i y H6 H7 D l ⟨q, t, e1, e2, nt, tg, tx, ot⟩ oD keep
    exact ⟨q, t, e1, e2, nt, tg, tx, keep _ _ (fun z => by rw [z, oD] at ot; cases ot) ot⟩
  · rintro i y k H6 H7 Cn Nn ek s6 ⟨rfl, k2, v0, ek2, rfl⟩ yes
    rw [List.getElem?_map, ek2] at ek
    obtain rfl : k2 = k := Option.some.inj ek
    obtain ⟨q, p, eq, rfl, rfl, ev, sq⟩ := got i _ _ ek2
    have sq7 : SqA K H7 p [.str q.2.1, .str q.2.2] := sq.kp fun o e => s6 _ _ (by rw [upd_ne (sqn sq).1]; exact k02 _ _ e)
    have dg : DGet H7 g (.str q.1) (some (.ref p)) := .inl ⟨es, Sum.inr q.1, .inr ⟨od2, s6 _ _ oL⟩, rfl, ev.symm⟩
    have ixa : ∀ {j : Int} {y : V} {R : VK}, atI [V.str q.2.1, .str q.2.2] j = some y → R y H7 → rIx K (.ref p) (.int j) H7 R := fun e r => by
      rcases sq7 with z | z
      · exact .inl ⟨p, _, _, _, rfl, rfl, SqL.of z, e, r⟩
      · exact .inr (.inl ⟨p, _, _, _, rfl, rfl, SqT.of z, e, r⟩)
    refine ⟨rfl, ?_⟩
    refine ⟨_, rfl, _, rfl, _, rfl, g, _, rfl, dg, ixa rfl ⟨_, rfl, _, rfl, g, _, rfl, dg, ixa rfl ⟨(by show 2 ≤ sizeLine; decide), fun t nt => ?_⟩⟩⟩
    have nt0 : H t = none := by
      cases e : H t with
      | none => rfl
      | some o =>
        by_cases c : t = g
        · rw [c, s6 _ _ oL] at nt; cases nt
        · rw [s6 _ _ (by rw [upd_ne c]; exact k02 _ _ e)] at nt; cases nt
    exact yes _ _ ⟨q, t, eq, rfl, nt0, (fun z => by rw [z, s6 _ _ oL] at nt; cases nt), (fun z => by rw [z, s6 _ _ xL] at nt; cases nt), upd_same⟩ (same_new nt)
  · intro H6 D kvs2 nD oD ek2 hR s6
    obtain ⟨b1, s46⟩ := lock_offN hg4 s6
    have Dg : D ≠ g := fun z => by rw [z, oL] at nD; cases nD
    have Dx : D ≠ x := fun z => by rw [z, xL] at nD; cases nD
    have nD0 : H D = none := k02.free (by rw [upd_ne Dg] at nD; exact nD)
    refine ⟨b1, ?_⟩
    have k06 := k02.trans s46
    have oD7 : upd H6 g (.dK es) D = some (.dK kvs2) := by rw [upd_ne Dg]; exact oD
    have pr7 : Paired (DcE (fun b => H b = none ∧ b ≠ x) (upd H6 g (.dK es))) kvs2 arcs := by
      refine paired_of _ _ (by have z := congrArg List.length ek2; rw [List.length_map, List.length_map] at z; omega) fun j e q e1 e2 => ?_
      obtain ⟨q', t, e3, e4, nt, tg, tx, ot⟩ := hR j e.1 e.2 e1
      rw [e2] at e3
      obtain rfl := Option.some.inj e3
      have ekj : e.1 = Sum.inr q.1 := by
        have z := congrArg (fun l => l[j]?) (ek2.trans kes)
        simp only [List.getElem?_map, e1, e2, Option.map_some] at z
        exact Option.some.inj z
      exact ⟨ekj, t, .str q.2.1, .str q.2.2, e4, ⟨nt, tx⟩, by rw [upd_ne tg]; exact ot, rfl, rfl⟩
    have hx7 := k06 _ _ hx
    generalize upd H6 g (.dK es) = H7 at k06 oD7 pr7 hx7
    refine ⟨_, rfl, x, C, dx, _, rfl, hx7, S.cl, S.nA, by show 0 < 1000; decide, ?_⟩
    have hx8 : upd H7 x (.ins C dx (putF "_arcs" (.ref D) [])) x = _ := upd_same
    have up8 : ∀ b o, b ≠ x → H7 b = some o → upd H7 x (.ins C dx (putF "_arcs" (.ref D) [])) b = some o := fun b o nb e => by rw [upd_ne nb]; exact e
    have k08 : ∀ b o, b ≠ x → H b = some o → upd H7 x (.ins C dx (putF "_arcs" (.ref D) [])) b = some o := fun b o nb e => up8 b o nb (k06 _ _ e)
    have at8 : PyD.at_ (fun b => H b = none ∧ b ≠ x) (upd H7 x (.ins C dx (putF "_arcs" (.ref D) []))) (.ref D) (Dc.mk arcs) := ⟨D, kvs2, rfl, ⟨nD0, Dx⟩, up8 _ _ Dx oD7, ok.nd, Paired.mapP pr7 fun e q h => ⟨h.1, PyD.kp h.2 fun b o a e => ⟨a, up8 _ _ a.2 e⟩⟩⟩
    generalize upd H7 x (.ins C dx (putF "_arcs" (.ref D) [])) = H8 at hx8 k08 at8
    clear pr7 oD7 hx7 up8 hR ek2 oD s6 s46 b1 nD oL xL hx4 hg4 k02 k06
    refine ⟨_, rfl, x, C, dx, _, _, rfl, hx8, S.cl, S.nA, rfl, D, arcs, _, rfl, at8, by omega, fun H9 Nd nNd oNd k9 => ?_⟩
    have hx9 := k9 _ _ hx8
    have nNd0 : H Nd = none := by
      cases e : H Nd with
      | none => rfl
      | some o =>
        by_cases c : Nd = x
        · rw [c, hx8] at nNd; cases nNd
        · rw [k08 _ _ c e] at nNd; cases nNd
    have Nx : Nd ≠ x := fun z => by rw [z, hx8] at nNd; cases nNd
    have k09 : ∀ b o, b ≠ x → H b = some o → H9 b = some o := fun b o nb e => k9 _ _ (k08 _ _ nb e)
    have at9 := PyD.kp at8 (A' := fun b => H b = none ∧ b ≠ x) fun b o a e => ⟨a, k9 _ _ e⟩
    clear hx8 k08 at8 k9 nNd
    refine ⟨_, rfl, x, C, dx, _, rfl, hx9, S.cl, S.nN, by show 1 < 1000; decide, ?_⟩
    have up10 : ∀ b o, b ≠ x → H9 b = some o → upd H9 x (.ins C dx (putF "_nodes" (.ref Nd) (putF "_arcs" (.ref D) []))) b = some o := fun b o nb e => by rw [upd_ne nb]; exact e
    have hx10 : upd H9 x (.ins C dx (putF "_nodes" (.ref Nd) (putF "_arcs" (.ref D) []))) x = _ := upd_same
    have at10 := PyD.kp at9 (A' := fun b => H b = none ∧ b ≠ x) fun b o a e => ⟨a, up10 _ _ a.2 e⟩
    have oN10 := up10 _ _ Nx oNd
    have k10 : ∀ b o, b ≠ x → H b = some o → upd H9 x (.ins C dx (putF "_nodes" (.ref Nd) (putF "_arcs" (.ref D) []))) b = some o := fun b o nb e => up10 _ _ nb (k09 _ _ nb e)
    generalize upd H9 x (.ins C dx (putF "_nodes" (.ref Nd) (putF "_arcs" (.ref D) []))) = H10 at hx10 at10 oN10 k10
    clear up10 hx9 k09 at9 oNd
    have at10' := at10
    obtain ⟨D', es3, e3, aD, oD3, rnd, pr3⟩ := at10
    obtain rfl := V.ref.inj e3
    have xD : x ≠ D := fun z => aD.2 z.symm
    refine ⟨D, _, oD3, trivial, fun oo => ⟨_, rfl, x, C, dx, _, _, rfl, (by rw [upd_ne xD]; exact hx10), S.cl, S.nA, rfl, D, oo, rfl, .inl ⟨es3, upd_same, ?_⟩⟩⟩
    have oL3 : upd H10 D (.frz oo (.dK es3)) D = some (.frz oo (.dK es3)) := upd_same
    have xL3 : upd H10 D (.frz oo (.dK es3)) x = _ := (upd_ne xD).trans hx10
    have les3 : es3.length = arcs.length := Paired.length pr3
    have prL : Paired (DcE (fun b => H b = none ∧ b ≠ x) (upd H10 D (.frz oo (.dK es3)))) es3 arcs := Paired.mapP pr3 fun e q h => by
      obtain ⟨h1, t, u1, u2, h2, a, ot, h3, h4⟩ := h
      exact ⟨h1, t, u1, u2, h2, a, by rw [upd_ne (fun z => by rw [z, oD3] at ot; cases ot)]; exact ot, h3, h4⟩
    refine lc_genON (arcs.map fun e => if liveB arcs e = true then some (V.str e.1) else none) (by rw [List.length_map]; omega) (fun i H' s lt => ⟨s _ _ oL3, by rw [List.length_map] at lt; omega⟩) (fun H' s => ⟨s _ _ oL3, by rw [List.length_map]; omega⟩) ?_ ?_
    · rintro i y o H11 H12 Cn Nn eo s11 ⟨rfl, k0, v0, ekv, rfl⟩ yes no
      obtain ⟨e, ee, hk, _⟩ := paired_get prL ekv
      have hk : k0 = Sum.inr e.1 := hk
      subst hk
      have ee : arcs[i]? = some e := ee
      rw [List.getElem?_map, ee] at eo
      obtain rfl := Option.some.inj eo
      refine ⟨rfl, ?_⟩
      refine ⟨_, rfl, x, dx, _, rfl, s11 _ _ xL3, rfl, _, rfl, x, dx, D, _, oo, es3, arcs, _, e, rfl, s11 _ _ xL3, rfl, s11 _ _ oL3, Paired.mapP prL fun e q h => ⟨h.1, PyD.kp h.2 fun b o a e => ⟨a, s11 _ _ e⟩⟩, ok.nd, by omega, List.mem_of_getElem? ee, fun H13 b hb k13 => ⟨b, rfl, ?_⟩⟩
      cases b with
      | true =>
        have hl : liveB arcs e = true := liveB_iff.mpr (hb.mp rfl)
        exact iteT ⟨_, rfl, yes _ (by show (if liveB arcs e = true then some (V.str e.1) else none) = _; rw [if_pos hl]; rfl) H13 k13⟩
      | false =>
        have hl : ¬ liveB arcs e = true := fun z => by have := hb.mpr (liveB_iff.mp z); cases this
        exact iteF (no (by show (if liveB arcs e = true then some (V.str e.1) else none) = _; rw [if_neg hl]) H13 k13)
    · intro H11 q nq oq s11
      obtain ⟨b1, s1011⟩ := lock_offN oD3 s11
      have qD : q ≠ D := fun z => by rw [z, oL3] at nq; cases nq
      have qx : q ≠ x := fun z => by rw [z, xL3] at nq; cases nq
      have nq10 : H10 q = none := by rw [upd_ne qD] at nq; exact nq
      have nq0 : H q = none := by
        cases e : H q with
        | none => rfl
        | some o => rw [k10 _ _ qx e] at nq10; cases nq10
      have el : (arcs.map fun e => if liveB arcs e = true then some (V.str e.1) else none).filterMap id = (liveL arcs).map V.str := by
        rw [opt_listN (fun e => liveB arcs e) (fun e => V.str e.1)]
        unfold liveL
        rw [List.map_map]
        rfl
      rw [el] at oq
      refine ⟨b1, ?_⟩
      have oq12 : upd H11 D (.dK es3) q = _ := (upd_ne qD).trans oq
      have hx12 := s1011 _ _ hx10
      refine ⟨_, rfl, x, C, dx, _, rfl, hx12, S.cl, S.nL, by show 2 < 1000; decide, ?_⟩
      have up13 : ∀ b o, b ≠ x → H10 b = some o → upd (upd H11 D (.dK es3)) x (.ins C dx (putF "_live" (.ref q) (putF "_nodes" (.ref Nd) (putF "_arcs" (.ref D) [])))) b = some o := fun b o nb e => by rw [upd_ne nb]; exact s1011 _ _ e
      refine hq _ ⟨dx, D, Nd, q, by rw [upd_same]; rfl, PyD.kp at10' fun b o a e => ⟨a.1, up13 _ _ a.2 e⟩, nNd0, up13 _ _ Nx oN10, nq0, by rw [upd_ne qx]; exact oq12⟩ fun b o nb e => up13 _ _ nb (k10 _ _ nb e)
end
end L2.TB
/-! Net: ==, questions, home, arcs, nodes, live -/
namespace L2.TB
open PySem PySem.Spec PyProof.Rows
def spNQs (C : Addr) : Sp := fun vs H Q _ => ∃ (x : Addr) (arcs : NtT) (A : Addr → Prop), vs = [.ref x] ∧ NetA A H C x arcs ∧ ∀ H' q, H q = none → H' q = some (.lst ((arcs.map (·.1)).map V.str)) → Same H H' → Q (.ref q) H'
def spNNodes (C : Addr) : Sp := fun vs H Q _ => ∃ (x : Addr) (arcs : NtT) (A : Addr → Prop), vs = [.ref x] ∧ NetA A H C x arcs ∧ ∀ H' q, H q = none → H' q = some (.lst ((nodesL arcs).map V.str)) → Same H H' → Q (.ref q) H'
def spNLive (C : Addr) : Sp := fun vs H Q _ => ∃ (x : Addr) (arcs : NtT) (A : Addr → Prop), vs = [.ref x] ∧ NetA A H C x arcs ∧ ∀ H' q, H q = none → H' q = some (.lst ((liveL arcs).map V.str)) → Same H H' → Q (.ref q) H'
def valD (vv : Str → V) (arcs : NtT) : List (Key × V) := arcs.map fun e => (Sum.inr e.1, vv e.1)
def spNHome (C : Addr) : Sp := fun vs H Q _ => ∃ (x : Addr) (arcs : NtT) (A : Addr → Prop), vs = [.ref x] ∧ NetA A H C x arcs ∧ arcs.length < 1000 ∧ ∀ H' q, H q = none → H' q = some (.dK (valD (fun _ => .int 0) arcs)) → Same H H' → Q (.ref q) H'
def spNArcs (C : Addr) : Sp := fun vs H Q _ => ∃ (x : Addr) (arcs : NtT) (A : Addr → Prop), vs = [.ref x] ∧ NetA A H C x arcs ∧ arcs.length < 1000 ∧ ∀ H' q, H q = none → PyD.at_ (fun b => b = q ∨ A b) H' (.ref q) (Dc.mk arcs) → Same H H' → Q (.ref q) H'
abbrev NNh : List Str := ["self", "name"]
theorem scNLive : FnScope ["self"] ["self"] (defScope sLive) := ⟨rfl, rfl, rfl, by decide +kernel, rfl, by decide +kernel, by decide +kernel⟩
theorem scNHome : FnScope NNh ["self"] (defScope sHome) := ⟨rfl, rfl, rfl, by decide +kernel, rfl, by decide +kernel, by decide +kernel⟩
theorem scNArcs : FnScope NNh ["self"] (defScope sArcs) := ⟨rfl, rfl, rfl, by decide +kernel, rfl, by decide +kernel, by decide +kernel⟩
section
variable {P : Program} {w : World} {K : PySem.W.Frag} {mg : Str → Option Value} {base : Heap} {f C : Addr} {fd : FuncData}
theorem ok_nLive (F : Fun K "live" "Net.live" sLive f fd) (S : NetC K C) (nL : mg "list" = none) : FnOk P w K mg base CX0 1 f fd ["self"] (spNLive C) := by
  refine F.ok scNLive (fun vs H Q E h => by obtain ⟨x, arcs, A, e, _⟩ := h; rw [e]; rfl) fun cdv A outer s H vs Q E hr hsp => ?_
  obtain ⟨x, arcs, _, rfl, hx, hq⟩ := hsp
  obtain ⟨dx, D, _, Lv, h1, _, _, _, _, oL⟩ := hx.ex
  refine ⟨_, pss_one (ps_ret (pe_callTy call_list_of rfl nL boot_list' (pa_cons (pe_fld (pv 0) rfl) pa_nil))), ?_⟩
  exact ⟨_, rfl, x, C, dx, _, _, rfl, h1, S.cl, S.nL, rfl, Lv, _, rfl, .inl (SqL.of oL), fun q nq => hq _ q nq upd_same (same_new nq)⟩
end
end L2.TB
/-! Net: home, arcs, answers -/
namespace L2.TB
open PySem PySem.Spec PyProof.Rows
theorem valD_of {kvs : List (Key × V)} {arcs : NtT} {vv : Str → V} (ek : kvs.map (·.1) = (arcs.map (·.1)).map Sum.inr) (hv : ∀ (j : Nat) (k : Key) (y : V), kvs[j]? = some (k, y) → ∃ e : Str × ArT, arcs[j]? = some e ∧ y = vv e.1) : kvs = valD vv arcs := by
  have len : kvs.length = arcs.length := by
    have z := congrArg List.length ek
    rwa [List.length_map, List.length_map, List.length_map] at z
  refine List.ext_getElem? fun j => ?_
  unfold valD
  by_cases lt : j < kvs.length
  · have e1 := List.getElem?_eq_getElem lt
    obtain ⟨e, ee, ey⟩ := hv j kvs[j].1 kvs[j].2 e1
    rw [e1, List.getElem?_map, ee]
    have e2 : (kvs.map (·.1))[j]? = some kvs[j].1 := by rw [List.getElem?_map, e1]; rfl
    rw [ek, List.getElem?_map, List.getElem?_map, ee] at e2
    exact congrArg some (Prod.ext (Option.some.inj e2).symm ey)
  · rw [List.getElem?_eq_none (by omega), List.getElem?_map, List.getElem?_eq_none (by omega)]
    rfl
section
variable {P : Program} {w : World} {K : PySem.W.Frag} {mg : Str → Option Value} {base : Heap} {f C CB fW : Addr} {fd fdW : FuncData}
theorem ok_nHome (F : Fun K "home" "Net.home" sHome f fd) (S : NetC K C) : FnOk P w K mg base CX0 1 f fd ["self"] (spNHome C) := by
  refine F.ok scNHome (fun vs H Q E h => by obtain ⟨x, arcs, A, e, _⟩ := h; rw [e]; rfl) fun cdv A outer s H vs Q E hr hsp => ?_
  obtain ⟨x, arcs, _, rfl, hx, sh, hq⟩ := hsp
  have nd := scNHome.nd
  refine ⟨_, pss_one (ps_ret (pe_lock (pe_dc (own := [("name", 1)]) (tt := tYes) (g := gName 1) (tk := tVar 1) (tv := tC (.int 0)) rfl nd (pi_keys (pe_fld (pv 0) rfl)) (blkOk_by (N := NNh) (sc := defScope sHome) (by decide +kernel)) (fun _ _ _ _ _ => pg_name (i := 1) nd rfl (Or.inl rfl)) (fun _ _ _ _ _ => pts_nil) (fun _ _ _ _ _ => pv 1) (fun _ _ _ _ _ => pe_int)))), ?_⟩
  obtain ⟨dx, D, _, _, h1, ⟨D', es, e1, aD, oD, rnd, pr⟩, _⟩ := hx.ex
  obtain rfl := V.ref.inj e1
  have ek : es.map (·.1) = (arcs.map (·.1)).map Sum.inr := dc_keys pr
  have les : es.length = arcs.length := Paired.length pr
  have ndes : (es.map (·.1)).Nodup := by rw [ek]; exact nd_inr rnd
  have xD : x ≠ D := fun z => by rw [z, oD] at h1; cases h1
  refine ⟨D, _, oD, trivial, fun oo => ⟨_, rfl, x, C, dx, _, _, rfl, (by rw [upd_ne xD]; exact h1), S.cl, S.nA, rfl, D, oo, rfl, .inl ⟨es, upd_same, ?_⟩⟩⟩
  have oL : upd H D (.frz oo (.dK es)) D = some (.frz oo (.dK es)) := upd_same
  refine dc_madeN (es.map (·.1)) (by rw [List.length_map]; omega) ndes (fun i H' s lt => ⟨s _ _ oL, by rw [List.length_map] at lt; exact lt⟩) (fun H' s => ⟨s _ _ oL, by rw [List.length_map]; exact Nat.le_refl _⟩)
    (fun i y H' => ∃ e, arcs[i]? = some e ∧ y = .int 0) (fun i y H6 H7 D2 l h _ _ => h) ?_ ?_
  · rintro i y k H6 H7 Cn Nn ek2 s6 ⟨rfl, k2, v0, ekv, rfl⟩ yes
    rw [List.getElem?_map, ekv] at ek2
    obtain rfl : k2 = k := Option.some.inj ek2
    obtain ⟨e, ee, hk, _⟩ := paired_get pr ekv
    exact ⟨rfl, _, rfl, yes _ _ ⟨e, ee, rfl⟩ (Same.refl _)⟩
  · intro H6 q kvs nq oq ek3 hR s6
    obtain ⟨b1, s16⟩ := lock_offN oD s6
    have qD : q ≠ D := fun z => by rw [z, oL] at nq; cases nq
    have e : kvs = valD (fun _ => .int 0) arcs := valD_of (ek3.trans ek) fun j k y h => hR j k y h
    refine ⟨b1, hq _ q (by rw [upd_ne qD] at nq; exact nq) (by rw [upd_ne qD, oq, e]) s16⟩
theorem ok_nArcs (F : Fun K "arcs" "Net.arcs" sArcs f fd) (S : NetC K C) : FnOk P w K mg base CX0 1 f fd ["self"] (spNArcs C) := by
  refine F.ok scNArcs (fun vs H Q E h => by obtain ⟨x, arcs, A, e, _⟩ := h; rw [e]; rfl) fun cdv A outer s H vs Q E hr hsp => ?_
  obtain ⟨x, arcs, A0, rfl, hx, sh, hq⟩ := hsp
  have nd := scNArcs.nd
  have hu := hu_of hr
  refine ⟨_, pss_one (ps_ret (pe_lock (pe_dc (own := [("name", 1)]) (tt := tYes) (g := gName 1) (tk := tVar 1) (tv := tDGet (tFld K (tVar 0) "_arcs") (tVar 1)) rfl nd (pi_keys (pe_fld (pv 0) rfl)) (blkOk_by (N := NNh) (sc := defScope sArcs) (by decide +kernel)) (fun _ _ _ _ _ => pg_name (i := 1) nd rfl (Or.inl rfl)) (fun _ _ _ _ _ => pts_nil) (fun _ _ _ _ _ => pv 1) (fun _ _ _ _ _ => pe_dget hu (pe_fld (pv 0) rfl) (pv 1) (fun _ _ => rfl))))), ?_⟩
  obtain ⟨dx, D, _, _, h1, ⟨D', es, e1, aD, oD, rnd, pr⟩, _⟩ := hx.ex
  obtain rfl := V.ref.inj e1
  have ek : es.map (·.1) = (arcs.map (·.1)).map Sum.inr := dc_keys pr
  have les : es.length = arcs.length := Paired.length pr
  have ndes : (es.map (·.1)).Nodup := by rw [ek]; exact nd_inr rnd
  have xD : x ≠ D := fun z => by rw [z, oD] at h1; cases h1
  refine ⟨D, _, oD, trivial, fun oo => ⟨_, rfl, x, C, dx, _, _, rfl, (by rw [upd_ne xD]; exact h1), S.cl, S.nA, rfl, D, oo, rfl, .inl ⟨es, upd_same, ?_⟩⟩⟩
  have oL : upd H D (.frz oo (.dK es)) D = some (.frz oo (.dK es)) := upd_same
  have xL : upd H D (.frz oo (.dK es)) x = _ := (upd_ne xD).trans h1
  refine dc_madeN (es.map (·.1)) (by rw [List.length_map]; omega) ndes (fun i H' s lt => ⟨s _ _ oL, by rw [List.length_map] at lt; exact lt⟩) (fun H' s => ⟨s _ _ oL, by rw [List.length_map]; exact Nat.le_refl _⟩)
    (fun i y H' => ∃ e t, arcs[i]? = some e ∧ y = .ref t ∧ A0 t ∧ H t = some (.tup [.str e.2.1, .str e.2.2])) (fun i y H6 H7 D2 l h _ _ => h) ?_ ?_
  · rintro i y k H6 H7 Cn Nn ek2 s6 ⟨rfl, k2, v0, ekv, rfl⟩ yes
    rw [List.getElem?_map, ekv] at ek2
    obtain rfl : k2 = k := Option.some.inj ek2
    obtain ⟨e, ee, hk, t, u1, u2, hv, at_, ot, hu1, hu2⟩ := paired_get pr ekv
    have hk : k2 = Sum.inr e.1 := hk
    have hv : v0 = .ref t := hv
    have hu1 : u1 = .str e.2.1 := hu1
    have hu2 : u2 = .str e.2.2 := hu2
    subst hk hv hu1 hu2
    refine ⟨rfl, _, rfl, _, rfl, x, C, dx, _, _, rfl, s6 _ _ xL, S.cl, S.nA, rfl, _, rfl, D, _, rfl, .inl ⟨es, Sum.inr e.1, .inr ⟨oo, s6 _ _ oL⟩, rfl, (valV_atN ndes ekv).symm⟩, ?_⟩
    exact yes _ _ ⟨e, t, ee, rfl, at_, ot⟩ (Same.refl _)
  · intro H6 q kvs nq oq ek3 hR s6
    obtain ⟨b1, s16⟩ := lock_offN oD s6
    have qD : q ≠ D := fun z => by rw [z, oL] at nq; cases nq
    refine ⟨b1, hq _ q (by rw [upd_ne qD] at nq; exact nq) ⟨q, kvs, rfl, .inl rfl, by rw [upd_ne qD]; exact oq, rnd, ?_⟩ s16⟩
    refine paired_of _ _ (by have z := congrArg List.length (ek3.trans ek); rw [List.length_map, List.length_map, List.length_map] at z; exact z) fun j kv e e1 e2 => ?_
    obtain ⟨e', t, e3, e4, a, ot⟩ := hR j kv.1 kv.2 e1
    have e2 : arcs[j]? = some e := e2
    rw [e2] at e3
    obtain rfl := Option.some.inj e3
    have ekj : kv.1 = Sum.inr e.1 := by
      have z := congrArg (fun l => l[j]?) (ek3.trans ek)
      simp only [List.getElem?_map, e1, e2, Option.map_some] at z
      exact Option.some.inj z
    exact ⟨ekj, t, _, _, e4, .inr a, s16 _ _ ot, rfl, rfl⟩
end
end L2.TB
/-! is_joined, ring_through, shifted -/
namespace L2.TB
open PySem PySem.Spec PyProof.Rows
/-- a dict comprehension of whole numbers, with any keys -/
theorem dc_ints {J : It} {g : TG} {tt : TT} {tk tv : TE} {vs : List Nat} {σ : L2.St} {H1 : Hp} {Q : Addr → Hp → Prop} (n : Nat) (p : Int → Prop) (short : n < 100000) (go : ∀ i H, Same H1 H → i < n → J.go i H) (stop : ∀ H, Same H1 H → J.stop n H)
    (turn : ∀ (i : Nat) (x : V) (H H' : Hp) (C : V → V → Hp → Prop) (N : Hp → Prop), i < n → Same H1 H → J.yld i H x H' → (∀ (k : Str) (z : Int) H5, p z → Same H H5 → C (.str k) (.int z) H5) →
      g x (wipe σ vs) H' fun σ2 H2 => wipe σ2 vs = wipe σ vs ∧ tt σ2 H2 fun b H3 => if b = true then tk σ2 H3 fun y H4 => tv σ2 H4 fun z H5 => C y z H5 else N H3)
    (fin : ∀ H D kvs, H1 D = none → H D = some (.dK kvs) → (∀ k v, valV kvs k = some v → ∃ z, v = .int z ∧ p z) → Same H1 H → Q D H) : DcW J g tt tk tv vs σ H1 Q := by
  intro D nD
  refine ⟨fun i m H => m = n - i ∧ i ≤ n ∧ (∃ kvs : List (Key × V), H D = some (.dK kvs) ∧ kvs.length ≤ i ∧ ∀ k v, valV kvs k = some v → ∃ z, v = .int z ∧ p z) ∧ Same H1 H, ⟨_, rfl, Nat.zero_le _, ⟨[], upd_same, Nat.le_refl _, fun k v e => by cases e⟩, same_new nD⟩, ?_⟩
  rintro i m H ⟨rfl, le, ⟨kvs, oD, lk, al⟩, s1⟩
  by_cases lt : i < n
  · refine .inr ⟨go i H s1 lt, fun H' => (∃ kvs : List (Key × V), H' D = some (.dK kvs) ∧ kvs.length ≤ i + 1 ∧ ∀ k v, valV kvs k = some v → ∃ z, v = .int z ∧ p z) ∧ Same H1 H', fun H' h => ⟨n - (i + 1), by omega, rfl, lt, h⟩, fun x H' yl => ?_⟩
    refine turn i x H H' _ _ lt s1 yl fun k z H5 pz s5 => ⟨kvs, Sum.inr k, rfl, s5 _ _ oD, by rw [sizeLine_eq]; omega, ⟨_, upd_same, ?_, fun k' v e => ?_⟩, fun b u e => ?_⟩
    · have := length_putK kvs (Sum.inr k) (.int z)
      omega
    · rw [valV_put] at e
      by_cases c : k' = Sum.inr k
      · rw [if_pos c] at e
        exact ⟨z, (Option.some.inj e).symm, pz⟩
      · rw [if_neg c] at e
        exact al k' v e
    · rw [upd_ne (ne_of_none e nD)]
      exact s5 _ _ (s1 _ _ e)
  · obtain rfl : i = n := by omega
    exact .inl ⟨stop H s1, fin H D kvs nD oD al s1⟩
theorem valD_ndK {x : Str → Int} {arcs : NtT} (nd : (arcs.map (·.1)).Nodup) : ((valD (fun n => .int (x n)) arcs).map (·.1)).Nodup := by
  have e : (valD (fun n => V.int (x n)) arcs).map (·.1) = (arcs.map (·.1)).map Sum.inr := by unfold valD; rw [List.map_map, List.map_map]; rfl
  rw [e]
  exact nd_inr nd
theorem valD_getI {vv : Str → V} {arcs : NtT} (nd : (arcs.map (·.1)).Nodup) {e : Str × ArT} (h : e ∈ arcs) : valV (valD vv arcs) (Sum.inr e.1) = some (vv e.1) := by
  obtain ⟨i, hi⟩ := List.getElem?_of_mem h
  have n2 : ((valD vv arcs).map (·.1)).Nodup := by
    have e : (valD vv arcs).map (·.1) = (arcs.map (·.1)).map Sum.inr := by unfold valD; rw [List.map_map, List.map_map]; rfl
    rw [e]
    exact nd_inr nd
  exact valV_atN (kvs := valD vv arcs) (i := i) n2 (by unfold valD; rw [List.getElem?_map, hi]; rfl)
def spJoin : Sp := fun vs H Q _ => ∃ (D q : Addr) (arcs L : NtT) (A : Addr → Prop) (e : Str × ArT), vs = [.ref D, .ref q, .str e.1] ∧ PyD.at_ A H (.ref D) (Dc.mk arcs) ∧ H q = some (.lst ((L.map (·.1)).map V.str)) ∧ (∀ e ∈ L, e ∈ arcs) ∧ L.length < 400 ∧ e ∈ arcs ∧
  ∀ H' b, (b = true ↔ Reach (eithE L) e.2.2 e.2.1) → Same H H' → Q (.bl b) H'
def spRing : Sp := fun vs H Q _ => ∃ (D q : Addr) (arcs L : NtT) (A : Addr → Prop) (e : Str × ArT), vs = [.ref D, .ref q, .str e.1] ∧ PyD.at_ A H (.ref D) (Dc.mk arcs) ∧ H q = some (.lst ((L.map (·.1)).map V.str)) ∧ (∀ e ∈ L, e ∈ arcs) ∧ L.length < 400 ∧ e ∈ arcs ∧ Reach (eithE L) e.2.2 e.2.1 ∧
  ∀ H' r ts W, H' r = some (.lst ((ts : List Addr).map V.ref)) → Paired (StepA H') ts W → W.length < 2000 → (∀ s ∈ W, s.2.1 = 1 ∨ s.2.1 = -1) → Same H H' → Q (.ref r) H'
def spShift : Sp := fun vs H Q _ => ∃ (W r : Addr) (arcs : NtT) (x : Str → Int) (ts : List Addr) (S : List StpT), vs = [.ref W, .ref r, .int 1] ∧ H W = some (.dK (valD (fun n => .int (x n)) arcs)) ∧ (arcs.map (·.1)).Nodup ∧ arcs.length < 1000 ∧ H r = some (.lst (ts.map V.ref)) ∧ Paired (StepA H) ts S ∧ S.length < 2000 ∧ (∀ s ∈ S, s.2.1 = 1 ∨ s.2.1 = -1) ∧
  ∀ H' q (y : Str → Int), H q = none → H' q = some (.dK (valD (fun n => .int (y n)) arcs)) → Same H H' → Q (.ref q) H'
theorem reach_short {L : List StpT} {b : Str} {F : FoT} (h : FOk L b F) : F.length ≤ L.length + 1 := by
  have z := nd_sub_len (l' := b :: L.map fun s => s.2.2.2) h.nd fun n hn => by
    obtain ⟨p, hp, rfl⟩ := List.mem_map.mp hn
    obtain ⟨i, hi⟩ := List.getElem?_of_mem hp
    by_cases c : i = 0
    · rw [c, h.hd] at hi
      rw [← Option.some.inj hi]
      exact List.mem_cons_self
    · obtain ⟨s, h1, h2, h3, _⟩ := h.st i p.1 p.2 hi (by omega)
      exact List.mem_cons_of_mem _ (List.mem_map.mpr ⟨s, h2, h3⟩)
  rw [List.length_map, List.length_cons, List.length_map] at z
  exact z
theorem eiS_len (L : NtT) : (eiS L).length = 2 * L.length := by
  unfold eiS
  rw [List.length_append, List.length_map, List.length_map]
  omega
theorem scJo : FnScope ["arcs", "names", "asked"] ["arcs", "names", "asked"] (defScope sJoined) := ⟨rfl, rfl, rfl, by decide +kernel, rfl, by decide +kernel, by decide +kernel⟩
theorem scRi : FnScope ["arcs", "names", "asked", "start", "end"] ["arcs", "names", "asked"] (defScope sRing) := ⟨rfl, rfl, rfl, by decide +kernel, rfl, by decide +kernel, by decide +kernel⟩
abbrev NSh : List Str := ["world", "ring", "much", "signs", "step", "name"]
theorem scSh : FnScope NSh ["world", "ring", "much"] (defScope sShifted) := ⟨rfl, rfl, rfl, by decide +kernel, rfl, by decide +kernel, by decide +kernel⟩
section
variable {P : Program} {w : World} {K : PySem.W.Frag} {mg : Str → Option Value} {base : Heap} {f fE fR fO fW : Addr} {fd fdE fdR fdO fdW : FuncData}
theorem ok_join (F : Fun K "is_joined" "is_joined" sJoined f fd) (FE : Fun K "either_way" "either_way" sEither fE fdE) (gE : mg "either_way" = some (.ref fE)) (GE : FnOk P w K mg base CX0 2 fE fdE ["arcs", "names"] spEith) (FR : Fun K "reached" "reached" sReached fR fdR) (gR : mg "reached" = some (.ref fR)) (nN : mg "len" = none) : FnOk P w K mg base CX0 3 f fd ["arcs", "names", "asked"] spJoin := by
  have bE := FE.binds (ps := ["arcs", "names"]) fun _ _ _ _ _ _ us hl => match us, hl with | [_, _], _ => rfl
  have GR : FnOk P w K mg base CX0 1 fR fdR ["steps", "begin"] spReachG := ok_reachG FR nN
  have bR := FR.binds (ps := ["steps", "begin"]) fun _ _ _ _ _ _ us hl => match us, hl with | [_, _], _ => rfl
  refine F.ok scJo (fun vs H Q E h => by obtain ⟨D, q, arcs, L, A, e, e', _⟩ := h; rw [e']; rfl) fun cdv A outer s H vs Q E hr hsp => ?_
  obtain ⟨D, q, arcs, L, A0, e, rfl, at_, oq, sub, sh, he, hq⟩ := hsp
  have hu := hu_of (hr.mono (show 1 ≤ 2 by decide))
  refine ⟨_, pss_one (ps_ret (pe_cmp (pc_din hu (pe_ix (r := rIx K) ix_seq (pe_dget hu (pv 0) (pv 2) (fun _ _ => rfl)) pe_int (fun _ _ => rfl)) (pe_call GR (hr.mono (by decide)) rfl gR FR.kp bR .nil pass0 (pa_cons (pe_call GE hr rfl gE FE.kp bE .nil pass0 (pa_cons (pv 0) (pa_cons (pv 1) pa_nil))) (pa_cons (pe_ix (r := rIx K) ix_seq (pe_dget hu (pv 0) (pv 2) (fun _ _ => rfl)) pe_int (fun _ _ => rfl)) pa_nil)))))), ?_⟩
  obtain ⟨es, t0, oD, ev0, _, ot⟩ := arc_at at_ he
  have dg : ∀ {G : Hp}, Same H G → DGet G D (.str e.1) (some (.ref t0)) := fun s => .inl ⟨es, Sum.inr e.1, .inl (s _ _ oD), rfl, ev0.symm⟩
  refine ⟨_, rfl, _, rfl, D, _, rfl, dg (Same.refl _), .inr (.inl ⟨t0, _, _, _, rfl, rfl, SqT.of ot, rfl, ?_⟩)⟩
  refine ⟨_, rfl, _, rfl, D, q, arcs, L, A0, rfl, at_, oq, sub, sh, fun H1 r ts n1 o1 p1 k1 => ?_⟩
  refine ⟨_, rfl, _, rfl, D, _, rfl, dg k1, .inr (.inl ⟨t0, _, _, _, rfl, rfl, SqT.of (k1 _ _ ot), rfl, ?_⟩)⟩
  refine ⟨r, e.2.2, ts, eiS L, rfl, o1, p1, by rw [eiS_len]; omega, fun H2 FD es2 F n2 o2 p2 FO mem k2 => ?_⟩
  refine ⟨FD, _, rfl, DGet.k (k := Sum.inr e.2.1) o2, ?_⟩
  refine hq H2 _ ⟨fun h => (mem e.2.1).mp ?_, fun h => ?_⟩ (k1.trans k2)
  · refine Classical.byContradiction fun c => ?_
    have h : (valV es2 (Sum.inr e.2.1)).isSome = true := h
    rw [(val_inS (fe_keys p2) e.2.1).2 c] at h
    cases h
  · obtain ⟨v, ev⟩ := (val_inS (fe_keys p2) e.2.1).1 ((mem e.2.1).mpr h)
    show (valV es2 (Sum.inr e.2.1)).isSome = true
    rw [ev]
    rfl
theorem ok_ring (F : Fun K "ring_through" "ring_through" sRing f fd) (FE' : Fun K "either_way" "either_way" sEither fE fdE) (gE : mg "either_way" = some (.ref fE)) (GE : FnOk P w K mg base CX0 2 fE fdE ["arcs", "names"] spEith) (FR : Fun K "reached" "reached" sReached fR fdR) (gR : mg "reached" = some (.ref fR)) (FO' : Fun K "onward" "onward" sOnward fO fdO) (gO : mg "onward" = some (.ref fO)) (FW : Fun K "way_to" "way_to" sWayTo fW fdW) (gW : mg "way_to" = some (.ref fW)) (nN : mg "len" = none) : FnOk P w K mg base CX0 3 f fd ["arcs", "names", "asked"] spRing := by
  have bE := FE'.binds (ps := ["arcs", "names"]) fun _ _ _ _ _ _ us hl => match us, hl with | [_, _], _ => rfl
  have GR : FnOk P w K mg base CX0 1 fR fdR ["steps", "begin"] spReachG := ok_reachG FR nN
  have bR := FR.binds (ps := ["steps", "begin"]) fun _ _ _ _ _ _ us hl => match us, hl with | [_, _], _ => rfl
  have GO : FnOk P w K mg base CX0 1 fO fdO ["arcs", "names"] (spStp onS) := ok_onL FO'
  have bO := FO'.binds (ps := ["arcs", "names"]) fun _ _ _ _ _ _ us hl => match us, hl with | [_, _], _ => rfl
  have GW : FnOk P w K mg base CX0 1 fW fdW ["found", "node"] (spWayTo K) := ok_wayTo FW
  have bW := FW.binds (ps := ["found", "node"]) fun _ _ _ _ _ _ us hl => match us, hl with | [_, _], _ => rfl
  refine F.ok scRi (fun vs H Q E h => by obtain ⟨D, q, arcs, L, A, e, e', _⟩ := h; rw [e']; rfl) fun cdv A outer s H vs Q E hr hsp => ?_
  obtain ⟨D, q, arcs, L, A0, e, rfl, at_, oq, sub, sh, he, re, hq⟩ := hsp
  have nd := scRi.nd
  have hu := hu_of (hr.mono (show 1 ≤ 2 by decide))
  refine ⟨_, pss_cons (ps_asg (pe_dget hu (pv 0) (pv 2) (fun _ _ => rfl)) (pg_tup (n := 2) rfl (pgs_cons (pg_name (i := 3) nd rfl (Or.inl rfl)) (pgs_cons (pg_name (i := 4) nd rfl (Or.inl rfl)) pgs_nil))))
    (pss_one (ps_ret (pe_op op_cat (pe_call GO (hr.mono (by decide)) rfl gO FO'.kp bO .nil pass0 (pa_cons (pv 0) (pa_cons (pe_lst (pa_cons (pv 2) pa_nil)) pa_nil)))
      (pe_call GW (hr.mono (by decide)) rfl gW FW.kp bW .nil pass0 (pa_cons (pe_call GR (hr.mono (by decide)) rfl gR FR.kp bR .nil pass0 (pa_cons (pe_call GE hr rfl gE FE'.kp bE .nil pass0 (pa_cons (pv 0) (pa_cons (pv 1) pa_nil))) (pa_cons (pv 4) pa_nil))) (pa_cons (pv 3) pa_nil)))))), ?_⟩
  obtain ⟨es, t0, oD, ev0, _, ot⟩ := arc_at at_ he
  refine ⟨_, rfl, _, rfl, D, _, rfl, .inl ⟨es, Sum.inr e.1, .inl oD, rfl, ev0.symm⟩, t0, _, rfl, SqT.of ot, rfl, _, _, rfl, _, _, rfl, rfl, ?_⟩
  refine ⟨_, rfl, _, rfl, (by show 1 ≤ sizeLine; decide), fun p np => ?_⟩
  have kp := same_new (o := .lst [.str e.1]) np
  refine ⟨D, p, arcs, [e], A0, rfl, PyD.kp at_ (fun b o a e => ⟨a, kp _ _ e⟩), upd_same, fun e' h => by rw [List.mem_singleton.mp h]; exact he, by show 1 < 1000; decide, fun H1 r1 ts1 n1 o1 p1 k1 => ?_⟩
  have k01 := kp.trans k1
  refine ⟨_, rfl, _, rfl, D, q, arcs, L, A0, rfl, PyD.kp at_ (fun b o a e => ⟨a, k01 _ _ e⟩), k01 _ _ oq, sub, sh, fun H2 r2 ts2 n2 o2 p2 k2 => ?_⟩
  refine ⟨_, rfl, r2, e.2.2, ts2, eiS L, rfl, o2, p2, by rw [eiS_len]; omega, fun H3 FD es3 F n3 o3 p3 FO mem k3 => ?_⟩
  have lF := reach_short FO
  rw [eiS_len] at lF
  refine ⟨_, rfl, FD, e.2.1, e.2.2, es3, F, eiS L, rfl, o3, p3, FO, (mem e.2.1).mpr re, by omega, fun H4 r4 ts4 W n4 o4 p4 sW lW k4 => ?_⟩
  have k14 := (k2.trans k3).trans k4
  have l1 := Paired.length p1
  have l4 := Paired.length p4
  have l1' : ts1.length = 1 := by rw [l1]; rfl
  refine ⟨r1, r4, _, _, rfl, rfl, k14 _ _ o1, o4, by rw [List.length_map, List.length_map, sizeLine_eq]; omega, fun r nr => ?_⟩
  have k5 := same_new (o := .lst (ts1.map V.ref ++ ts4.map V.ref)) nr
  refine hq _ r (ts1 ++ ts4) ([e].map onS ++ W) (by rw [upd_same, List.map_append]) (paired_appR (Paired.mapP p1 fun t s h => (k14.trans k5) _ _ h) (Paired.mapP p4 fun t s h => k5 _ _ h)) (by rw [List.length_append]; show 1 + _ < _; omega) (fun s hs => ?_) ((k01.trans k14).trans k5)
  rcases List.mem_append.mp hs with h | h
  · obtain ⟨e', _, rfl⟩ := List.mem_map.mp h
    exact .inl rfl
  · rcases List.mem_append.mp (sW s h) with h | h
    · obtain ⟨e', _, rfl⟩ := List.mem_map.mp h
      exact .inl rfl
    · obtain ⟨e', _, rfl⟩ := List.mem_map.mp h
      exact .inr rfl
theorem ok_shift (F : Fun K "shifted" "shifted" sShifted f fd) : FnOk P w K mg base CX0 1 f fd ["world", "ring", "much"] spShift := by
  refine F.ok scSh (fun vs H Q E h => by obtain ⟨W, r, arcs, x, ts, S, e, _⟩ := h; rw [e]; rfl) fun cdv A outer s H vs Q E hr hsp => ?_
  obtain ⟨W, r, arcs, x, ts, S, rfl, oW, rnd, sh, or, pr, lS, sg, hq⟩ := hsp
  have nd := scSh.nd
  have hu := hu_of hr
  refine ⟨_, pss_cons (ps_set (i := 3) nd rfl (Or.inr rfl) (pe_dc (own := [("step", 4)]) (tt := tYes) (g := gName 4) (tk := tOp (rIx K) (tVar 4) (tC (.int 0))) (tv := tOp (rIx K) (tVar 4) (tC (.int 1))) rfl nd (pi_list (pv 1)) (blkOk_by (N := NSh) (sc := defScope sShifted) (by decide +kernel)) (fun _ _ _ _ _ => pg_name (i := 4) nd rfl (Or.inl rfl)) (fun _ _ _ _ _ => pts_nil) (fun _ _ _ _ _ => pe_ix (r := rIx K) ix_seq (pv 4) pe_int (fun _ _ => rfl)) (fun _ _ _ _ _ => pe_ix (r := rIx K) ix_seq (pv 4) pe_int (fun _ _ => rfl))))
    (pss_one (ps_ret (pe_lock (pe_dc (own := [("name", 5)]) (tt := tYes) (g := gName 5) (tk := tVar 5) (tv := tOp (rI0 fun i j => .int (i + j)) (tDGet (tVar 0) (tVar 5)) (tOp (rI CMul fun i j => .int (i * j)) (tVar 2) (tDGet2 (tVar 3) (tVar 5) (tC (.int 0))))) rfl nd (pi_keys (pv 0)) (blkOk_by (N := NSh) (sc := defScope sShifted) (by decide +kernel)) (fun _ _ _ _ _ => pg_name (i := 5) nd rfl (Or.inl rfl)) (fun _ _ _ _ _ => pts_nil) (fun _ _ _ _ _ => pv 5)
      (fun _ _ _ _ _ => pe_op op_add (pe_dget hu (pv 0) (pv 5) (fun _ _ => rfl)) (pe_op op_mul (pv 2) (pe_dget2 hu (pv 3) (pv 5) pe_int ⟨rfl, rfl, rfl, rfl⟩))))))), ?_⟩
  have lt := Paired.length pr
  refine ⟨_, rfl, r, rfl, ⟨_, SqL.of or⟩, ?_⟩
  refine dc_ints ts.length (fun z => z = 1 ∨ z = -1) (by omega) (fun i H' s lt => ⟨_, _, SqL.of (s _ _ or), List.getElem?_eq_getElem (by rw [List.length_map]; exact lt)⟩) (fun H' s => ⟨_, SqL.of (s _ _ or), by rw [List.length_map]; exact Nat.le_refl _⟩) ?_ ?_
  · rintro i y H2 H3 Cn Nn li s2 ⟨rfl, ev⟩ yes
    have ev := ev _ (SqL.of (s2 _ _ or))
    rw [List.getElem?_map] at ev
    obtain ⟨t, et, rfl⟩ := Option.map_eq_some_iff.mp ev
    obtain ⟨st, es, ot⟩ := paired_get pr et
    have ot3 := s2 _ _ ot
    exact ⟨rfl, _, rfl, .inr (.inl ⟨t, _, _, _, rfl, rfl, SqT.of ot3, rfl, _, rfl, .inr (.inl ⟨t, _, _, _, rfl, rfl, SqT.of ot3, rfl, yes _ _ _ (sg st (List.mem_of_getElem? es)) (Same.refl _)⟩)⟩)⟩
  intro H2 SG kvs nS oS al s2
  have oW2 := s2 _ _ oW
  refine ⟨W, _, oW2, trivial, fun oo => ⟨_, rfl, W, oo, rfl, .inl ⟨valD (fun n => .int (x n)) arcs, upd_same, ?_⟩⟩⟩
  have oL : upd H2 W (.frz oo (.dK (valD (fun n => .int (x n)) arcs))) W = some (.frz oo (.dK (valD (fun n => .int (x n)) arcs))) := upd_same
  have lv : (valD (fun n => V.int (x n)) arcs).length = arcs.length := List.length_map _
  have ek : (valD (fun n => V.int (x n)) arcs).map (·.1) = (arcs.map (·.1)).map Sum.inr := by unfold valD; rw [List.map_map, List.map_map]; rfl
  have ndv := valD_ndK (x := x) rnd
  have SW : SG ≠ W := fun z => by rw [z, oW] at nS; cases nS
  refine dc_madeN ((valD (fun n => .int (x n)) arcs).map (·.1)) (by rw [List.length_map, lv]; omega) ndv (fun i H' s lt => ⟨s _ _ oL, by rw [List.length_map] at lt; exact lt⟩) (fun H' s => ⟨s _ _ oL, by rw [List.length_map]; exact Nat.le_refl _⟩)
    (fun i y H' => ∃ z : Int, y = .int z) (fun i y H6 H7 D2 l h _ _ => h) ?_ ?_
  · rintro i y k H6 H7 Cn Nn ek2 s6 ⟨rfl, k2, v0, ekv, rfl⟩ yes
    rw [List.getElem?_map, ekv] at ek2
    obtain rfl : k2 = k := Option.some.inj ek2
    unfold valD at ekv
    rw [List.getElem?_map] at ekv
    obtain ⟨e, ee, he⟩ := Option.map_eq_some_iff.mp ekv
    obtain ⟨rfl, rfl⟩ := Prod.mk.inj he
    have oS6 := s6 _ _ (show upd H2 W (.frz oo (.dK (valD (fun n => .int (x n)) arcs))) SG = _ by rw [upd_ne SW]; exact oS)
    refine ⟨rfl, _, rfl, _, rfl, _, rfl, W, _, rfl, .inl ⟨_, Sum.inr e.1, .inr ⟨oo, s6 _ _ oL⟩, rfl, (valD_getI rnd (List.mem_of_getElem? ee)).symm⟩, _, rfl, _, rfl, SG, rfl, .inl ⟨_, .inl oS6⟩, _, rfl, _, DGet.k (k := Sum.inr e.1) oS6, ?_⟩
    cases q : valV kvs (Sum.inr e.1) with
    | none => exact ⟨_, _, rfl, rfl, by unfold CMul; decide, _, _, rfl, rfl, yes _ _ ⟨_, rfl⟩ (Same.refl _)⟩
    | some v =>
      obtain ⟨z, rfl, hz⟩ := al _ _ q
      refine ⟨_, _, rfl, rfl, ?_, _, _, rfl, rfl, yes _ _ ⟨_, rfl⟩ (Same.refl _)⟩
      rcases hz with rfl | rfl
      · unfold CMul; decide
      · unfold CMul; decide
  · intro H6 q kvs2 nq oq ek3 hR s6
    obtain ⟨b1, s16⟩ := lock_offN oW2 s6
    have qW : q ≠ W := fun z => by rw [z, oL] at nq; cases nq
    have s06 := s2.trans s16
    obtain ⟨y, hy⟩ : ∃ y : Str → Int, ∀ (j : Nat) (k : Key) (v : V), kvs2[j]? = some (k, v) → ∃ e : Str × ArT, arcs[j]? = some e ∧ v = V.int (y e.1) := by
      refine ⟨fun n => intV ((valV kvs2 (Sum.inr n)).getD .non), fun j k v e => ?_⟩
      obtain ⟨z, rfl⟩ := hR j k v e
      have e1 : (kvs2.map (·.1))[j]? = some k := by rw [List.getElem?_map, e]; rfl
      rw [ek3, ek, List.getElem?_map, List.getElem?_map] at e1
      obtain ⟨n, en, rfl⟩ := Option.map_eq_some_iff.mp e1
      obtain ⟨a, ea, rfl⟩ := Option.map_eq_some_iff.mp en
      refine ⟨a, ea, ?_⟩
      have ndk : (kvs2.map (·.1)).Nodup := by rw [ek3]; exact ndv
      show V.int z = V.int (intV ((valV kvs2 (Sum.inr a.1)).getD V.non))
      rw [valV_atN ndk e]
      rfl
    have e : kvs2 = valD (fun n => .int (y n)) arcs := valD_of (ek3.trans ek) fun j k v h => hy j k v h
    refine ⟨b1, hq _ q y ?_ (by rw [upd_ne qW, oq, e]) s06⟩
    rw [upd_ne qW] at nq
    cases z : H q with
    | none => rfl
    | some o => rw [s2 _ _ z] at nq; cases nq
end
end L2.TB
/-! a net made -/
namespace L2.TB
open PySem PySem.Spec PyProof.Rows
theorem made_nt {K : PySem.W.Frag} {C g : Addr} {arcs : NtT} {es : List (Key × V)} {H : Hp} {E : XK} {Q : Addr → Hp → Prop} (hg : H g = some (.dK es)) (hp : Paired (HandArc K (fun _ => True) H) es arcs) (ok : NtOk arcs)
    (fin : ∀ H' x, H x = none → NetA (fun b => H b = none) H' C x arcs → Same H H' → Q x H') :
    ∀ x dx, H x = none → H dx = none → dx ≠ x → spNInit K C (.ref x :: ([.ref g] ++ [])) (upd (upd H dx (.own x)) x (.ins C dx [])) (fun v H2 => v = .non ∧ Q x H2) E := by
  intro x dx nx ndx nex
  have kx : Same H (upd (upd H dx (.own x)) x (.ins C dx [])) := fun b o e => by rw [upd_ne (ne_of_none e nx), upd_ne (ne_of_none e ndx)]; exact e
  exact ⟨x, dx, g, arcs, es, rfl, upd_same, kx _ _ hg, Paired.mapP hp fun e q h => h.keep fun b o a e => ⟨a, kx _ _ e⟩, ok, fun H2 T fr => ⟨rfl, fin H2 x nx (T.keep (fun o e => e) fun b o a e => ⟨kx.free a, e⟩) fun b o e => fr b o (ne_of_none e nx) (kx _ _ e)⟩⟩
theorem paired_appN {α β : Type} {F : α → β → Prop} {as as' : List α} {bs bs' : List β} (h : Paired F as bs) (h' : Paired F as' bs') : Paired F (as ++ as') (bs ++ bs') := by
  induction h with
  | nil => exact h'
  | cons h _ ih => exact .cons h ih
/-- one entry more -/
theorem tab_put {A : Addr → Prop} {H Hc : Hp} {D : Addr} {es : List (Key × V)} {L : NtT} {m : Nat} {k x y : Str} (nD : H D = none) (nd : (L.map (·.1)).Nodup) (oD : Hc D = some (.dK es)) (pr : Paired (DcE A Hc) es (L.take m)) (kc : Same H Hc) (el : L[m]? = some (k, (x, y))) (hA : ∀ b, A b → b ≠ D) {t : Addr} (nt : Hc t = none) (At : A t) :
    ∃ es', putK es (Sum.inr k) (.ref t) = es' ∧ Paired (DcE A (upd (upd Hc t (.tup [.str x, .str y])) D (.dK es'))) es' (L.take (m + 1)) ∧ Same H (upd (upd Hc t (.tup [.str x, .str y])) D (.dK es')) ∧ upd Hc t (.tup [.str x, .str y]) D = some (.dK es) ∧ es.length = m := by
  have lt := (List.getElem?_eq_some_iff.mp el).1
  have les : es.length = m := by
    rw [Paired.length pr, List.length_take]
    omega
  have tD : t ≠ D := fun z => by rw [z, oD] at nt; cases nt
  have tk : L.take (m + 1) = L.take m ++ [(k, (x, y))] := by rw [List.take_succ, el]; rfl
  have out : (Sum.inr k : Key) ∉ es.map (·.1) := fun z => by
    rw [dc_keys pr] at z
    obtain ⟨k', hk, e⟩ := List.mem_map.mp z
    obtain rfl := Sum.inr.inj e
    obtain ⟨q, hq, rfl⟩ := List.mem_map.mp hk
    obtain ⟨j, hj⟩ := List.getElem?_of_mem hq
    have lj := (List.getElem?_eq_some_iff.mp hj).1
    rw [List.length_take] at lj
    rw [List.getElem?_take_of_lt (by omega)] at hj
    have e1 : (L.map (·.1))[j]? = some q.1 := by rw [List.getElem?_map, hj]; rfl
    have e2 : (L.map (·.1))[m]? = some q.1 := by rw [List.getElem?_map, el]; rfl
    have := (List.getElem?_inj (List.getElem?_eq_some_iff.mp e1).1 nd).mp (e1.trans e2.symm)
    omega
  refine ⟨_, put_last out, ?_, fun b o e => ?_, by rw [upd_ne (Ne.symm tD)]; exact oD, les⟩
  · rw [tk]
    have kp : ∀ b o, A b → Hc b = some o → A b ∧ upd (upd Hc t (.tup [.str x, .str y])) D (.dK (es ++ [(Sum.inr k, .ref t)])) b = some o := fun b o a e => ⟨a, by rw [upd_ne (hA b a), upd_ne (ne_of_none e nt)]; exact e⟩
    refine paired_appN (Paired.mapP pr fun e q h => ⟨h.1, PyD.kp h.2 kp⟩) (.cons ⟨rfl, t, .str x, .str y, rfl, At, by rw [upd_ne tD, upd_same], rfl, rfl⟩ .nil)
  · rw [upd_ne (ne_of_none e nD), upd_ne (ne_of_none (kc _ _ e) nt)]
    exact kc _ _ e
end L2.TB
/-! branches that go on alike: what both give is told once -/
namespace L2.TB
open PySem PySem.Spec PyProof.Rows
section
variable {X : Cx}
def tVia (te : TE) : TE := fun σ H Q => ∃ A : V → Hp → Prop, te σ H (fun v H' => A v H') ∧ ∀ v H', A v H' → Q v H'
theorem pe_via {e : Expr} {te : TE} (he : PE X e te) : PE X e (tVia te) := ⟨fun pins s σ H Q I h => by
  obtain ⟨A, h, k⟩ := h
  exact wpAny_mono (he.run pins s σ H _ I h) (fun v s' z => let ⟨x, H1, I1, r, q⟩ := z; ⟨x, H1, I1, r, k _ _ q⟩) fun _ _ z => z⟩
def sVia (ts : TS) : TS := fun D σ H => ∃ N : St → Hp → Prop, ts { D with nx := fun σ' H' => N σ' H' } σ H ∧ ∀ σ' H', N σ' H' → D.nx σ' H'
theorem ps_via {st : Stmt} {ts : TS} (hs : PS X st ts) : PS X st (sVia ts) := ⟨fun pins s σ H D I h => by
  obtain ⟨N, h, k⟩ := h
  refine wpAny_mono (hs.run pins s σ H _ I h) (fun g s' z => ?_) fun _ _ z => z
  cases g with
  | next =>
    obtain ⟨σ2, H2, I2, q⟩ := z
    exact ⟨σ2, H2, I2, k _ _ q⟩
  | ret w2 => exact z
  | brk => exact z
  | cont => exact z⟩
end
end L2.TB
/-! _law_c_arcs -/
namespace L2.TB
open PySem PySem.Spec PyProof.Rows
structure LArcs (arcs : NtT) : Prop where
  n0 : 2 ≤ arcs.length
  n1 : arcs.length ≤ 8
  nd : (arcs.map (·.1)).Nodup
  nm : ∀ e ∈ arcs, NmS e.1 ∧ NmS e.2.1 ∧ NmS e.2.2
theorem LArcs.ok {arcs : NtT} (h : LArcs arcs) : NtOk arcs := ⟨by have := h.n0; omega, by have := h.n1; omega, h.nd, fun e he => ⟨(h.nm e he).1.1, (h.nm e he).2.1.1, (h.nm e he).2.2.1⟩⟩
def spArcsL : Sp := fun vs H Q _ => ∃ (l ls : Addr) (N : Int), vs = [.ref l, .int 8] ∧ Strm H l ls N ∧ N ≤ 800000 ∧
  ∀ H' D arcs, LArcs arcs → PyD.at_ (fun b => H b = none ∧ b ≠ l ∧ b ≠ ls) H' (.ref D) (Dc.mk arcs) → Strm H' l ls (N + 200) → But l ls H H' → Q (.ref D) H'
abbrev NAl : List Str := ["stream", "most", "nodes", "names", "found", "at", "name", "one", "other"]
theorem scArcsL : FnScope NAl ["stream", "most"] (defScope sArcsL) := ⟨rfl, rfl, rfl, by decide +kernel, rfl, by decide +kernel, by decide +kernel⟩
theorem Strm.low {H H' : Hp} {l ls b : Addr} {N : Int} (S : Strm H' l ls N) (B : But l ls H H') (n : H' b = none) : H b = none ∧ b ≠ l ∧ b ≠ ls := by
  have a := S.apart (Same.refl _) n
  exact ⟨B.free a n, a⟩
section
variable {P : Program} {w : World} {K : PySem.W.Frag} {mg : Str → Option Value} {base : Heap} {f fD fP fN : Addr} {fd fdD fdP fdN : FuncData}
theorem ok_arcsL (F : Fun K "_law_c_arcs" "_law_c_arcs" sArcsL f fd) (FD : Fun K "_law_draw" "_law_draw" sDraw fD fdD) (gD : mg "_law_draw" = some (.ref fD)) (FP : Fun K "_law_pick" "_law_pick" sPick fP fdP) (gP : mg "_law_pick" = some (.ref fP)) (FN : Fun K "_law_names" "_law_names" sNamesL fN fdN) (gNm : mg "_law_names" = some (.ref fN)) (GN : FnOk P w K mg base CX0 4 fN fdN ["stream", "many"] spNames)
    (gI : mg "int" = none) (gN : mg "len" = none) (gE : mg "enumerate" = none) : FnOk P w K mg base CX0 5 f fd ["stream", "most"] spArcsL := by
  have GD : FnOk P w K mg base CX0 1 fD fdD ["stream", "many"] spDraw := ok_draw FD gI
  have bD := FD.binds (ps := ["stream", "many"]) fun _ _ _ _ _ _ us hl => match us, hl with | [_, _], _ => rfl
  have GP : FnOk P w K mg base CX0 2 fP fdP ["stream", "some"] (spPick K) := ok_pick FP FD gD gI gN
  have bP := FP.binds (ps := ["stream", "some"]) fun _ _ _ _ _ _ us hl => match us, hl with | [_, _], _ => rfl
  have bN := FN.binds (ps := ["stream", "many"]) fun _ _ _ _ _ _ us hl => match us, hl with | [_, _], _ => rfl
  refine F.ok scArcsL (fun vs H Q E h => by obtain ⟨l, ls, N, e, _⟩ := h; rw [e]; rfl) fun cdv A outer s H vs Q E hr hsp => ?_
  obtain ⟨l, ls, N, rfl, S, hN, hq⟩ := hsp
  have nd := scArcsL.nd
  have hu := hu_of (hr.mono (show 1 ≤ 4 by decide))
  have hr1 := hr.mono (show 1 ≤ 4 by decide)
  have hr2 := hr.mono (show 2 ≤ 4 by decide)
  refine ⟨_, pss_cons (ps_set (i := 2) nd rfl (Or.inl rfl) (pe_call GN hr rfl gNm FN.kp bN .nil pass0 (pa_cons (pv 0) (pa_cons (pe_op op_add pe_int (pe_call GD hr1 rfl gD FD.kp bD .nil pass0 (pa_cons (pv 0) (pa_cons pe_int pa_nil)))) pa_nil))))
    (pss_cons (ps_par (i := 3) (j := 4) rfl nd rfl rfl (by decide) rfl rfl (pa_cons (pe_call GN hr rfl gNm FN.kp bN .nil pass0 (pa_cons (pv 0) (pa_cons (pe_op op_add pe_int (pe_call GD hr1 rfl gD FD.kp bD .nil pass0 (pa_cons (pv 0) (pa_cons (pe_op op_sub (pv 1) pe_int) pa_nil)))) pa_nil))) (pa_cons pe_dnewK pa_nil)) (by rfl))
    (pss_cons (ps_for PassesOwn.never rfl (pi_enumS rfl gE (pa_cons (pv 3) pa_nil)) (pg_tup rfl (pgs_cons (pg_name (i := 5) nd rfl (Or.inl rfl)) (pgs_cons (pg_name (i := 6) nd rfl (Or.inl rfl)) pgs_nil)))
      (pss_cons (ps_set (i := 7) nd rfl (Or.inl rfl) (pe_via (pe_ifExp (pt_cmpR op_gt (pe_call GD hr1 rfl gD FD.kp bD .nil pass0 (pa_cons (pv 0) (pa_cons pe_int pa_nil))) pe_int (nomark _)) (pe_ix (r := rIxL K) ix_list (pv 2) (pe_op op_mod (pv 5) (pe_callB call_len rfl gN boot_len (pa_cons (pv 2) pa_nil))) (fun _ _ => rfl)) (pe_call GP hr2 rfl gP FP.kp bP .nil pass0 (pa_cons (pv 0) (pa_cons (pv 2) pa_nil))))))
      (pss_cons (ps_set (i := 8) nd rfl (Or.inl rfl) (pe_via (pe_ifExp (pt_cmpR op_gt (pe_call GD hr1 rfl gD FD.kp bD .nil pass0 (pa_cons (pv 0) (pa_cons pe_int pa_nil))) pe_int (nomark _)) (pe_ix (r := rIxL K) ix_list (pv 2) (pe_op op_mod (pe_op op_add (pv 5) pe_int) (pe_callB call_len rfl gN boot_len (pa_cons (pv 2) pa_nil))) (fun _ _ => rfl)) (pe_call GP hr2 rfl gP FP.kp bP .nil pass0 (pa_cons (pv 0) (pa_cons (pv 2) pa_nil))))))
      (pss_one (ps_dput hu (pv 4) (pv 6) (pe_tup (pa_cons (pv 7) (pa_cons (pv 8) pa_nil))) rfl)))))
    (pss_one (ps_ret (pv 4))))), ?_⟩
  refine ⟨_, rfl, _, rfl, l, ls, 4, N, rfl, S, by omega, by decide, by decide, fun H1 d0 z0 z1 S1 B1 => ?_⟩
  refine ⟨_, _, rfl, rfl, l, ls, _, _, rfl, S1, by omega, by omega, by omega, fun H2 nd0 ns nsl nsn nso nnd ond S2 B2 => ?_⟩
  refine ⟨_, rfl, _, rfl, _, rfl, _, _, rfl, rfl, l, ls, _, _, rfl, S2, by omega, by decide, by decide, fun H3 d1 y0 y1 S3 B3 => ?_⟩
  refine ⟨_, _, rfl, rfl, l, ls, _, _, rfl, S3, by omega, by omega, by omega, fun H4 nm ks ksl ksn kso nnm onm S4 B4 => ?_⟩
  have and0 := S1.apart (Same.refl _) nnd
  have anm := S3.apart (Same.refl _) nnm
  have B03 := (B1.trans B2).trans B3
  have B04 := B03.trans B4
  have ond4 := B4 _ _ and0.1 and0.2 (B3 _ _ and0.1 and0.2 ond)
  intro D nD
  have aD := S4.apart (Same.refl _) nD
  have lowD : H D = none := B04.free aD nD
  have kD := same_new (o := .dK []) nD
  have oD5 : upd H4 D (.dK []) D = some (.dK []) := upd_same
  have S5 := S4.same kD
  have B05 := B04.trans (.of kD)
  have ond5 := kD _ _ ond4
  have onm5 := kD _ _ onm
  have ndD : nd0 ≠ D := fun z => by rw [z, nD] at ond4; cases ond4
  have nmD : nm ≠ D := fun z => by rw [z, nD] at onm; cases onm
  generalize upd H4 D (.dK []) = H5 at kD oD5 S5 B05 ond5 onm5
  refine ⟨_, _, rfl, ?_⟩
  have n5 : ns.length ≤ 5 := by omega
  have n2 : 2 ≤ ns.length := by omega
  have k2 : 2 ≤ ks.length := by omega
  have k8 : ks.length ≤ 8 := by omega
  refine ⟨_, rfl, enum_seq (xs := ks.map V.str) (.inl rfl) (fun i σ H' => (∃ (es : List (Key × V)) (arcs : NtT), H' D = some (.dK es) ∧ Paired (DcE (fun b => (H b = none ∧ b ≠ l ∧ b ≠ ls) ∧ b ≠ D) H') es arcs ∧ arcs.map (·.1) = ks.take i ∧ ∀ e ∈ arcs, e.2.1 ∈ ns ∧ e.2.2 ∈ ns) ∧
      Strm H' l ls (N + 140 + 5 * i) ∧ But l ls H H' ∧ H' nd0 = some (.lst (ns.map V.str)) ∧ H' nm = some (.lst (ks.map V.str)) ∧ ∃ s5 s6 s7 s8, σ = [some (.ref l), some (.int 8), some (.ref nd0), some (.ref nm), some (.ref D), s5, s6, s7, s8])
    ⟨⟨[], [], oD5, .nil, by simp, fun e he => by cases he⟩, S5.mono (by omega), B05, ond5, onm5, _, _, _, _, rfl⟩ (fun i σ H' _ h => h.2.2.2.2.1) ?_ ?_⟩
  · rintro i v σ H6 T ev ⟨⟨es, arcs, oD6, pr6, ek6, in6⟩, S6, B6, ond6, onm6, s5, s6, s7, s8, rfl⟩ nT
    rw [List.getElem?_map] at ev
    obtain ⟨n, en, rfl⟩ := Option.map_eq_some_iff.mp ev
    have li : i < ks.length := (List.getElem?_eq_some_iff.mp en).1
    have kT := same_new (o := .tup [.int (i : Nat), .str n]) nT
    have S7 := S6.same kT
    have B7 := B6.trans (.of kT)
    have oT : upd H6 T (.tup [.int (i : Nat), .str n]) T = some (.tup [.int (i : Nat), .str n]) := upd_same
    have B67 : But l ls H6 (upd H6 T (.tup [.int (i : Nat), .str n])) := .of kT
    generalize upd H6 T (.tup [.int (i : Nat), .str n]) = H7 at kT S7 B7 oT B67
    refine ⟨T, _, rfl, SqT.of oT, rfl, _, _, rfl, _, _, rfl, rfl, ?_⟩
    have lenN : ∀ {H' : Hp}, H' nd0 = some (.lst (ns.map V.str)) → LenV K (.ref nd0) H' ns.length := fun e => .inl ⟨_, SqL.of e, by rw [List.length_map]⟩
    have ixn : ∀ j : Nat, ∃ x, ns[(j % ns.length)]? = some x := fun j => ⟨_, List.getElem?_eq_getElem (Nat.mod_lt _ (by omega))⟩
    refine ⟨fun v H' => (∃ x, x ∈ ns ∧ v = .str x) ∧ Strm H' l ls (N + 140 + 5 * i + 2) ∧ But l ls H7 H', ?_, ?_⟩
    · refine ⟨_, rfl, l, ls, 3, _, rfl, S7, by omega, by decide, by decide, fun H8 r r0 r1 S8 B8 => ?_⟩
      refine ⟨_, _, rfl, rfl, _, rfl, ?_⟩
      have B8 := B8
      have ond8 := B8 _ _ and0.1 and0.2 (B67 _ _ and0.1 and0.2 ond6)
      by_cases c : 0 < r
      · rw [decide_eq_true (show r > 0 from c)]
        refine iteT ?_
        obtain ⟨x, ex⟩ := ixn (i)
        refine ⟨_, rfl, _, rfl, _, rfl, .ref nd0, ns.length, rfl, lenN ond8, _, _, rfl, rfl, (by omega), nd0, _, _, .str x, rfl, rfl, SqL.of ond8, atI_nat (j := (i) % ns.length) (by rw [List.getElem?_map, ex]; rfl), ?_⟩
        exact ⟨⟨x, List.mem_of_getElem? ex, rfl⟩, S8.mono (by omega), B8⟩
      · rw [decide_eq_false (show ¬ r > 0 from c)]
        refine iteF ?_
        refine ⟨_, rfl, _, rfl, l, ls, nd0, _, _, rfl, S8, by omega, and0.1, and0.2, ond8, by rw [List.length_map]; omega, by rw [List.length_map]; omega, fun H9 v hv S9 B9 => ?_⟩
        obtain ⟨x, hx, rfl⟩ := List.mem_map.mp hv
        exact ⟨⟨x, hx, rfl⟩, S9.mono (by omega), B8.trans B9⟩
    rintro _ H9 ⟨⟨x, hx, rfl⟩, S9, B9⟩
    refine ⟨fun v H' => (∃ x, x ∈ ns ∧ v = .str x) ∧ Strm H' l ls (N + 140 + 5 * i + 4) ∧ But l ls H7 H', ?_, ?_⟩
    · refine ⟨_, rfl, l, ls, 3, _, rfl, S9, by omega, by decide, by decide, fun H8 r r0 r1 S8 B8 => ?_⟩
      refine ⟨_, _, rfl, rfl, _, rfl, ?_⟩
      have B8 := (B9.trans B8)
      have ond8 := B8 _ _ and0.1 and0.2 (B67 _ _ and0.1 and0.2 ond6)
      by_cases c : 0 < r
      · rw [decide_eq_true (show r > 0 from c)]
        refine iteT ?_
        obtain ⟨x, ex⟩ := ixn (i + 1)
        refine ⟨_, rfl, _, rfl, _, _, rfl, rfl, _, rfl, .ref nd0, ns.length, rfl, lenN ond8, _, _, rfl, rfl, (by omega), nd0, _, _, .str x, rfl, rfl, SqL.of ond8, atI_nat (j := (i + 1) % ns.length) (by rw [List.getElem?_map, ex]; rfl), ?_⟩
        exact ⟨⟨x, List.mem_of_getElem? ex, rfl⟩, S8.mono (by omega), B8⟩
      · rw [decide_eq_false (show ¬ r > 0 from c)]
        refine iteF ?_
        refine ⟨_, rfl, _, rfl, l, ls, nd0, _, _, rfl, S8, by omega, and0.1, and0.2, ond8, by rw [List.length_map]; omega, by rw [List.length_map]; omega, fun H9 v hv S9 B9 => ?_⟩
        obtain ⟨x, hx, rfl⟩ := List.mem_map.mp hv
        exact ⟨⟨x, hx, rfl⟩, S9.mono (by omega), B8.trans B9⟩
    rintro _ H10 ⟨⟨y, hy, rfl⟩, S10, B10⟩
    refine ⟨_, rfl, _, rfl, (by show 2 ≤ sizeLine; decide), fun t nt => ?_⟩
    have kt := same_new (o := .tup [.str x, .str y]) nt
    have ot : upd H10 t (.tup [.str x, .str y]) t = some (.tup [.str x, .str y]) := upd_same
    have B0t := (B7.trans B10).trans (.of kt)
    have lowt := S10.low (B7.trans B10) nt
    have up : ∀ {b : Addr} {o : HO}, b ≠ l → b ≠ ls → H6 b = some o → upd H10 t (.tup [.str x, .str y]) b = some o := fun h1 h2 e => kt _ _ (B10 _ _ h1 h2 (B67 _ _ h1 h2 e))
    have oD11 := up aD.1 aD.2 oD6
    have S11 := S10.same kt
    have tD : t ≠ D := fun z => by rw [z, B10 _ _ aD.1 aD.2 (B67 _ _ aD.1 aD.2 oD6)] at nt; cases nt
    have ll := congrArg List.length ek6
    rw [List.length_map, List.length_take] at ll
    have les : es.length = arcs.length := Paired.length pr6
    have nout : (Sum.inr n : Key) ∉ es.map (·.1) := fun hx => by
      rw [dc_keys pr6, ek6] at hx
      obtain ⟨y, hy, e1⟩ := List.mem_map.mp hx
      obtain rfl := Sum.inr.inj e1
      have et : ks.take (i + 1) = ks.take i ++ [y] := by rw [List.take_succ, en]; rfl
      have z2 : (ks.take (i + 1)).Nodup := ksn.sublist (List.take_sublist _ _)
      rw [et, List.nodup_append] at z2
      exact z2.2.2 y hy y (by simp) rfl
    refine ⟨_, rfl, _, rfl, D, _, rfl, DPut.k (k := Sum.inr n) oD11 (by rw [sizeLine_eq]; omega), ?_⟩
    rw [put_last nout]
    refine ⟨⟨es ++ [(Sum.inr n, .ref t)], arcs ++ [(n, (x, y))], upd_same, ?_, by rw [List.map_append, ek6, List.take_succ, en]; rfl, fun e he => ?_⟩, (strm_upd S11 aD).mono (by omega), ?_, by rw [upd_ne ndD]; exact up and0.1 and0.2 ond6, by rw [upd_ne nmD]; exact up anm.1 anm.2 onm6, _, _, _, _, rfl⟩
    · refine paired_appN (Paired.mapP pr6 fun e q h => ⟨h.1, PyD.kp h.2 fun b o a e => ⟨a, by rw [upd_ne a.2]; exact up a.1.2.1 a.1.2.2 e⟩⟩) (.cons ⟨rfl, t, .str x, .str y, rfl, ⟨lowt, tD⟩, by rw [upd_ne tD]; exact ot, rfl, rfl⟩ .nil)
    · rcases List.mem_append.mp he with h | h
      · exact in6 e h
      · rw [List.mem_singleton.mp h]; exact ⟨hx, hy⟩
    · intro b o h1 h2 e
      rw [upd_ne (ne_of_none e lowD)]
      exact B0t b o h1 h2 e
  · rintro σ H6 ⟨⟨es, arcs, oD6, pr6, ek6, in6⟩, S6, B6, ond6, onm6, s5, s6, s7, s8, rfl⟩
    rw [List.length_map, List.take_length] at ek6
    have la : arcs.length = ks.length := by rw [← ek6, List.length_map]
    refine ⟨_, rfl, hq H6 D arcs ⟨by omega, by omega, by rw [ek6]; exact ksn, fun e he => ⟨kso _ (by rw [← ek6]; exact List.mem_map_of_mem he), nso _ (in6 e he).1, nso _ (in6 e he).2⟩⟩ ⟨D, es, rfl, ⟨lowD, aD⟩, oD6, by rw [ek6]; exact ksn, Paired.mapP pr6 fun e q h => ⟨h.1, PyD.kp h.2 fun b o a e => ⟨a.1, e⟩⟩⟩ (S6.mono ?_) B6⟩
    rw [List.length_map]
    omega
end
end L2.TB
/-! _law_c_leads, _law_c_live, _law_c_nodes -/
namespace L2.TB
open PySem PySem.Spec PyProof.Rows
/-- a list of all that is reached -/
def LeadL (arcs : NtT) (b : Str) (S : List Str) : Prop := S.Nodup ∧ ∀ n, n ∈ S ↔ Reach (arcs.map (·.2)) b n
def spLeads : Sp := fun vs H Q _ => ∃ (D : Addr) (arcs : NtT) (A : Addr → Prop) (b : Str), vs = [.ref D, .str b] ∧ PyD.at_ A H (.ref D) (Dc.mk arcs) ∧ arcs.length < 1000 ∧ ∀ H' q S, H q = none → H' q = some (.lst (S.map V.str)) → LeadL arcs b S → S.length ≤ arcs.length + 1 → Same H H' → Q (.ref q) H'
abbrev NLd : List Str := ["arcs", "first", "found", "turn", "one", "other"]
theorem scLeads : FnScope NLd ["arcs", "first"] (defScope sLeads) := ⟨rfl, rfl, rfl, by decide +kernel, rfl, by decide +kernel, by decide +kernel⟩
theorem closed_all {E : List ArT} {b : Str} {S : List Str} (R : RI E b 0 S) (n : E.length + 1 ≤ S.length) : ∀ e ∈ E, e.2 ∈ S := fun e he => by
  by_cases m : e.2 ∈ S
  · exact m
  · have nd : (e.2 :: S).Nodup := List.nodup_cons.mpr ⟨m, R.nd⟩
    have z := nd_sub_len (l' := b :: E.map (·.2)) nd fun x hx => by
      rcases List.mem_cons.mp hx with rfl | hx
      · exact List.mem_cons_of_mem _ (List.mem_map_of_mem he)
      · rcases R.sub x hx with h | h
        · rw [h]; exact (List.mem_cons_self)
        · exact List.mem_cons_of_mem _ h
    rw [List.length_cons, List.length_cons, List.length_map] at z
    omega
section
variable {P : Program} {w : World} {K : PySem.W.Frag} {mg : Str → Option Value} {base : Heap} {f : Addr} {fd : FuncData}
theorem ok_leads (F : Fun K "_law_c_leads" "_law_c_leads" sLeads f fd) (nR : mg "range" = none) (nN : mg "len" = none) : FnOk P w K mg base CX0 1 f fd ["arcs", "first"] spLeads := by
  refine F.ok scLeads (fun vs H Q E h => by obtain ⟨D, arcs, A, b, e, _⟩ := h; rw [e]; rfl) fun cdv A outer s H vs Q E hr hsp => ?_
  obtain ⟨D, arcs, A0, b, rfl, at_, sh, hq⟩ := hsp
  have nd := scLeads.nd
  refine ⟨_, pss_cons (ps_set (i := 2) nd rfl (Or.inl rfl) (pe_lst (pa_cons (pv 1) pa_nil)))
    (pss_cons (ps_for PassesOwn.never rfl (pi_range1 rfl nR (pa_cons (pe_callB call_lenD rfl nN boot_len (pa_cons (pv 0) pa_nil)) pa_nil)) (pg_name (i := 3) nd rfl (Or.inl rfl))
      (pss_one (ps_lock (ps_for PassesOwn.never rfl (pi_values (pv 0)) (pg_tup rfl (pgs_cons (pg_name (i := 4) nd rfl (Or.inl rfl)) (pgs_cons (pg_name (i := 5) nd rfl (Or.inl rfl)) pgs_nil)))
        (pss_one (ps_via (ps_if (PW.pt (pw_and (pt_cmpR op_in_seq (pv 4) (pv 2) rfl) (pw_and1 (pt_cmpR op_notIn_seq (pv 5) (pv 2) rfl))))
          (pss_one (ps_expr (pe_bm PySem.F.plainAttrs_list PySem.F.slot_list_append PySem.F.type_list_append mt_append (pv 2) (pa_cons (pv 5) pa_nil)))) pss_nil)))))))
    (pss_one (ps_ret (pv 2)))), ?_⟩
  obtain ⟨D', es, e1, aD, oD, rnd, pr⟩ := at_
  obtain rfl := V.ref.inj e1
  have les : es.length = arcs.length := Paired.length pr
  refine ⟨_, rfl, (by show 1 ≤ sizeLine; decide), fun q nq => ?_⟩
  have k1 := same_new (o := .lst [.str b]) nq
  have oq : upd H q (.lst [.str b]) q = some (.lst ([b].map V.str)) := upd_same
  have qD : q ≠ D := fun z => by rw [z, oD] at nq; cases nq
  have oD1 := k1 _ _ oD
  generalize upd H q (.lst [.str b]) = H1 at k1 oq oD1
  have lE : (arcs.map (·.2)).length = arcs.length := List.length_map _
  refine ⟨_, rfl, D, _, rfl, oD1, es.length, rfl, (by omega), (by omega), for_range (n := es.length) (fun i σ H' => ∃ (S : List Str) (s3 s4 s5 : Option V), σ = [some (.ref D), some (.str b), some (.ref q), s3, s4, s5] ∧ H' q = some (.lst (S.map V.str)) ∧ RI (arcs.map (·.2)) b 0 S ∧ Same H H' ∧ (i + 1 ≤ S.length ∨ ∀ e ∈ arcs.map (·.2), e.1 ∈ S → e.2 ∈ S))
    ⟨[b], _, _, _, rfl, oq, ⟨by simp, by simp, fun n hn => by rw [List.mem_singleton.mp hn]; exact .base, Nat.zero_le _, fun j n lt => absurd lt (Nat.not_lt_zero _), fun n hn => .inl (List.mem_singleton.mp hn)⟩, k1, .inl (Nat.le_refl _)⟩ ?_ ?_⟩
  · rintro i σ H2 lt ⟨S, s3, s4, s5, rfl, oq2, R, k2, prog⟩
    have sh2 := R.short
    rw [lE] at sh2
    have oD2 := k2 _ _ oD
    refine ⟨D, _, oD2, trivial, fun od => ⟨_, rfl, D, od, es, rfl, upd_same, for_it walk_values (fun j σ H' => ∃ (S' : List Str) (s4 s5 : Option V), σ = [some (.ref D), some (.str b), some (.ref q), some (.int (0 + (i : Nat))), s4, s5] ∧ H' q = some (.lst (S'.map V.str)) ∧ RI (arcs.map (·.2)) b 0 S' ∧ Same (upd H D (.frz od (.dK es))) H' ∧ (∀ x ∈ S, x ∈ S') ∧ (S' = S ∨ S.length + 1 ≤ S'.length) ∧ ∀ e ∈ (arcs.map (·.2)).take j, e.1 ∈ S → e.2 ∈ S')
      ⟨S, _, _, rfl, by rw [upd_ne qD]; exact oq2, R, fun c o e => ?_, fun x h => h, .inl rfl, fun e he => by rw [List.take_zero] at he; cases he⟩ (fun j σ H' _ h => ?_) ?_ ?_⟩⟩
    · by_cases c1 : c = D
      · rw [c1, upd_same] at e
        rw [c1, upd_same]
        exact e
      · rw [upd_ne c1] at e
        rw [upd_ne c1]
        exact k2 _ _ e
    · obtain ⟨_, _, _, _, _, _, k, _⟩ := h
      exact k _ _ upd_same
    · rintro j y σ H3 H4 lt ⟨S', s4, s5, rfl, oq3, R3, k3, sub, gr, cl⟩ ⟨rfl, k0, ekv⟩
      obtain ⟨e, ee, hk, t0, x, z, hv, ap, op, hx, hz⟩ := paired_get pr ekv
      have hv : y = .ref t0 := hv
      have hx : x = .str e.2.1 := hx
      have hz : z = .str e.2.2 := hz
      subst hv hx hz
      have tD : t0 ≠ D := fun z => by rw [z, oD] at op; cases op
      have op3 := k3 _ _ (show upd H D (.frz od (.dK es)) t0 = _ by rw [upd_ne tD]; exact op)
      have ee : arcs[j]? = some e := ee
      have eE : (arcs.map (·.2))[j]? = some e.2 := by rw [List.getElem?_map, ee]; rfl
      have ein : e.2 ∈ arcs.map (·.2) := List.mem_of_getElem? eE
      have tk : (arcs.map (·.2)).take (j + 1) = (arcs.map (·.2)).take j ++ [e.2] := by rw [List.take_succ, eE]; rfl
      have sh3 := R3.short
      rw [lE] at sh3
      refine ⟨t0, _, rfl, SqT.of op3, rfl, _, _, rfl, _, _, rfl, rfl, ?_⟩
      refine ⟨fun σ' H' => ∃ (S' : List Str) (s4 s5 : Option V), σ' = [some (.ref D), some (.str b), some (.ref q), some (.int (0 + (i : Nat))), s4, s5] ∧ H' q = some (.lst (S'.map V.str)) ∧ RI (arcs.map (·.2)) b 0 S' ∧ Same (upd H D (.frz od (.dK es))) H' ∧ (∀ x ∈ S, x ∈ S') ∧ (S' = S ∨ S.length + 1 ≤ S'.length) ∧ ∀ e ∈ (arcs.map (·.2)).take (j + 1), e.1 ∈ S → e.2 ∈ S', ?_, fun σ' H' h => h⟩
      have stay : (e.2.1 ∈ S' → e.2.2 ∈ S') → ∀ e' ∈ (arcs.map (·.2)).take (j + 1), e'.1 ∈ S → e'.2 ∈ S' := fun h e' he' h1 => by
        rw [tk] at he'
        rcases List.mem_append.mp he' with z | z
        · exact cl e' z h1
        · rw [List.mem_singleton.mp z] at h1 ⊢
          exact h (sub _ h1)
      refine ⟨_, rfl, _, rfl, q, _, rfl, .inl (SqL.of oq3), rfl, flat_strs S', _, rfl, ?_⟩
      rw [if_neg Bool.false_ne_true, inV_strs]
      by_cases c : e.2.1 ∈ S'
      case neg =>
        rw [decide_eq_false c]
        exact iteF (iteF ⟨S', _, _, rfl, oq3, R3, k3, sub, gr, stay fun h => absurd h c⟩)
      rw [decide_eq_true c]
      refine iteT ⟨_, rfl, _, rfl, q, _, rfl, .inl (SqL.of oq3), rfl, flat_strs S', _, rfl, ?_⟩
      rw [if_pos rfl, inV_strs]
      by_cases m : e.2.2 ∈ S'
      · rw [decide_eq_true m]
        exact iteF ⟨S', _, _, rfl, oq3, R3, k3, sub, gr, stay fun _ => m⟩
      · rw [decide_eq_false m]
        refine iteT ⟨_, rfl, .inl ⟨rfl, _, SqL.of oq3⟩, _, rfl, q, _, _, rfl, rfl, oq3, by rw [sizeLine_eq, List.length_map]; omega, ?_⟩
        refine ⟨S' ++ [e.2.2], _, _, rfl, by rw [upd_same, List.map_append]; rfl, R3.add ein c m, fun c' o h => ?_, fun x h => List.mem_append_left _ (sub x h), .inr ?_, fun e' he' h1 => ?_⟩
        · have nb : c' ≠ q := fun z => by
            rw [z, upd_ne qD, nq] at h
            cases h
          rw [upd_ne nb]
          exact k3 _ _ h
        · rw [List.length_append]
          have : S.length ≤ S'.length := by rcases gr with h | h <;> first | (rw [h]; exact Nat.le_refl _) | omega
          show _ ≤ S'.length + 1
          omega
        · rw [tk] at he'
          rcases List.mem_append.mp he' with z | z
          · exact List.mem_append_left _ (cl e' z h1)
          · rw [List.mem_singleton.mp z]; exact List.mem_append_right _ (List.mem_singleton.mpr rfl)
    · rintro σ H3 ⟨S', s4, s5, rfl, oq3, R3, k3, sub, gr, cl⟩
      obtain ⟨b1, k4⟩ := lock_offN oD k3
      rw [les, ← lE, List.take_length] at cl
      refine ⟨b1, S', _, _, _, rfl, by rw [upd_ne qD]; exact oq3, R3, k4, ?_⟩
      rcases gr with rfl | h
      · exact .inr cl
      · rcases prog with p | p
        · exact .inl (by omega)
        · exfalso
          have z := nd_sub_len R3.nd fun x hx => reach_in R.b0 p (R3.r x hx)
          omega
  · rintro σ H2 ⟨S, s3, s4, s5, rfl, oq2, R, k2, prog⟩
    have cl : ∀ e ∈ arcs.map (·.2), e.1 ∈ S → e.2 ∈ S := by
      rcases prog with h | h
      · exact fun e he _ => closed_all R (by rw [lE, ← les]; exact h) e he
      · exact h
    have sh2 := R.short
    rw [lE] at sh2
    exact ⟨_, rfl, hq _ q S nq oq2 ⟨R.nd, fun n => ⟨R.r n, fun h => reach_in R.b0 cl h⟩⟩ sh2 k2⟩
end
end L2.TB
/-! _law_c_leads, _law_c_live, _law_c_nodes -/
namespace L2.TB
open PySem PySem.Spec PyProof.Rows
theorem call_lenR {X : Cx} : CallR X (.builtin "len") (fun xs H Q => ∃ a kvs, xs = [V.ref a] ∧ Rd H a (.dK kvs) ∧ Q (.int kvs.length) H) := by
  intro pins s σ H xs us Q I r h
  obtain ⟨a, kvs, rfl, ha, q⟩ := (h)
  obtain ⟨u, rfl, ru⟩ := vals1 r
  cases ru
  exact d_len I ha fun t s' I' => ⟨.int kvs.length, H, I', ⟨t, rfl⟩, q⟩
def spLeadsF : Sp := fun vs H Q _ => ∃ (D : Addr) (od : Obj) (es : List (Key × V)) (arcs : NtT) (A : Addr → Prop) (b : Str), vs = [.ref D, .str b] ∧ H D = some (.frz od (.dK es)) ∧ Paired (DcE A H) es arcs ∧ (arcs.map (·.1)).Nodup ∧ arcs.length < 1000 ∧ ∀ H' q S, H q = none → H' q = some (.lst (S.map V.str)) → LeadL arcs b S → S.length ≤ arcs.length + 1 → Same H H' → Q (.ref q) H'
def spLiveL : Sp := fun vs H Q _ => ∃ (D : Addr) (arcs : NtT) (A : Addr → Prop), vs = [.ref D] ∧ PyD.at_ A H (.ref D) (Dc.mk arcs) ∧ arcs.length < 1000 ∧ ∀ H' q, H q = none → H' q = some (.lst ((liveL arcs).map V.str)) → Same H H' → Q (.ref q) H'
abbrev NLl : List Str := ["arcs", "name"]
theorem scLiveL : FnScope NLl ["arcs"] (defScope sLiveL) := ⟨rfl, rfl, rfl, by decide +kernel, rfl, by decide +kernel, by decide +kernel⟩
section
variable {P : Program} {w : World} {K : PySem.W.Frag} {mg : Str → Option Value} {base : Heap} {f fL : Addr} {fd fdL : FuncData}
theorem ok_leadsF (F : Fun K "_law_c_leads" "_law_c_leads" sLeads f fd) (nR : mg "range" = none) (nN : mg "len" = none) : FnOk P w K mg base CX0 1 f fd ["arcs", "first"] spLeadsF := by
  refine F.ok scLeads (fun vs H Q E h => by obtain ⟨D, od, es, arcs, A, b, e, _⟩ := h; rw [e]; rfl) fun cdv A outer s H vs Q E hr hsp => ?_
  obtain ⟨D, od, es, arcs, A0, b, rfl, oD, pr, rnd, sh, hq⟩ := hsp
  have nd := scLeads.nd
  refine ⟨_, pss_cons (ps_set (i := 2) nd rfl (Or.inl rfl) (pe_lst (pa_cons (pv 1) pa_nil)))
    (pss_cons (ps_for PassesOwn.never rfl (pi_range1 rfl nR (pa_cons (pe_callB call_lenR rfl nN boot_len (pa_cons (pv 0) pa_nil)) pa_nil)) (pg_name (i := 3) nd rfl (Or.inl rfl))
      (pss_one (ps_for PassesOwn.never rfl (pi_values (pv 0)) (pg_tup rfl (pgs_cons (pg_name (i := 4) nd rfl (Or.inl rfl)) (pgs_cons (pg_name (i := 5) nd rfl (Or.inl rfl)) pgs_nil)))
        (pss_one (ps_via (ps_if (PW.pt (pw_and (pt_cmpR op_in_seq (pv 4) (pv 2) rfl) (pw_and1 (pt_cmpR op_notIn_seq (pv 5) (pv 2) rfl))))
          (pss_one (ps_expr (pe_bm PySem.F.plainAttrs_list PySem.F.slot_list_append PySem.F.type_list_append mt_append (pv 2) (pa_cons (pv 5) pa_nil)))) pss_nil))))))
    (pss_one (ps_ret (pv 2)))), ?_⟩
  have les : es.length = arcs.length := Paired.length pr
  refine ⟨_, rfl, (by show 1 ≤ sizeLine; decide), fun q nq => ?_⟩
  have k1 := same_new (o := .lst [.str b]) nq
  have oq : upd H q (.lst [.str b]) q = some (.lst ([b].map V.str)) := upd_same
  have qD : q ≠ D := fun z => by rw [z, oD] at nq; cases nq
  have oD1 := k1 _ _ oD
  generalize upd H q (.lst [.str b]) = H1 at k1 oq oD1
  have lE : (arcs.map (·.2)).length = arcs.length := List.length_map _
  refine ⟨_, rfl, D, _, rfl, .inr ⟨od, oD1⟩, es.length, rfl, (by omega), (by omega), for_range (n := es.length) (fun i σ H' => ∃ (S : List Str) (s3 s4 s5 : Option V), σ = [some (.ref D), some (.str b), some (.ref q), s3, s4, s5] ∧ H' q = some (.lst (S.map V.str)) ∧ RI (arcs.map (·.2)) b 0 S ∧ Same H H' ∧ (i + 1 ≤ S.length ∨ ∀ e ∈ arcs.map (·.2), e.1 ∈ S → e.2 ∈ S))
    ⟨[b], _, _, _, rfl, oq, ⟨by simp, by simp, fun n hn => by rw [List.mem_singleton.mp hn]; exact .base, Nat.zero_le _, fun j n lt => absurd lt (Nat.not_lt_zero _), fun n hn => .inl (List.mem_singleton.mp hn)⟩, k1, .inl (Nat.le_refl _)⟩ ?_ ?_⟩
  · rintro i σ H2 lt ⟨S, s3, s4, s5, rfl, oq2, R, k2, prog⟩
    have sh2 := R.short
    rw [lE] at sh2
    have oD2 := k2 _ _ oD
    refine ⟨_, rfl, D, od, es, rfl, oD2, for_it walk_values (fun j σ H' => ∃ (S' : List Str) (s4 s5 : Option V), σ = [some (.ref D), some (.str b), some (.ref q), some (.int (0 + (i : Nat))), s4, s5] ∧ H' q = some (.lst (S'.map V.str)) ∧ RI (arcs.map (·.2)) b 0 S' ∧ Same H H' ∧ (∀ x ∈ S, x ∈ S') ∧ (S' = S ∨ S.length + 1 ≤ S'.length) ∧ ∀ e ∈ (arcs.map (·.2)).take j, e.1 ∈ S → e.2 ∈ S')
      ⟨S, _, _, rfl, oq2, R, k2, fun x h => h, .inl rfl, fun e he => by rw [List.take_zero] at he; cases he⟩ (fun j σ H' _ h => ?_) ?_ ?_⟩
    · obtain ⟨_, _, _, _, _, _, k, _⟩ := h
      exact k _ _ oD
    · rintro j y σ H3 H4 lt ⟨S', s4, s5, rfl, oq3, R3, k3, sub, gr, cl⟩ ⟨rfl, k0, ekv⟩
      obtain ⟨e, ee, hk, t0, x, z, hv, ap, op, hx, hz⟩ := paired_get pr ekv
      have hv : y = .ref t0 := hv
      have hx : x = .str e.2.1 := hx
      have hz : z = .str e.2.2 := hz
      subst hv hx hz
      have tD : t0 ≠ D := fun z => by rw [z, oD] at op; cases op
      have op3 := k3 _ _ op
      have ee : arcs[j]? = some e := ee
      have eE : (arcs.map (·.2))[j]? = some e.2 := by rw [List.getElem?_map, ee]; rfl
      have ein : e.2 ∈ arcs.map (·.2) := List.mem_of_getElem? eE
      have tk : (arcs.map (·.2)).take (j + 1) = (arcs.map (·.2)).take j ++ [e.2] := by rw [List.take_succ, eE]; rfl
      have sh3 := R3.short
      rw [lE] at sh3
      refine ⟨t0, _, rfl, SqT.of op3, rfl, _, _, rfl, _, _, rfl, rfl, ?_⟩
      refine ⟨fun σ' H' => ∃ (S' : List Str) (s4 s5 : Option V), σ' = [some (.ref D), some (.str b), some (.ref q), some (.int (0 + (i : Nat))), s4, s5] ∧ H' q = some (.lst (S'.map V.str)) ∧ RI (arcs.map (·.2)) b 0 S' ∧ Same H H' ∧ (∀ x ∈ S, x ∈ S') ∧ (S' = S ∨ S.length + 1 ≤ S'.length) ∧ ∀ e ∈ (arcs.map (·.2)).take (j + 1), e.1 ∈ S → e.2 ∈ S', ?_, fun σ' H' h => h⟩
      have stay : (e.2.1 ∈ S' → e.2.2 ∈ S') → ∀ e' ∈ (arcs.map (·.2)).take (j + 1), e'.1 ∈ S → e'.2 ∈ S' := fun h e' he' h1 => by
        rw [tk] at he'
        rcases List.mem_append.mp he' with z | z
        · exact cl e' z h1
        · rw [List.mem_singleton.mp z] at h1 ⊢
          exact h (sub _ h1)
      refine ⟨_, rfl, _, rfl, q, _, rfl, .inl (SqL.of oq3), rfl, flat_strs S', _, rfl, ?_⟩
      rw [if_neg Bool.false_ne_true, inV_strs]
      by_cases c : e.2.1 ∈ S'
      case neg =>
        rw [decide_eq_false c]
        exact iteF (iteF ⟨S', _, _, rfl, oq3, R3, k3, sub, gr, stay fun h => absurd h c⟩)
      rw [decide_eq_true c]
      refine iteT ⟨_, rfl, _, rfl, q, _, rfl, .inl (SqL.of oq3), rfl, flat_strs S', _, rfl, ?_⟩
      rw [if_pos rfl, inV_strs]
      by_cases m : e.2.2 ∈ S'
      · rw [decide_eq_true m]
        exact iteF ⟨S', _, _, rfl, oq3, R3, k3, sub, gr, stay fun _ => m⟩
      · rw [decide_eq_false m]
        refine iteT ⟨_, rfl, .inl ⟨rfl, _, SqL.of oq3⟩, _, rfl, q, _, _, rfl, rfl, oq3, by rw [sizeLine_eq, List.length_map]; omega, ?_⟩
        refine ⟨S' ++ [e.2.2], _, _, rfl, by rw [upd_same, List.map_append]; rfl, R3.add ein c m, fun c' o h => ?_, fun x h => List.mem_append_left _ (sub x h), .inr ?_, fun e' he' h1 => ?_⟩
        · have nb : c' ≠ q := fun z => by
            rw [z, nq] at h
            cases h
          rw [upd_ne nb]
          exact k3 _ _ h
        · rw [List.length_append]
          have : S.length ≤ S'.length := by rcases gr with h | h <;> first | (rw [h]; exact Nat.le_refl _) | omega
          show _ ≤ S'.length + 1
          omega
        · rw [tk] at he'
          rcases List.mem_append.mp he' with z | z
          · exact List.mem_append_left _ (cl e' z h1)
          · rw [List.mem_singleton.mp z]; exact List.mem_append_right _ (List.mem_singleton.mpr rfl)
    · rintro σ H3 ⟨S', s4, s5, rfl, oq3, R3, k3, sub, gr, cl⟩
      rw [les, ← lE, List.take_length] at cl
      refine ⟨S', _, _, _, rfl, oq3, R3, k3, ?_⟩
      rcases gr with rfl | h
      · exact .inr cl
      · rcases prog with p | p
        · exact .inl (by omega)
        · exfalso
          have z := nd_sub_len R3.nd fun x hx => reach_in R.b0 p (R3.r x hx)
          omega
  · rintro σ H2 ⟨S, s3, s4, s5, rfl, oq2, R, k2, prog⟩
    have cl : ∀ e ∈ arcs.map (·.2), e.1 ∈ S → e.2 ∈ S := by
      rcases prog with h | h
      · exact fun e he _ => closed_all R (by rw [lE, ← les]; exact h) e he
      · exact h
    have sh2 := R.short
    rw [lE] at sh2
    exact ⟨_, rfl, hq _ q S nq oq2 ⟨R.nd, fun n => ⟨R.r n, fun h => reach_in R.b0 cl h⟩⟩ sh2 k2⟩
theorem ok_liveL (F : Fun K "_law_c_live" "_law_c_live" sLiveL f fd) (FL : Fun K "_law_c_leads" "_law_c_leads" sLeads fL fdL) (gL : mg "_law_c_leads" = some (.ref fL)) (nR : mg "range" = none) (nN : mg "len" = none) : FnOk P w K mg base CX0 2 f fd ["arcs"] spLiveL := by
  have GL : FnOk P w K mg base CX0 1 fL fdL ["arcs", "first"] spLeadsF := ok_leadsF FL nR nN
  have bL := FL.binds (ps := ["arcs", "first"]) fun _ _ _ _ _ _ us hl => match us, hl with | [_, _], _ => rfl
  refine F.ok scLiveL (fun vs H Q E h => by obtain ⟨D, arcs, A, e, _⟩ := h; rw [e]; rfl) fun cdv A outer s H vs Q E hr hsp => ?_
  obtain ⟨D, arcs, A0, rfl, at_, sh, hq⟩ := hsp
  have nd := scLiveL.nd
  have hu := hu_of hr
  refine ⟨_, pss_one (ps_ret (pe_lock (pe_lc (own := [("name", 1)]) (g := gName 1) (te := tVar 1) (tt := tTest (tOp (rIn K false) (tOp (rIx K) (tDGet (tVar 0) (tVar 1)) (tC (.int 0))) (tCall spLeadsF [] E0 (tCons (tVar 0) (tCons (tOp (rIx K) (tDGet (tVar 0) (tVar 1)) (tC (.int 1))) tNil))))) rfl nd (pi_keys (pv 0)) (blkOk_by (N := NLl) (sc := defScope sLiveL) (by decide +kernel)) (fun _ _ _ _ _ => pg_name (i := 1) nd rfl (Or.inl rfl))
      (fun _ _ _ _ _ => pts_one (pt_cmpR op_in_seq (pe_ix (r := rIx K) ix_seq (pe_dget hu (pv 0) (pv 1) (fun _ _ => rfl)) pe_int (fun _ _ => rfl)) (pe_call GL hr rfl gL FL.kp bL .nil pass0 (pa_cons (pv 0) (pa_cons (pe_ix (r := rIx K) ix_seq (pe_dget hu (pv 0) (pv 1) (fun _ _ => rfl)) pe_int (fun _ _ => rfl)) pa_nil))) rfl)) (fun _ _ _ _ _ => pv 1)))), ?_⟩
  obtain ⟨D', es, e1, aD, oD, rnd, pr⟩ := at_
  obtain rfl := V.ref.inj e1
  have les : es.length = arcs.length := Paired.length pr
  have ndes : (es.map (·.1)).Nodup := by rw [dc_keys pr]; exact nd_inr rnd
  refine ⟨D, _, oD, trivial, fun od => ⟨_, rfl, D, od, rfl, .inl ⟨es, upd_same, ?_⟩⟩⟩
  have oL : upd H D (.frz od (.dK es)) D = some (.frz od (.dK es)) := upd_same
  have prL : Paired (DcE A0 (upd H D (.frz od (.dK es)))) es arcs := Paired.mapP pr fun e q h => by
    obtain ⟨h1, t, u1, u2, h2, a, ot, h3, h4⟩ := h
    exact ⟨h1, t, u1, u2, h2, a, by rw [upd_ne (fun z => by rw [z, oD] at ot; cases ot)]; exact ot, h3, h4⟩
  refine lc_genON (arcs.map fun e => if liveB arcs e = true then some (V.str e.1) else none) (by rw [List.length_map]; omega) (fun i H' s lt => ⟨s _ _ oL, by rw [List.length_map] at lt; omega⟩) (fun H' s => ⟨s _ _ oL, by rw [List.length_map]; omega⟩) ?_ ?_
  · rintro i y o H11 H12 Cn Nn eo s11 ⟨rfl, k0, v0, ekv, rfl⟩ yes no
    obtain ⟨e, ee, hk, t0, x, z, hv, ap, op, hx, hz⟩ := paired_get prL ekv
    have hk : k0 = Sum.inr e.1 := hk
    have hv : v0 = .ref t0 := hv
    have hx : x = .str e.2.1 := hx
    have hz : z = .str e.2.2 := hz
    subst hk hv hx hz
    have ee : arcs[i]? = some e := ee
    rw [List.getElem?_map, ee] at eo
    obtain rfl := Option.some.inj eo
    have op3 := s11 _ _ op
    have dg : DGet H12 D (.str e.1) (some (.ref t0)) := .inl ⟨es, Sum.inr e.1, .inr ⟨od, s11 _ _ oL⟩, rfl, (valV_atN ndes ekv).symm⟩
    refine ⟨rfl, ?_⟩
    refine ⟨_, rfl, _, rfl, D, _, rfl, dg, .inr (.inl ⟨t0, _, _, _, rfl, rfl, SqT.of op3, rfl, ?_⟩)⟩
    refine ⟨_, rfl, _, rfl, _, rfl, D, _, rfl, dg, .inr (.inl ⟨t0, _, _, _, rfl, rfl, SqT.of op3, rfl, ?_⟩)⟩
    refine ⟨D, od, es, arcs, _, _, rfl, s11 _ _ oL, Paired.mapP prL fun e q h => ⟨h.1, PyD.kp h.2 fun b o a e => ⟨a, s11 _ _ e⟩⟩, rnd, sh, fun H13 q S nq oq LS lS k13 => ?_⟩
    refine ⟨q, _, rfl, .inl (SqL.of oq), rfl, flat_strs S, _, rfl, ?_⟩
    rw [if_neg Bool.false_ne_true, inV_strs]
    by_cases m : e.2.1 ∈ S
    · have hl : liveB arcs e = true := liveB_iff.mpr ((LS.2 _).1 m)
      rw [decide_eq_true m]
      exact iteT ⟨_, rfl, yes _ (by show (if liveB arcs e = true then some (V.str e.1) else none) = _; rw [if_pos hl]; rfl) H13 k13⟩
    · have hl : ¬ liveB arcs e = true := fun z => m ((LS.2 _).2 (liveB_iff.mp z))
      rw [decide_eq_false m]
      exact iteF (no (by show (if liveB arcs e = true then some (V.str e.1) else none) = _; rw [if_neg hl]) H13 k13)
  · intro H11 q nq oq s11
    obtain ⟨b1, s1⟩ := lock_offN oD s11
    have qD : q ≠ D := fun z => by rw [z, oL] at nq; cases nq
    have el : (arcs.map fun e => if liveB arcs e = true then some (V.str e.1) else none).filterMap id = (liveL arcs).map V.str := by
      rw [opt_listN (fun e => liveB arcs e) (fun e => V.str e.1)]
      unfold liveL
      rw [List.map_map]
      rfl
    rw [el] at oq
    exact ⟨b1, hq _ q (by rw [upd_ne qD] at nq; exact nq) (by rw [upd_ne qD]; exact oq) s1⟩
end
end L2.TB
/-! _law_c_nodes -/
namespace L2.TB
open PySem PySem.Spec PyProof.Rows
abbrev NLn : List Str := ["arcs", "found", "one", "other", "node"]
theorem scNodesL : FnScope NLn ["arcs"] (defScope sNodesL) := ⟨rfl, rfl, rfl, by decide +kernel, rfl, by decide +kernel, by decide +kernel⟩
section
variable {P : Program} {w : World} {K : PySem.W.Frag} {mg : Str → Option Value} {base : Heap} {f : Addr} {fd : FuncData}
theorem ok_nodesL (F : Fun K "_law_c_nodes" "_law_c_nodes" sNodesL f fd) (nI : mg "int" = none) : FnOk P w K mg base CX0 1 f fd ["arcs"] spNodesOf := by
  refine F.ok scNodesL (fun vs H Q E h => by obtain ⟨D, arcs, A, e, _⟩ := h; rw [e]; rfl) fun cdv A outer s H vs Q E hr hsp => ?_
  obtain ⟨D, arcs, A0, rfl, at_, sh, hq⟩ := hsp
  have nd := scNodesL.nd
  refine ⟨_, pss_cons (ps_set (i := 1) nd rfl (Or.inl rfl) (pe_lst pa_nil))
    (pss_cons (ps_lock (ps_for PassesOwn.never rfl (pi_values (pv 0)) (pg_tup rfl (pgs_cons (pg_name (i := 2) nd rfl (Or.inl rfl)) (pgs_cons (pg_name (i := 3) nd rfl (Or.inl rfl)) pgs_nil)))
      (pss_one (ps_for PassesOwn.never rfl (pi_seq (pe_tup (pa_cons (pv 2) (pa_cons (pv 3) pa_nil)))) (pg_name (i := 4) nd rfl (Or.inl rfl))
        (pss_one (ps_set (i := 1) nd rfl (Or.inl rfl) (pe_op op_cat (pv 1) (pe_op op_rep (pe_lst (pa_cons (pv 4) pa_nil)) (pe_callTy call_int1 rfl nI boot_int' (pa_cons (pe_cmpR op_notIn_seq (pv 4) (pv 1) rfl) pa_nil))))))))))
    (pss_one (ps_ret (pv 1)))), ?_⟩
  obtain ⟨D', es, e1, aD, oD, rnd, pr⟩ := at_
  obtain rfl := V.ref.inj e1
  have les : es.length = arcs.length := Paired.length pr
  refine ⟨Nat.zero_le _, fun q nq => ?_⟩
  have k1 := same_new (o := .lst []) nq
  have oq : upd H q (.lst []) q = some (.lst (([] : List Str).map V.str)) := upd_same
  have oD1 := k1 _ _ oD
  generalize upd H q (.lst []) = H1 at k1 oq oD1
  have lb : ∀ j, (nodesF [] (arcs.take j)).length ≤ 2 * arcs.length := fun j => by
    have := nodesF_len (arcs.take j) []
    rw [List.length_take, List.length_nil] at this
    omega
  refine ⟨D, _, oD1, trivial, fun od => ⟨_, rfl, D, od, es, rfl, upd_same, for_it walk_values (fun j σ H' => ∃ (p : Addr) (s2 s3 s4 : Option V), σ = [some (.ref D), some (.ref p), s2, s3, s4] ∧ H p = none ∧ H' p = some (.lst ((nodesF [] (arcs.take j)).map V.str)) ∧ Same (upd H1 D (.frz od (.dK es))) H')
    ⟨q, _, _, _, rfl, nq, by rw [upd_ne (fun z => by rw [z, oD] at nq; cases nq)]; exact oq, Same.refl _⟩ (fun j σ H' _ h => by obtain ⟨_, _, _, _, _, _, _, k⟩ := h; exact k _ _ upd_same) ?_ ?_⟩⟩
  · rintro j y σ H3 H4 lt ⟨p, s2, s3, s4, rfl, np, op3, k3⟩ ⟨rfl, k0, ekv⟩
    obtain ⟨e, ee, hk, t0, x, z, hv, ap, op, hx, hz⟩ := paired_get pr ekv
    have hv : y = .ref t0 := hv
    have hx : x = .str e.2.1 := hx
    have hz : z = .str e.2.2 := hz
    subst hv hx hz
    have ee : arcs[j]? = some e := ee
    have tD : t0 ≠ D := fun z => by rw [z, oD] at op; cases op
    have ot3 := k3 _ _ (show upd H1 D (.frz od (.dK es)) t0 = _ by rw [upd_ne tD]; exact k1 _ _ op)
    refine ⟨t0, _, rfl, SqT.of ot3, rfl, _, _, rfl, _, _, rfl, rfl, ?_⟩
    have lb0 := lb j
    rw [nodesF_take [] ee]
    generalize nodesF [] (arcs.take j) = S0 at op3 lb0
    refine ⟨_, rfl, _, rfl, (by show 2 ≤ sizeLine; decide), fun t nt => ?_⟩
    have kt := same_new (o := .tup [.str e.2.1, .str e.2.2]) nt
    have low : ∀ {G : Hp}, Same (upd H1 D (.frz od (.dK es))) G → ∀ {a : Addr}, G a = none → H a = none := fun s a n => by
      have n1 := s.free n
      have aD : a ≠ D := fun z => by rw [z, upd_same] at n1; cases n1
      rw [upd_ne aD] at n1
      exact k1.free n1
    refine for_seq (xs := [V.str e.2.1, V.str e.2.2]) (o := .tup [.str e.2.1, .str e.2.2]) (.inr rfl) (fun i σ H' => ∃ (p : Addr) (s4 : Option V) (S' : List Str), σ = [some (.ref D), some (.ref p), some (.str e.2.1), some (.str e.2.2), s4] ∧ H p = none ∧ H' p = some (.lst (S'.map V.str)) ∧ Same (upd H1 D (.frz od (.dK es))) H' ∧ H' t = some (.tup [.str e.2.1, .str e.2.2]) ∧ S'.length ≤ 2 * arcs.length + i ∧
        ((i = 0 ∧ S' = S0) ∨ (i = 1 ∧ S' = addN S0 e.2.1) ∨ (i = 2 ∧ S' = addN (addN S0 e.2.1) e.2.2)))
      ⟨p, _, S0, rfl, np, kt _ _ op3, k3.trans kt, upd_same, lb0, .inl ⟨rfl, rfl⟩⟩ (fun i σ H' _ h => by obtain ⟨_, _, _, _, _, _, _, h, _⟩ := h; exact h) ?_ ?_
    · rintro i v σ H5 ev ⟨p, s4, S', rfl, np, op5, k5, ot5, ls, st⟩
      obtain ⟨n, rfl, st'⟩ : ∃ n : Str, v = .str n ∧ ((i + 1 = 0 ∧ addN S' n = S0) ∨ (i + 1 = 1 ∧ addN S' n = addN S0 e.2.1) ∨ (i + 1 = 2 ∧ addN S' n = addN (addN S0 e.2.1) e.2.2)) := by
        rcases st with ⟨rfl, rfl⟩ | ⟨rfl, rfl⟩ | ⟨rfl, _⟩
        · exact ⟨_, (Option.some.inj ev).symm, .inr (.inl ⟨rfl, rfl⟩)⟩
        · exact ⟨_, (Option.some.inj ev).symm, .inr (.inr ⟨rfl, rfl⟩)⟩
        · cases ev
      have ln := addN_len S' n
      have li : i < 2 := (List.getElem?_eq_some_iff.mp ev).1
      refine ⟨_, rfl, _, rfl, (by show 1 ≤ sizeLine; decide), fun u nu => ?_⟩
      have ku := same_new (o := .lst [.str n]) nu
      have ou : upd H5 u (.lst [.str n]) u = some (.lst [.str n]) := upd_same
      have op6 := ku _ _ op5
      have k6 := k5.trans ku
      have ot6 := ku _ _ ot5
      generalize upd H5 u (.lst [.str n]) = H6 at ku ou op6 k6 ot6
      refine ⟨_, rfl, _, rfl, p, _, rfl, .inl (SqL.of op6), rfl, flat_strs S', .inr ⟨_, rfl, ?_⟩⟩
      rw [if_pos rfl, inV_strs]
      by_cases m : n ∈ S'
      · rw [decide_eq_true m]
        have ea : addN S' n = S' := by unfold addN; rw [if_pos m]
        refine ⟨u, 0, [.str n], rfl, rfl, ou, by decide, by decide, (by rw [sizeLine_eq]; show 1 * 0 ≤ _; decide), fun a na => ?_⟩
        have ka := same_new (o := .lst (List.replicate (0 : Int).toNat [V.str n]).flatten) na
        have oa : upd H6 a (.lst (List.replicate (0 : Int).toNat [V.str n]).flatten) a = some (.lst []) := upd_same
        have op7 := ka _ _ op6
        have k7 := k6.trans ka
        have ot7 := ka _ _ ot6
        generalize upd H6 a (.lst (List.replicate (0 : Int).toNat [V.str n]).flatten) = H7 at ka oa op7 k7 ot7
        refine ⟨p, a, _, _, rfl, rfl, op7, oa, by rw [List.length_map, List.length_nil, sizeLine_eq]; omega, fun c nc => ?_⟩
        have kc := same_new (o := .lst (S'.map V.str ++ [])) nc
        exact ⟨c, _, addN S' n, rfl, low k7 nc, by rw [upd_same, ea, List.append_nil], k7.trans kc, kc _ _ ot7, by omega, st'⟩
      · rw [decide_eq_false m]
        have ea : addN S' n = S' ++ [n] := by unfold addN; rw [if_neg m]
        refine ⟨u, 1, [.str n], rfl, rfl, ou, by decide, by decide, (by rw [sizeLine_eq]; show 1 * 1 ≤ _; decide), fun a na => ?_⟩
        have ka := same_new (o := .lst (List.replicate (1 : Int).toNat [V.str n]).flatten) na
        have oa : upd H6 a (.lst (List.replicate (1 : Int).toNat [V.str n]).flatten) a = some (.lst [.str n]) := upd_same
        have op7 := ka _ _ op6
        have k7 := k6.trans ka
        have ot7 := ka _ _ ot6
        generalize upd H6 a (.lst (List.replicate (1 : Int).toNat [V.str n]).flatten) = H7 at ka oa op7 k7 ot7
        refine ⟨p, a, _, _, rfl, rfl, op7, oa, by rw [List.length_map, List.length_singleton, sizeLine_eq]; omega, fun c nc => ?_⟩
        have kc := same_new (o := .lst (S'.map V.str ++ [V.str n])) nc
        exact ⟨c, _, addN S' n, rfl, low k7 nc, by rw [upd_same, ea, List.map_append]; rfl, k7.trans kc, kc _ _ ot7, by omega, st'⟩
    · rintro σ H5 ⟨p, s4, S', rfl, np, op5, k5, ot5, ls, st⟩
      rcases st with ⟨e, _⟩ | ⟨e, _⟩ | ⟨_, rfl⟩
      · cases e
      · cases e
      · exact ⟨p, _, _, _, rfl, np, op5, k5⟩
  · rintro σ H3 ⟨p, s2, s3, s4, rfl, np, op3, k3⟩
    obtain ⟨b1, k4⟩ := lock_offN oD1 k3
    rw [les, List.take_length] at op3
    have pD : p ≠ D := fun z => by rw [z, oD] at np; cases np
    exact ⟨b1, _, rfl, hq _ p np (by rw [upd_ne pD]; exact op3) (k1.trans k4)⟩
end
end L2.TB
/-! _law_c_way -/
namespace L2.TB
open PySem PySem.Spec PyProof.Rows
theorem perm_lift {α β : Type} {f : α → β} {ys zs : List β} (h : ys.Perm zs) : ∀ {l : List α}, zs = l.map f → ∃ l' : List α, l'.Perm l ∧ ys = l'.map f := by
  induction h with
  | nil =>
    intro l e
    refine ⟨[], ?_, rfl⟩
    cases l with
    | nil => exact .refl _
    | cons a l => cases e
  | @cons y ys zs _ ih =>
    intro l e
    cases l with
    | nil => cases e
    | cons a l =>
      obtain ⟨e1, e2⟩ := List.cons.inj e
      obtain ⟨l', p, e3⟩ := ih e2
      exact ⟨a :: l', p.cons a, by rw [e1, e3]; rfl⟩
  | @swap x y zs =>
    intro l e
    cases l with
    | nil => cases e
    | cons a l =>
      cases l with
      | nil => cases (List.cons.inj e).2
      | cons b l =>
        obtain ⟨e1, e2⟩ := List.cons.inj e
        obtain ⟨e3, e4⟩ := List.cons.inj e2
        exact ⟨b :: a :: l, .swap _ _ _, by rw [e1, e3, e4]; rfl⟩
  | trans _ _ ih1 ih2 =>
    intro l e
    obtain ⟨l2, p2, e2⟩ := ih2 e
    obtain ⟨l1, p1, e1⟩ := ih1 e2
    exact ⟨l1, p1.trans p2, e1⟩
/-- names of arcs that lead from a to b, one behind the other -/
inductive PathL (arcs : NtT) (a : Str) : List Str → Str → Prop
  | nil : PathL arcs a [] a
  | snoc {p : List Str} {x y n : Str} (h : PathL arcs a p x) (m : (n, (x, y)) ∈ arcs) : PathL arcs a (p ++ [n]) y
theorem valV_get {ec : List (Key × V)} {k : Key} {v : V} (h : valV ec k = some v) : ∃ i : Nat, ec[i]? = some (k, v) := by
  unfold valV at h
  obtain ⟨kv, f1, f2⟩ := Option.map_eq_some_iff.mp h
  obtain ⟨i, hi⟩ := List.getElem?_of_mem (List.mem_of_find?_eq_some f1)
  have e3 := List.find?_some f1
  have e3 : kv.1 = k := by simpa using e3
  exact ⟨i, by rw [hi, ← f2, ← e3]⟩
def CamE (l ls CM : Addr) (H H' : Hp) (e : Key × V) (q : Str × List Str) : Prop := e.1 = Sum.inr q.1 ∧ ∃ t, e.2 = .ref t ∧ H t = none ∧ (t ≠ l ∧ t ≠ ls) ∧ t ≠ CM ∧ H' t = some (.lst (q.2.map V.str))
structure CamI (arcs : NtT) (a : Str) (cs : List (Str × List Str)) : Prop where
  r : RI (arcs.map (·.2)) a 0 (cs.map (·.1))
  p : ∀ q ∈ cs, PathL arcs a q.2 q.1 ∧ q.2.length ≤ cs.length
theorem cam_keys {l ls CM : Addr} {H H' : Hp} {es : List (Key × V)} {cs : List (Str × List Str)} (h : Paired (CamE l ls CM H H') es cs) : es.map (·.1) = (cs.map (·.1)).map Sum.inr := by
  induction h with
  | nil => rfl
  | cons h _ ih => rw [List.map_cons, List.map_cons, List.map_cons, ih, h.1]
def spWay : Sp := fun vs H Q _ => ∃ (l ls D : Addr) (arcs : NtT) (A : Addr → Prop) (a b : Str) (N : Int), vs = [.ref l, .ref D, .str a, .str b] ∧ Strm H l ls N ∧ N ≤ 800000 ∧ PyD.at_ A H (.ref D) (Dc.mk arcs) ∧ (∀ c, A c → c ≠ l ∧ c ≠ ls) ∧ arcs.length ≤ 100 ∧ Reach (arcs.map (·.2)) a b ∧
  ∀ H' t p, H t = none → t ≠ l ∧ t ≠ ls → H' t = some (.lst (p.map V.str)) → PathL arcs a p b → p.length ≤ 101 → Strm H' l ls (N + 100) → But l ls H H' → Q (.ref t) H'
abbrev NWy : List Str := ["stream", "arcs", "start", "goal", "came", "order", "turn", "name", "one", "other"]
theorem scWay : FnScope NWy ["stream", "arcs", "start", "goal"] (defScope sWay) := ⟨rfl, rfl, rfl, by decide +kernel, rfl, by decide +kernel, by decide +kernel⟩
section
variable {P : Program} {w : World} {K : PySem.W.Frag} {mg : Str → Option Value} {base : Heap} {f fM : Addr} {fd fdM : FuncData}
theorem ok_way (F : Fun K "_law_c_way" "_law_c_way" sWay f fd) (FM : Fun K "_law_mixed" "_law_mixed" sMixed fM fdM) (gM : mg "_law_mixed" = some (.ref fM)) (GM : FnOk P w K mg base CX0 2 fM fdM ["stream", "some"] (spMixed K)) (nR : mg "range" = none) (nN : mg "len" = none) (nL : mg "list" = none) : FnOk P w K mg base CX0 3 f fd ["stream", "arcs", "start", "goal"] spWay := by
  have bM := FM.binds (ps := ["stream", "some"]) fun _ _ _ _ _ _ us hl => match us, hl with | [_, _], _ => rfl
  refine F.ok scWay (fun vs H Q E h => by obtain ⟨l, ls, D, arcs, A, a, b, N, e, _⟩ := h; rw [e]; rfl) fun cdv A outer s H vs Q E hr hsp => ?_
  obtain ⟨l, ls, D, arcs, A0, a, b, N, rfl, S, hN, at_, hA, sh, rea, hq⟩ := hsp
  have nd := scWay.nd
  have hu := hu_of (hr.mono (show 1 ≤ 2 by decide))
  refine ⟨_, pss_cons (ps_par (i := 4) (j := 5) rfl nd rfl rfl (by decide) rfl rfl (pa_cons (pe_disp (pps_cons (pv 2) (pe_lst pa_nil) pps_nil) rfl rfl (by decide) (by decide)) (pa_cons (pe_call GM hr rfl gM FM.kp bM .nil pass0 (pa_cons (pv 0) (pa_cons (pe_callTy (call_listD rfl) rfl nL boot_list' (pa_cons (pv 1) pa_nil)) pa_nil))) pa_nil)) (by rfl))
    (pss_cons (ps_for PassesOwn.never rfl (pi_range1 rfl nR (pa_cons (pe_callB call_lenD rfl nN boot_len (pa_cons (pv 1) pa_nil)) pa_nil)) (pg_name (i := 6) nd rfl (Or.inl rfl))
      (pss_one (ps_for PassesOwn.never rfl (pi_list (pv 5)) (pg_name (i := 7) nd rfl (Or.inl rfl))
        (pss_cons (ps_asg (pe_dget hu (pv 1) (pv 7) (fun _ _ => rfl)) (pg_tup (n := 2) rfl (pgs_cons (pg_name (i := 8) nd rfl (Or.inl rfl)) (pgs_cons (pg_name (i := 9) nd rfl (Or.inl rfl)) pgs_nil))))
        (pss_one (ps_via (ps_if (PW.pt (pw_and (pt_cmp (pc_din hu (pv 8) (pv 4))) (pw_and1 (pt_cmp (pc_dnotin hu (pv 9) (pv 4))))))
          (pss_one (ps_dput hu (pv 4) (pv 9) (pe_op op_cat (pe_dget hu (pv 4) (pv 8) (fun _ _ => rfl)) (pe_lst (pa_cons (pv 7) pa_nil))) rfl)) pss_nil)))))))
    (pss_one (ps_ret (pe_dget hu (pv 4) (pv 3) (fun _ _ => rfl))))), ?_⟩
  obtain ⟨D', es, e1, aD, oD, rnd, pr⟩ := at_
  obtain rfl := V.ref.inj e1
  have les : es.length = arcs.length := Paired.length pr
  have ndes : (es.map (·.1)).Nodup := by rw [dc_keys pr]; exact nd_inr rnd
  have nDl := hA D aD
  refine fun CM nCM => ?_
  have aCM := S.apart (Same.refl _) nCM
  have k1 := same_new (o := .dK []) nCM
  have oC1 : upd H CM (.dK []) CM = some (.dK []) := upd_same
  generalize upd H CM (.dK []) = H1 at k1 oC1
  refine ⟨_, rfl, Nat.zero_le _, fun u nu => ?_⟩
  have k2 := same_new (o := .lst []) nu
  have ou : upd H1 u (.lst []) u = some (.lst (([] : List Str).map V.str)) := upd_same
  have uC : u ≠ CM := fun z => by rw [z, oC1] at nu; cases nu
  have nu0 := k1.free nu
  have au := S.apart (Same.refl _) nu0
  have oC2 := k2 _ _ oC1
  have k02 := k1.trans k2
  generalize upd H1 u (.lst []) = H2 at k2 ou oC2 k02
  refine ⟨oC2, [(Sum.inr a, .ref u)], rfl, (by show 1 ≤ 15; decide), ?_⟩
  have k3 : Same H (upd H2 CM (.dK (mergeK [] [((Sum.inr a : Key), V.ref u)]))) := fun c o e => by rw [upd_ne (ne_of_none e nCM)]; exact k02 _ _ e
  have oC3 : upd H2 CM (.dK (mergeK [] [((Sum.inr a : Key), V.ref u)])) CM = some (.dK [(Sum.inr a, .ref u)]) := upd_same
  have ou3 : upd H2 CM (.dK (mergeK [] [((Sum.inr a : Key), V.ref u)])) u = _ := (upd_ne uC).trans ou
  generalize upd H2 CM (.dK (mergeK [] [((Sum.inr a : Key), V.ref u)])) = H3 at k3 oC3 ou3
  refine ⟨_, rfl, _, rfl, D, es, rfl, .inl (k3 _ _ oD), fun c nc => ?_⟩
  have k4 := k3.trans (same_new (o := .lst (es.map fun kv => kV kv.1)) nc)
  have oC4 := same_new (o := .lst (es.map fun kv => kV kv.1)) nc _ _ oC3
  have ou4 := same_new (o := .lst (es.map fun kv => kV kv.1)) nc _ _ ou3
  have oc4 : upd H3 c (.lst (es.map fun kv => kV kv.1)) c = some (.lst (es.map fun kv => kV kv.1)) := upd_same
  generalize upd H3 c (.lst (es.map fun kv => kV kv.1)) = H4 at k4 oC4 ou4 oc4
  refine ⟨l, ls, c, _, N, rfl, S.same k4, by omega, SqL.of oc4, by rw [List.length_map]; omega, fun H5 od ys perm nod ood S5 B5 => ?_⟩
  have eys : (es.map fun kv => kV kv.1) = arcs.map fun e => V.str e.1 := by rw [keys_L pr, List.map_map]; rfl
  obtain ⟨mid, pm, rfl⟩ := perm_lift perm eys
  have lm : mid.length = arcs.length := pm.length_eq
  have oC5 := B5 _ _ aCM.1 aCM.2 oC4
  have ou5 := B5 _ _ au.1 au.2 ou4
  have B05 : But l ls H H5 := fun c o h1 h2 e => B5 _ _ h1 h2 (k4 _ _ e)
  have odC : od ≠ CM := fun z => by rw [z, oC4] at nod; cases nod
  have oD5 := B05 _ _ nDl.1 nDl.2 oD
  have DC : D ≠ CM := fun z => by rw [z, nCM] at oD; cases oD
  have lE : (arcs.map (·.2)).length = arcs.length := List.length_map _
  have S6 : Strm H5 l ls (N + 100) := S5.mono (by rw [List.length_map]; omega)
  refine ⟨_, _, rfl, ?_⟩
  refine ⟨_, rfl, D, _, rfl, oD5, es.length, rfl, (by omega), (by omega), for_range (n := es.length) (fun i σ H' => ∃ (cs : List (Str × List Str)) (ec : List (Key × V)) (s6 s7 s8 s9 : Option V), σ = [some (.ref l), some (.ref D), some (.str a), some (.str b), some (.ref CM), some (.ref od), s6, s7, s8, s9] ∧ H' CM = some (.dK ec) ∧ Paired (CamE l ls CM H H') ec cs ∧ CamI arcs a cs ∧
      (∀ b o, b ≠ CM → H5 b = some o → H' b = some o) ∧ (i + 1 ≤ cs.length ∨ ∀ e ∈ arcs.map (·.2), e.1 ∈ cs.map (·.1) → e.2 ∈ cs.map (·.1)))
    ⟨[(a, [])], _, _, _, _, _, rfl, oC5, .cons ⟨rfl, u, rfl, nu0, au, uC, ou5⟩ .nil, ⟨⟨by simp, by simp, fun n hn => by rw [List.mem_singleton.mp hn]; exact .base, Nat.zero_le _, fun j n lt => absurd lt (Nat.not_lt_zero _), fun n hn => .inl (List.mem_singleton.mp hn)⟩, fun q hq => by rw [List.mem_singleton.mp hq]; exact ⟨.nil, Nat.zero_le _⟩⟩, fun b o _ e => e, .inl (Nat.le_refl _)⟩ ?_ ?_⟩
  · rintro i σ H6 lt ⟨cs, ec, s6, s7, s8, s9, rfl, oC6, pc6, I6, k6, prog⟩
    refine ⟨_, rfl, od, rfl, ⟨_, SqL.of (k6 _ _ odC ood)⟩, for_list (xs := mid.map fun e => V.str e.1) (fun j σ H' => ∃ (cs' : List (Str × List Str)) (ec : List (Key × V)) (s7 s8 s9 : Option V), σ = [some (.ref l), some (.ref D), some (.str a), some (.str b), some (.ref CM), some (.ref od), some (.int (0 + (i : Nat))), s7, s8, s9] ∧ H' CM = some (.dK ec) ∧ Paired (CamE l ls CM H H') ec cs' ∧ CamI arcs a cs' ∧
        (∀ b o, b ≠ CM → H5 b = some o → H' b = some o) ∧ (∀ x ∈ cs.map (·.1), x ∈ cs'.map (·.1)) ∧ (cs' = cs ∨ cs.length + 1 ≤ cs'.length) ∧ ∀ e ∈ mid.take j, e.2.1 ∈ cs.map (·.1) → e.2.2 ∈ cs'.map (·.1))
      ⟨cs, ec, _, _, _, rfl, oC6, pc6, I6, k6, fun x h => h, .inl rfl, fun e he => by rw [List.take_zero] at he; cases he⟩ (fun j σ H' _ h => by obtain ⟨_, _, _, _, _, _, _, _, _, k, _⟩ := h; exact SqL.of (k _ _ odC ood)) ?_ ?_⟩
    · rintro j x σ H7 ex ⟨cs', ec, s7, s8, s9, rfl, oC7, pc7, I7, k7, sub, gr, cl⟩
      rw [List.getElem?_map] at ex
      obtain ⟨e, ee, rfl⟩ := Option.map_eq_some_iff.mp ex
      have ein : e ∈ arcs := pm.mem_iff.mp (List.mem_of_getElem? ee)
      have eE : e.2 ∈ arcs.map (·.2) := List.mem_map_of_mem ein
      have tk : mid.take (j + 1) = mid.take j ++ [e] := by rw [List.take_succ, ee]; rfl
      obtain ⟨v, ev, atv⟩ := val_atD pr (lk_mem rnd ein)
      obtain ⟨t0, x, z, hv, ap, op, hx, hz⟩ := atv
      have hx : x = .str e.2.1 := hx
      have hz : z = .str e.2.2 := hz
      subst hv hx hz
      have tC : t0 ≠ CM := fun z => by rw [z, nCM] at op; cases op
      have at0 := hA t0 ap
      have op7 := k7 _ _ tC (B05 _ _ at0.1 at0.2 op)
      have oD7 := k7 _ _ DC oD5
      refine ⟨_, rfl, _, rfl, D, _, rfl, .inl ⟨es, Sum.inr e.1, .inl oD7, rfl, ev.symm⟩, t0, _, rfl, SqT.of op7, rfl, _, _, rfl, _, _, rfl, rfl, ?_⟩
      have sh7 := I7.r.short
      rw [lE, List.length_map] at sh7
      have ek7 := cam_keys pc7
      have lec : ec.length = cs'.length := Paired.length pc7
      refine ⟨fun σ' H' => ∃ (cs' : List (Str × List Str)) (ec : List (Key × V)) (s7 s8 s9 : Option V), σ' = [some (.ref l), some (.ref D), some (.str a), some (.str b), some (.ref CM), some (.ref od), some (.int (0 + (i : Nat))), s7, s8, s9] ∧ H' CM = some (.dK ec) ∧ Paired (CamE l ls CM H H') ec cs' ∧ CamI arcs a cs' ∧
        (∀ b o, b ≠ CM → H5 b = some o → H' b = some o) ∧ (∀ x ∈ cs.map (·.1), x ∈ cs'.map (·.1)) ∧ (cs' = cs ∨ cs.length + 1 ≤ cs'.length) ∧ ∀ e ∈ mid.take (j + 1), e.2.1 ∈ cs.map (·.1) → e.2.2 ∈ cs'.map (·.1), ?_, fun σ' H' h => h⟩
      have stay : (e.2.1 ∈ cs'.map (·.1) → e.2.2 ∈ cs'.map (·.1)) → ∀ e' ∈ mid.take (j + 1), e'.2.1 ∈ cs.map (·.1) → e'.2.2 ∈ cs'.map (·.1) := fun h e' he' h1 => by
        rw [tk] at he'
        rcases List.mem_append.mp he' with z | z
        · exact cl e' z h1
        · rw [List.mem_singleton.mp z] at h1 ⊢
          exact h (sub _ h1)
      refine ⟨_, rfl, _, rfl, CM, _, rfl, DGet.k (k := Sum.inr e.2.1) oC7, ?_⟩
      by_cases c : e.2.1 ∈ cs'.map (·.1)
      case neg =>
        rw [(val_inS ek7 e.2.1).2 c]
        exact ⟨_, rfl, iteF (iteF ⟨cs', ec, _, _, _, rfl, oC7, pc7, I7, k7, sub, gr, stay fun h => absurd h c⟩)⟩
      obtain ⟨v, ev7⟩ := (val_inS ek7 e.2.1).1 c
      rw [ev7]
      refine ⟨_, rfl, iteT ?_⟩
      refine ⟨_, rfl, _, rfl, CM, _, rfl, DGet.k (k := Sum.inr e.2.2) oC7, ?_⟩
      by_cases m : e.2.2 ∈ cs'.map (·.1)
      · obtain ⟨v2, ev2⟩ := (val_inS ek7 e.2.2).1 m
        rw [ev2]
        exact ⟨_, rfl, iteF ⟨cs', ec, _, _, _, rfl, oC7, pc7, I7, k7, sub, gr, stay fun _ => m⟩⟩
      rw [(val_inS ek7 e.2.2).2 m]
      refine ⟨_, rfl, iteT ?_⟩
      have ndec : (ec.map (·.1)).Nodup := by rw [ek7]; exact nd_inr I7.r.nd
      obtain ⟨i2, q2, eq2, hk2, hq2⟩ : ∃ (i2 : Nat) (q2 : Str × List Str), cs'[i2]? = some q2 ∧ q2.1 = e.2.1 ∧ ∃ t, v = .ref t ∧ H7 t = some (.lst (q2.2.map V.str)) ∧ t ≠ CM := by
        obtain ⟨i2, k2, e2⟩ : ∃ (i2 : Nat) (k2 : Key), ec[i2]? = some (k2, v) ∧ k2 = Sum.inr e.2.1 := by
          obtain ⟨i2, h2⟩ := valV_get ev7
          exact ⟨i2, _, h2, rfl⟩
        obtain ⟨q2, eq2, h1, t, h2, _, _, h4, h5⟩ := paired_get pc7 e2.1
        have h1 : k2 = Sum.inr q2.1 := h1
        exact ⟨i2, q2, eq2, (Sum.inr.inj (e2.2.symm.trans h1)).symm, t, h2, h5, h4⟩
      obtain ⟨t, rfl, ot7, tCM⟩ := hq2
      have qin := List.mem_of_getElem? eq2
      obtain ⟨pa, pl⟩ := I7.p q2 qin
      have dgC : ∀ {G : Hp}, G CM = some (.dK ec) → DGet G CM (.str e.2.1) (some (.ref t)) := fun h => .inl ⟨ec, Sum.inr e.2.1, .inl h, rfl, ev7.symm⟩
      refine ⟨_, rfl, _, rfl, CM, _, rfl, dgC oC7, ?_⟩
      refine ⟨_, rfl, (by show 1 ≤ sizeLine; decide), fun g ng => ?_⟩
      have kg := same_new (o := .lst [.str e.1]) ng
      have og : upd H7 g (.lst [.str e.1]) g = some (.lst [.str e.1]) := upd_same
      have ot8 := kg _ _ ot7
      have oC8 := kg _ _ oC7
      generalize upd H7 g (.lst [.str e.1]) = H8 at kg og ot8 oC8
      refine ⟨t, g, _, _, rfl, rfl, ot8, og, by rw [List.length_map, List.length_singleton, sizeLine_eq]; omega, fun r nr => ?_⟩
      have kr := same_new (o := .lst (q2.2.map V.str ++ [.str e.1])) nr
      have orr : upd H8 r (.lst (q2.2.map V.str ++ [.str e.1])) r = some (.lst ((q2.2 ++ [e.1]).map V.str)) := by rw [upd_same, List.map_append]; rfl
      have rC : r ≠ CM := fun z => by rw [z, oC8] at nr; cases nr
      have oC9 := kr _ _ oC8
      have k79 := kg.trans kr
      have lowr : H r = none ∧ r ≠ l ∧ r ≠ ls := by
        have n7 := kg.free nr
        have n5 : H5 r = none := by
          cases q : H5 r with
          | none => rfl
          | some o => rw [k7 _ _ rC q] at n7; cases n7
        exact S6.low B05 n5
      generalize upd H8 r (.lst (q2.2.map V.str ++ [.str e.1])) = H9 at kr orr oC9 k79
      have kout : (Sum.inr e.2.2 : Key) ∉ ec.map (·.1) := fun z => m (by
        rw [ek7] at z
        obtain ⟨y, hy, e0⟩ := List.mem_map.mp z
        rw [← Sum.inr.inj e0]
        exact hy)
      refine ⟨_, rfl, _, rfl, CM, _, rfl, DPut.k (k := Sum.inr e.2.2) oC9 (by rw [sizeLine_eq]; omega), ?_⟩
      rw [put_last kout]
      have R8 := I7.r.add eE c m
      have em : (cs' ++ [(e.2.2, q2.2 ++ [e.1])]).map (·.1) = cs'.map (·.1) ++ [e.2.2] := by rw [List.map_append]; rfl
      refine ⟨cs' ++ [(e.2.2, q2.2 ++ [e.1])], _, _, _, _, rfl, upd_same, ?_, ⟨by rw [em]; exact R8, fun q hq => ?_⟩, fun b' o nb h => by rw [upd_ne nb]; exact k79 _ _ (k7 _ _ nb h), fun x h => by rw [em]; exact List.mem_append_left _ (sub x h), .inr ?_, fun e' he' h1 => ?_⟩
      · refine paired_appN (Paired.mapP pc7 fun e q h => ?_) (.cons ⟨rfl, r, rfl, lowr.1, lowr.2, rC, by rw [upd_ne rC]; exact orr⟩ .nil)
        obtain ⟨h1, t, h2, h3, h4, h5, h6⟩ := h
        exact ⟨h1, t, h2, h3, h4, h5, by rw [upd_ne h5]; exact k79 _ _ h6⟩
      · rw [List.length_append]
        rcases List.mem_append.mp hq with h | h
        · obtain ⟨h1, h2⟩ := I7.p q h
          exact ⟨h1, by omega⟩
        · rw [List.mem_singleton.mp h]
          refine ⟨.snoc (x := e.2.1) (by rw [← hk2]; exact pa) ein, ?_⟩
          show (q2.2 ++ [e.1]).length ≤ _
          rw [List.length_append]
          show _ + 1 ≤ _ + 1
          omega
      · rw [List.length_append]
        have : cs.length ≤ cs'.length := by rcases gr with h | h <;> first | (rw [h]; exact Nat.le_refl _) | omega
        show _ ≤ cs'.length + 1
        omega
      · rw [em]
        rw [tk] at he'
        rcases List.mem_append.mp he' with z | z
        · exact List.mem_append_left _ (cl e' z h1)
        · rw [List.mem_singleton.mp z]; exact List.mem_append_right _ (List.mem_singleton.mpr rfl)
    · rintro σ H7 ⟨cs', ec, s7, s8, s9, rfl, oC7, pc7, I7, k7, sub, gr, cl⟩
      rw [List.length_map, List.take_length] at cl
      refine ⟨cs', ec, _, _, _, _, rfl, oC7, pc7, I7, k7, ?_⟩
      rcases gr with rfl | h
      · refine .inr fun e he h1 => ?_
        obtain ⟨e', he', rfl⟩ := List.mem_map.mp he
        exact cl e' (pm.mem_iff.mpr he') h1
      · rcases prog with p | p
        · exact .inl (by omega)
        · exfalso
          have z := nd_sub_len I7.r.nd fun x hx => reach_in I6.r.b0 p (I7.r.r x hx)
          rw [List.length_map, List.length_map] at z
          omega
  · rintro σ H6 ⟨cs, ec, s6, s7, s8, s9, rfl, oC6, pc6, I6, k6, prog⟩
    have cl : ∀ e ∈ arcs.map (·.2), e.1 ∈ cs.map (·.1) → e.2 ∈ cs.map (·.1) := by
      rcases prog with h | h
      · exact fun e he _ => closed_all I6.r (by rw [lE, List.length_map]; omega) e he
      · exact h
    have bin := reach_in I6.r.b0 cl rea
    have ek6 := cam_keys pc6
    obtain ⟨v, ev⟩ := (val_inS ek6 b).1 bin
    obtain ⟨i2, e2⟩ := valV_get ev
    obtain ⟨q2, eq2, h1, t, h2, h3, h4, _, h6⟩ := paired_get pc6 e2
    have h1 : (Sum.inr b : Key) = Sum.inr q2.1 := h1
    have h2 : v = .ref t := h2
    subst h2
    obtain ⟨pa, pl⟩ := I6.p q2 (List.mem_of_getElem? eq2)
    have sh6 := I6.r.short
    rw [lE, List.length_map] at sh6
    have B6 : But l ls H H6 := fun c o h1 h2 e => k6 _ _ (ne_of_none e nCM) (B05 _ _ h1 h2 e)
    refine ⟨_, rfl, _, rfl, CM, _, rfl, .inl ⟨ec, Sum.inr b, .inl oC6, rfl, ev.symm⟩, ?_⟩
    refine hq H6 t q2.2 h3 h4 h6 (by rw [Sum.inr.inj h1]; exact pa) (by omega) ?_ B6
    obtain ⟨c0, g, k, m, S⟩ := S6
    exact ⟨c0, g, k, m, k6 _ _ (Ne.symm aCM.1) S.o, k6 _ _ (Ne.symm aCM.2) S.c, S.ne, S.g0, S.k0, S.k1, S.m0, S.m1, S.sz⟩
end
end L2.TB
/-! _law_c_world: a balanced world -/
namespace L2.TB
open PySem PySem.Spec PyProof.Rows
/-- what goes in less what goes out, at a node -/
def netI (x : Str → Int) (n : Str) : NtT → Int
  | [] => 0
  | e :: r => ((if e.2.2 = n then x e.1 else 0) - (if e.2.1 = n then x e.1 else 0)) + netI x n r
def putI (x : Str → Int) (o : Str) (m : Int) : Str → Int := fun k => if k = o then x k + m else x k
theorem netI_far {x : Str → Int} {n o : Str} {m : Int} : ∀ {arcs : NtT}, o ∉ arcs.map (·.1) → netI (putI x o m) n arcs = netI x n arcs
  | [], _ => rfl
  | e :: r, h => by
    have h1 : ¬ e.1 = o := fun z => h (by rw [List.map_cons, ← z]; exact List.mem_cons_self)
    have h2 := netI_far (x := x) (n := n) (m := m) (arcs := r) fun z => h (by rw [List.map_cons]; exact List.mem_cons_of_mem _ z)
    show _ + netI (putI x o m) n r = _ + netI x n r
    rw [h2]
    unfold putI
    rw [if_neg h1]
theorem netI_put {x : Str → Int} {n o a b : Str} {m : Int} : ∀ {arcs : NtT}, (arcs.map (·.1)).Nodup → (o, (a, b)) ∈ arcs → netI (putI x o m) n arcs = netI x n arcs + ((if b = n then m else 0) - (if a = n then m else 0))
  | [], _, h => by cases h
  | e :: r, nd, h => by
    rw [List.map_cons, List.nodup_cons] at nd
    rcases List.mem_cons.mp h with rfl | h
    · have h2 := netI_far (x := x) (n := n) (m := m) nd.1
      show ((if b = n then putI x o m o else 0) - (if a = n then putI x o m o else 0)) + netI (putI x o m) n r = (((if b = n then x o else 0) - (if a = n then x o else 0)) + netI x n r) + _
      rw [h2]
      have e : putI x o m o = x o + m := if_pos rfl
      rw [e]
      by_cases c : b = n <;> by_cases c' : a = n <;> simp only [c, c', if_true, if_false] <;> omega
    · have ne : ¬ e.1 = o := fun z => nd.1 (by rw [z]; exact List.mem_map_of_mem (f := (·.1)) h)
      have h2 := netI_put (x := x) (n := n) (m := m) nd.2 h
      show _ + netI (putI x o m) n r = (_ + netI x n r) + _
      rw [h2]
      have e1 : putI x o m e.1 = x e.1 := if_neg ne
      rw [e1]
      omega
theorem inwL_from (x : Str → Int) (n : Str) : ∀ (arcs : NtT) (t : Int), arcs.foldl (fun t e => (t + if e.2.2 ∈ [n] ∧ e.2.1 ∉ [n] then x e.1 else 0) - if e.2.1 ∈ [n] ∧ e.2.2 ∉ [n] then x e.1 else 0) t = t + netI x n arcs
  | [], t => by show t = t + 0; omega
  | e :: r, t => by
    rw [List.foldl_cons, inwL_from x n r]
    show _ = t + (_ + netI x n r)
    by_cases c : e.2.2 = n <;> by_cases c' : e.2.1 = n <;> simp only [List.mem_singleton, c, c', not_true, not_false_iff, and_true, and_false, true_and, false_and, if_true, if_false] <;> omega
theorem inwL_net (x : Str → Int) (n : Str) (arcs : NtT) : inwL x [n] arcs = netI x n arcs := by
  unfold inwL
  rw [inwL_from]
  omega
theorem path_cons {arcs : NtT} {s t b n : Str} {p : List Str} (m : (n, (s, t)) ∈ arcs) (h : PathL arcs t p b) : PathL arcs s (n :: p) b := by
  induction h with
  | nil => exact .snoc (p := []) .nil m
  | snoc _ m2 ih => exact .snoc ih m2
theorem path_seq {arcs : NtT} {a b : Str} {p : List Str} (h : PathL arcs a p b) : ∃ f : Nat → Str, f 0 = a ∧ f p.length = b ∧ ∀ (i : Nat) (n : Str), p[i]? = some n → (n, (f i, f (i + 1))) ∈ arcs := by
  induction h with
  | nil => exact ⟨fun _ => a, rfl, rfl, fun i n e => by cases e⟩
  | @snoc p x y n h m ih =>
    obtain ⟨f, f0, f1, fs⟩ := ih
    refine ⟨fun i => if i ≤ p.length then f i else y, by show (if 0 ≤ p.length then f 0 else y) = a; rw [if_pos (Nat.zero_le _)]; exact f0, ?_, fun i z e => ?_⟩
    · show (if (p ++ [n]).length ≤ p.length then _ else y) = y
      rw [if_neg (by rw [List.length_append, List.length_singleton]; omega)]
    · rcases Nat.lt_or_ge i p.length with lt | ge
      · rw [List.getElem?_append_left lt] at e
        show (z, (if i ≤ p.length then f i else y, if i + 1 ≤ p.length then f (i + 1) else y)) ∈ arcs
        rw [if_pos ((by omega)), if_pos (by omega)]
        exact fs i z e
      · rw [List.getElem?_append_right ge] at e
        have lt := (List.getElem?_eq_some_iff.mp e).1
        rw [List.length_singleton] at lt
        have ei : i = p.length := by omega
        subst ei
        rw [Nat.sub_self] at e
        obtain rfl : n = z := Option.some.inj e
        show (n, (if p.length ≤ p.length then f p.length else y, if p.length + 1 ≤ p.length then f (p.length + 1) else y)) ∈ arcs
        rw [if_pos (Nat.le_refl _), if_neg (by omega), f1]
        exact m
theorem valD_get {vv : Str → V} {arcs : NtT} (nd : (arcs.map (·.1)).Nodup) {e : Str × ArT} (h : e ∈ arcs) : valV (valD vv arcs) (Sum.inr e.1) = some (vv e.1) := by
  obtain ⟨j, hj⟩ := List.getElem?_of_mem h
  refine valV_atN (i := j) (by unfold valD; rw [List.map_map]; have z := nd_inr nd; rw [List.map_map] at z; exact z) ?_
  unfold valD
  rw [List.getElem?_map, hj]
  rfl
theorem valD_put {x : Str → Int} {arcs : NtT} {o : Str} {m : Int} (h : o ∈ arcs.map (·.1)) : putK (valD (fun n => .int (x n)) arcs) (Sum.inr o) (.int (x o + m)) = valD (fun n => .int (putI x o m n)) arcs := by
  rw [put_has (by unfold valD; rw [List.map_map]; obtain ⟨e, he, rfl⟩ := List.mem_map.mp h; exact List.mem_map.mpr ⟨e, he, rfl⟩)]
  unfold valD
  rw [List.map_map]
  refine List.map_congr_left fun e _ => ?_
  show (if (Sum.inr e.1 : Key) = Sum.inr o then ((Sum.inr e.1 : Key), V.int (x o + m)) else (Sum.inr e.1, V.int (x e.1))) = (Sum.inr e.1, V.int (putI x o m e.1))
  unfold putI
  by_cases c : e.1 = o
  · rw [if_pos (congrArg Sum.inr c), if_pos c, c]
  · rw [if_neg (fun z => c (Sum.inr.inj z)), if_neg c]
structure BalX (arcs : NtT) (x : Str → Int) : Prop where
  pos : ∀ e ∈ arcs, 0 ≤ x e.1
  bal : ∀ n, netI x n arcs = 0
theorem BalX.vals {arcs : NtT} {x : Str → Int} (h : BalX arcs x) : valsB (fun n => .int (x n)) arcs = true := by
  unfold valsB
  rw [Bool.and_eq_true]
  refine ⟨List.all_eq_true.mpr fun e he => decide_eq_true (h.pos e he), List.all_eq_true.mpr fun n _ => decide_eq_true ?_⟩
  rw [inwL_net]
  exact h.bal n
theorem bal_zero (arcs : NtT) : BalX arcs (fun _ => 0) := ⟨fun _ _ => Int.le_refl _, fun n => by
  induction arcs with
  | nil => rfl
  | cons e r ih =>
    show _ + netI _ n r = 0
    rw [ih]
    simp⟩
theorem valD_nd {vv : Str → V} {arcs : NtT} (nd : (arcs.map (·.1)).Nodup) : ((valD vv arcs).map (·.1)).Nodup := by
  unfold valD
  rw [List.map_map]
  have z := nd_inr nd
  rw [List.map_map] at z
  exact z
theorem valD_merge {vv : Str → V} {arcs : NtT} (nd : (arcs.map (·.1)).Nodup) : mergeK [] (valD vv arcs) = valD vv arcs := by
  have z := merge_new (valD vv arcs) [] (by rw [List.nil_append]; exact valD_nd nd)
  rw [List.nil_append] at z
  exact z
/-- pairs of names and values, as made by a comprehension -/
theorem pairs_valD {K : PySem.W.Frag} {H2 : Hp} {arcs : NtT} {vv : Str → V} (ys : List V) (ly : ys.length = arcs.length) (ry : ∀ (j : Nat) (y : V), ys[j]? = some y → ∃ (t : Addr) (e : Str × ArT), y = .ref t ∧ arcs[j]? = some e ∧ H2 t = some (.tup [.str e.1, vv e.1])) :
    ∃ ts : List Addr, ys = ts.map V.ref ∧ ∀ H3, (∀ t o, t ∈ ts → H2 t = some o → H3 t = some o) → Paired (fun t (e : Key × V) => SqT K H3 t [kV e.1, e.2]) ts (valD vv arcs) := by
  obtain ⟨ts, rfl, pt⟩ := addrs_of (H := H2) (P := fun i t => ∃ e, arcs[i]? = some e ∧ H2 t = some (.tup [.str e.1, vv e.1])) ys 0 fun j y ey => by
    obtain ⟨t, e, rfl, h1, h2⟩ := ry j y ey
    exact ⟨t, rfl, e, by rw [Nat.zero_add]; exact h1, h2⟩
  refine ⟨ts, rfl, fun H3 k => ?_⟩
  rw [List.length_map] at ly
  refine paired_of _ _ (by unfold valD; rw [List.length_map]; exact ly) fun i t q et eq => ?_
  unfold valD at eq
  rw [List.getElem?_map] at eq
  obtain ⟨e, ee, rfl⟩ := Option.map_eq_some_iff.mp eq
  obtain ⟨e', ee', ot⟩ := pt i t et
  rw [Nat.zero_add, ee] at ee'
  obtain rfl := Option.some.inj ee'
  exact SqT.of (k _ _ (List.mem_of_getElem? et) ot)
def spWorldL : Sp := fun vs H Q _ => ∃ (l ls D : Addr) (arcs : NtT) (A : Addr → Prop) (N : Int), vs = [.ref l, .ref D] ∧ Strm H l ls N ∧ N ≤ 700000 ∧ PyD.at_ A H (.ref D) (Dc.mk arcs) ∧ (∀ c, A c → c ≠ l ∧ c ≠ ls) ∧ arcs.length ≤ 8 ∧
  ∀ H' W x, H W = none → W ≠ l ∧ W ≠ ls → H' W = some (.dK (valD (fun n => .int (x n)) arcs)) → BalX arcs x → Strm H' l ls (N + 1000) → But l ls H H' → Q (.ref W) H'
abbrev NWo : List Str := ["stream", "arcs", "name", "found", "much", "other"]
theorem scWorldL : FnScope NWo ["stream", "arcs"] (defScope sWorldL) := ⟨rfl, rfl, rfl, by decide +kernel, rfl, by decide +kernel, by decide +kernel⟩
section
variable {P : Program} {w : World} {K : PySem.W.Frag} {mg : Str → Option Value} {base : Heap} {f fD fM fL fW : Addr} {fd fdD fdM fdL fdW : FuncData}
theorem ok_worldL (F : Fun K "_law_c_world" "_law_c_world" sWorldL f fd) (FD : Fun K "_law_draw" "_law_draw" sDraw fD fdD) (gD : mg "_law_draw" = some (.ref fD)) (FM : Fun K "_law_mixed" "_law_mixed" sMixed fM fdM) (gM : mg "_law_mixed" = some (.ref fM)) (GM : FnOk P w K mg base CX0 2 fM fdM ["stream", "some"] (spMixed K))
    (FL : Fun K "_law_c_live" "_law_c_live" sLiveL fL fdL) (gL : mg "_law_c_live" = some (.ref fL)) (GL : FnOk P w K mg base CX0 2 fL fdL ["arcs"] spLiveL) (FW : Fun K "_law_c_way" "_law_c_way" sWay fW fdW) (gW : mg "_law_c_way" = some (.ref fW)) (GW : FnOk P w K mg base CX0 3 fW fdW ["stream", "arcs", "start", "goal"] spWay) (gI : mg "int" = none) (nDi : mg "dict" = none) : FnOk P w K mg base CX0 4 f fd ["stream", "arcs"] spWorldL := by
  have GD : FnOk P w K mg base CX0 1 fD fdD ["stream", "many"] spDraw := ok_draw FD gI
  have bD := FD.binds (ps := ["stream", "many"]) fun _ _ _ _ _ _ us hl => match us, hl with | [_, _], _ => rfl
  have bM := FM.binds (ps := ["stream", "some"]) fun _ _ _ _ _ _ us hl => match us, hl with | [_, _], _ => rfl
  have bL := FL.binds (ps := ["arcs"]) fun _ _ _ _ _ _ us hl => match us, hl with | [_], _ => rfl
  have bW := FW.binds (ps := ["stream", "arcs", "start", "goal"]) fun _ _ _ _ _ _ us hl => match us, hl with | [_, _, _, _], _ => rfl
  refine F.ok scWorldL (fun vs H Q E h => by obtain ⟨l, ls, D, arcs, A, N, e, _⟩ := h; rw [e]; rfl) fun cdv A outer s H vs Q E hr hsp => ?_
  obtain ⟨l, ls, D, arcs, A0, N, rfl, S, hN, at_, hA, sh, hq⟩ := hsp
  have nd := scWorldL.nd
  have hu := hu_of (hr.mono (show 1 ≤ 3 by decide))
  have hr1 := hr.mono (show 1 ≤ 3 by decide)
  have hr2 := hr.mono (show 2 ≤ 3 by decide)
  refine ⟨_, pss_cons (ps_set (i := 3) nd rfl (Or.inl rfl) (pe_callTy (r := rDk K) (call_dk rfl) rfl nDi boot_dict' (pa_cons (pe_lock (pe_lc (own := [("name", 2)]) (tt := tYes) (g := gName 2) (te := tTup (tCons (tVar 2) (tCons (tC (.int 0)) tNil))) rfl nd (pi_keys (pv 1)) (blkOk_by (N := NWo) (sc := defScope sWorldL) (by decide +kernel)) (fun _ _ _ _ _ => pg_name (i := 2) nd rfl (Or.inl rfl)) (fun _ _ _ _ _ => pts_nil) (fun _ _ _ _ _ => pe_tup (pa_cons (pv 2) (pa_cons pe_int pa_nil))))) pa_nil)))
    (pss_cons (ps_for PassesOwn.never rfl (pi_list (pe_call GM hr2 rfl gM FM.kp bM .nil pass0 (pa_cons (pv 0) (pa_cons (pe_call GL hr2 rfl gL FL.kp bL .nil pass0 (pa_cons (pv 1) pa_nil)) pa_nil)))) (pg_name (i := 2) nd rfl (Or.inl rfl))
      (pss_one (ps_via (ps_if (pt_cmpR op_gt (pe_call GD hr1 rfl gD FD.kp bD .nil pass0 (pa_cons (pv 0) (pa_cons pe_int pa_nil))) pe_int (nomark _))
        (pss_cons (ps_set (i := 4) nd rfl (Or.inl rfl) (pe_call GD hr1 rfl gD FD.kp bD .nil pass0 (pa_cons (pv 0) (pa_cons pe_int pa_nil))))
        (pss_one (ps_for PassesOwn.never rfl (pi_list (pe_op op_cat (pe_lst (pa_cons (pv 2) pa_nil)) (pe_call GW hr rfl gW FW.kp bW .nil pass0 (pa_cons (pv 0) (pa_cons (pv 1) (pa_cons (pe_ix (r := rIx K) ix_seq (pe_dget hu (pv 1) (pv 2) (fun _ _ => rfl)) pe_int (fun _ _ => rfl)) (pa_cons (pe_ix (r := rIx K) ix_seq (pe_dget hu (pv 1) (pv 2) (fun _ _ => rfl)) pe_int (fun _ _ => rfl)) pa_nil))))))) (pg_name (i := 5) nd rfl (Or.inl rfl))
          (pss_one (ps_dput hu (pv 3) (pv 5) (pe_op op_add (pe_dget hu (pv 3) (pv 5) (fun _ _ => rfl)) (pv 4)) rfl))))) pss_nil))))
    (pss_one (ps_ret (pv 3)))), ?_⟩
  obtain ⟨D', es, e1, aD, oD, rnd, pr⟩ := at_
  obtain rfl := V.ref.inj e1
  have les : es.length = arcs.length := Paired.length pr
  have ndes : (es.map (·.1)).Nodup := by rw [dc_keys pr]; exact nd_inr rnd
  have nDl := hA D aD
  refine ⟨D, _, oD, trivial, fun od => ⟨_, rfl, D, od, rfl, .inl ⟨es, upd_same, ?_⟩⟩⟩
  have oL : upd H D (.frz od (.dK es)) D = some (.frz od (.dK es)) := upd_same
  refine lc_made arcs.length (by omega) (fun i H' s lt => ⟨s _ _ oL, by omega⟩) (fun H' s => ⟨s _ _ oL, by omega⟩)
    (fun i y H' => ∃ t e, y = .ref t ∧ arcs[i]? = some e ∧ H' t = some (.tup [.str e.1, .int 0])) (fun i y H1 H2 C l ⟨t, e, ey, ea, ot⟩ hC keep => ⟨t, e, ey, ea, keep _ _ (fun z => by rw [z, hC] at ot; cases ot) ot⟩) ?_ ?_
  · rintro i y H2 H3 Cn Nn lt s2 ⟨rfl, k0, v0, ekv, rfl⟩ yes
    obtain ⟨e, ee, hk, _⟩ := paired_get pr ekv
    have hk : k0 = Sum.inr e.1 := hk
    subst hk
    exact ⟨rfl, _, rfl, (by show 2 ≤ sizeLine; decide), fun t nt => yes _ _ ⟨t, e, rfl, ee, upd_same⟩ (same_new nt)⟩
  intro H2 L ys nL oL2 ly ry s2
  obtain ⟨ts, rfl, pts⟩ := pairs_valD (K := K) (H2 := H2) (arcs := arcs) (vv := fun _ => .int 0) ys ly ry
  obtain ⟨b1, s1⟩ := lock_offN oD s2
  have LD : L ≠ D := fun z => by rw [z, oL] at nL; cases nL
  refine ⟨b1, L, ts, _, rfl, SqL.of (by rw [upd_ne LD]; exact oL2), pts _ fun t o ht e => ?_, fun W nW => ?_⟩
  · by_cases c : t = D
    · obtain ⟨j, hj⟩ := List.getElem?_of_mem ht
      obtain ⟨t', e', h1, _, h3⟩ := ry j (.ref t) (by rw [List.getElem?_map, hj]; rfl)
      obtain rfl := V.ref.inj h1
      rw [c, b1] at h3
      cases h3
    · rw [upd_ne c]; exact e
  rw [valD_merge rnd]
  have kW := same_new (o := .dK (valD (fun _ => .int 0) arcs)) nW
  have oW : upd (upd H2 D (.dK es)) W (.dK (valD (fun _ => .int 0) arcs)) W = some (.dK (valD (fun n => .int ((fun _ => 0 : Str → Int) n)) arcs)) := upd_same
  have k3 := s1.trans kW
  have nW0 := s1.free nW
  have aW := S.apart (Same.refl _) nW0
  generalize upd (upd H2 D (.dK es)) W (.dK (valD (fun _ => .int 0) arcs)) = H3 at kW oW k3
  clear pts ry oL2 nL b1 kW
  have WD : W ≠ D := fun z => by rw [z, oD] at nW0; cases nW0
  refine ⟨_, rfl, _, rfl, D, arcs, A0, rfl, ⟨D, es, rfl, aD, k3 _ _ oD, rnd, Paired.mapP pr fun e q h => ⟨h.1, PyD.kp h.2 fun b o a e => ⟨a, k3 _ _ e⟩⟩⟩, by omega, fun H4 lv nlv olv k4 => ?_⟩
  have k04 := k3.trans k4
  have llv : (liveL arcs).length ≤ 8 := by
    unfold liveL
    rw [List.length_map]
    have := List.length_filter_le (liveB arcs) arcs
    omega
  refine ⟨l, ls, lv, _, N, rfl, S.same k04, by omega, SqL.of olv, by rw [List.length_map]; omega, fun H5 md ys perm nmd omd S5 B5 => ?_⟩
  obtain ⟨os, pm, rfl⟩ := perm_lift perm (l := liveL arcs) rfl
  have lo : os.length ≤ 8 := by rw [pm.length_eq]; exact llv
  have B05 : But l ls H H5 := fun c o h1 h2 e => B5 _ _ h1 h2 (k04 _ _ e)
  have oW5 := B5 _ _ aW.1 aW.2 (k4 _ _ oW)
  have amd := (S.same k04).apart (Same.refl _) nmd
  have mdW : md ≠ W := fun z => by rw [z, k4 _ _ oW] at nmd; cases nmd
  have S6 : Strm H5 l ls (N + 10) := S5.mono (by rw [List.length_map]; rw [pm.length_eq] at lo; omega)
  refine ⟨md, rfl, ⟨_, SqL.of omd⟩, for_list (xs := os.map V.str) (fun i σ H' => ∃ (x : Str → Int) (s2 s4 s5 : Option V), σ = [some (.ref l), some (.ref D), s2, some (.ref W), s4, s5] ∧ H' W = some (.dK (valD (fun n => .int (x n)) arcs)) ∧ BalX arcs x ∧ Strm H' l ls (N + 10 + 110 * i) ∧ But l ls H H' ∧ H' md = some (.lst (os.map V.str)))
    ⟨_, _, _, _, rfl, oW5, bal_zero arcs, S6.mono (by omega), B05, omd⟩ (fun i σ H' _ h => by obtain ⟨_, _, _, _, _, _, _, _, _, h⟩ := h; exact SqL.of h) ?_ ?_⟩
  · rintro i v σ H6 ev ⟨x, s2, s4, s5, rfl, oW6, bx, S6, B6, omd6⟩
    rw [List.getElem?_map] at ev
    obtain ⟨n, en, rfl⟩ := Option.map_eq_some_iff.mp ev
    have li : i < 8 := by have := (List.getElem?_eq_some_iff.mp en).1; omega
    have nlive : n ∈ liveL arcs := pm.mem_iff.mp (List.mem_of_getElem? en)
    obtain ⟨e, hef, rfl⟩ := List.mem_map.mp nlive
    obtain ⟨ein, elv⟩ := List.mem_filter.mp hef
    have rea := liveB_iff.mp elv
    refine ⟨fun σ' H' => ∃ (x : Str → Int) (s2 s4 s5 : Option V), σ' = [some (.ref l), some (.ref D), s2, some (.ref W), s4, s5] ∧ H' W = some (.dK (valD (fun n => .int (x n)) arcs)) ∧ BalX arcs x ∧ Strm H' l ls (N + 10 + 110 * i + 105) ∧ But l ls H H' ∧ H' md = some (.lst (os.map V.str)), ?_, ?_⟩
    · refine ⟨_, rfl, l, ls, 3, _, rfl, S6, by omega, by decide, by decide, fun H7 r r0 r1 S7 B7 => ?_⟩
      refine ⟨_, _, rfl, rfl, _, rfl, ?_⟩
      by_cases c : 0 < r
      case neg =>
        rw [decide_eq_false (show ¬ r > 0 from c)]
        exact iteF ⟨x, _, _, _, rfl, B7 _ _ aW.1 aW.2 oW6, bx, S7.mono (by omega), B6.trans B7, B7 _ _ amd.1 amd.2 omd6⟩
      rw [decide_eq_true (show r > 0 from c)]
      refine iteT ?_
      refine ⟨_, rfl, l, ls, 5, _, rfl, S7, by omega, by decide, by decide, fun H8 m m0 m1 S8 B8 => ?_⟩
      have B08 := (B6.trans B7).trans B8
      have oW8 := B8 _ _ aW.1 aW.2 (B7 _ _ aW.1 aW.2 oW6)
      have omd8 := B8 _ _ amd.1 amd.2 (B7 _ _ amd.1 amd.2 omd6)
      refine ⟨_, rfl, (by show 1 ≤ sizeLine; decide), fun u nu => ?_⟩
      have ku := same_new (o := .lst [.str e.1]) nu
      have ou : upd H8 u (.lst [.str e.1]) u = some (.lst [.str e.1]) := upd_same
      have S9 := S8.same ku
      have au := S8.apart (Same.refl _) nu
      have B09 := B08.trans (.of ku)
      have oW9 := ku _ _ oW8
      have omd9 := ku _ _ omd8
      generalize upd H8 u (.lst [.str e.1]) = H9 at ku ou S9 B09 oW9 omd9
      obtain ⟨v, ev9, atv⟩ := val_atD pr (lk_mem rnd ein)
      obtain ⟨t0, y, z, hv, ap, op, hy, hz⟩ := atv
      have hy : y = .str e.2.1 := hy
      have hz : z = .str e.2.2 := hz
      subst hv hy hz
      have at0 := hA t0 ap
      have op9 := B09 _ _ at0.1 at0.2 op
      have oD9 := B09 _ _ nDl.1 nDl.2 oD
      have dg9 : DGet H9 D (.str e.1) (some (.ref t0)) := .inl ⟨es, Sum.inr e.1, .inl oD9, rfl, ev9.symm⟩
      refine ⟨_, rfl, _, rfl, _, rfl, _, rfl, D, _, rfl, dg9, .inr (.inl ⟨t0, _, _, _, rfl, rfl, SqT.of op9, rfl, ?_⟩)⟩
      refine ⟨_, rfl, _, rfl, D, _, rfl, dg9, .inr (.inl ⟨t0, _, _, _, rfl, rfl, SqT.of op9, rfl, ?_⟩)⟩
      refine ⟨l, ls, D, arcs, A0, e.2.2, e.2.1, _, rfl, S9, by omega, ⟨D, es, rfl, aD, oD9, rnd, Paired.mapP pr fun e q h => ⟨h.1, PyD.kp h.2 fun b o a e => ⟨a, B09 _ _ (hA b a).1 (hA b a).2 e⟩⟩⟩, hA, by omega, rea, fun H10 t p nt at_ ot pth lp S10 B10 => ?_⟩
      have oW10 := B10 _ _ aW.1 aW.2 oW9
      have omd10 := B10 _ _ amd.1 amd.2 omd9
      have ou10 := B10 _ _ au.1 au.2 ou
      have B010 := B09.trans B10
      refine ⟨u, t, _, _, rfl, rfl, ou10, ot, by rw [List.length_map, List.length_singleton, sizeLine_eq]; omega, fun r nr => ?_⟩
      have kr := same_new (o := .lst ([.str e.1] ++ p.map V.str)) nr
      have orr : upd H10 r (.lst ([.str e.1] ++ p.map V.str)) r = some (.lst ((e.1 :: p).map V.str)) := upd_same
      have ar := S10.apart (Same.refl _) nr
      have rW : r ≠ W := fun z => by rw [z, oW10] at nr; cases nr
      have S11 := S10.same kr
      have B011 := B010.trans (.of kr)
      have oW11 := kr _ _ oW10
      have omd11 := kr _ _ omd10
      generalize upd H10 r (.lst ([.str e.1] ++ p.map V.str)) = H11 at kr orr S11 B011 oW11 omd11
      obtain ⟨fn, f0, f1, fs⟩ := path_seq (path_cons (s := e.2.1) ein pth)
      refine ⟨r, rfl, ⟨_, SqL.of orr⟩, for_list (xs := (e.1 :: p).map V.str) (fun j σ H' => ∃ (x : Str → Int) (s5 : Option V), σ = [some (.ref l), some (.ref D), some (.str e.1), some (.ref W), some (.int m), s5] ∧ H' W = some (.dK (valD (fun n => .int (x n)) arcs)) ∧ (∀ e ∈ arcs, 0 ≤ x e.1) ∧ (∀ n, netI x n arcs = (if fn j = n then m else 0) - (if e.2.1 = n then m else 0)) ∧ Strm H' l ls (N + 10 + 110 * i + 105) ∧ But l ls H H' ∧ H' md = some (.lst (os.map V.str)) ∧ H' r = some (.lst ((e.1 :: p).map V.str)))
        ⟨x, _, rfl, oW11, bx.pos, fun n => by rw [bx.bal n, f0]; omega, S11.mono (by omega), B011, omd11, orr⟩ (fun j σ H' _ h => by obtain ⟨_, _, _, _, _, _, _, _, _, h⟩ := h; exact SqL.of h) ?_ ?_⟩
      · rintro j v σ H12 ej ⟨x, s5, rfl, oW12, px, bx, S12, B12, omd12, or12⟩
        rw [List.getElem?_map] at ej
        obtain ⟨n, ej2, rfl⟩ := Option.map_eq_some_iff.mp ej
        have arc := fs j n ej2
        have nin : n ∈ arcs.map (·.1) := List.mem_map_of_mem (f := (·.1)) arc
        have dgW : DGet H12 W (.str n) (some (.int (x n))) := .inl ⟨_, Sum.inr n, .inl oW12, rfl, (valD_get (vv := fun n => .int (x n)) rnd arc).symm⟩
        refine ⟨_, rfl, _, rfl, W, _, rfl, dgW, _, rfl, _, _, rfl, rfl, ?_⟩
        refine ⟨_, rfl, _, rfl, W, _, rfl, DPut.k (k := Sum.inr n) oW12 (by unfold valD; rw [List.length_map, sizeLine_eq]; omega), ?_⟩
        rw [valD_put nin]
        refine ⟨putI x n m, _, rfl, upd_same, fun e he => ?_, fun n' => ?_, strm_upd S12 aW, fun b o h1 h2 h => by rw [upd_ne (ne_of_none h nW0)]; exact B12 _ _ h1 h2 h, by rw [upd_ne mdW]; exact omd12, by rw [upd_ne rW]; exact or12⟩
        · unfold putI
          have := px e he
          split <;> omega
        · rw [netI_put rnd arc, bx n']
          omega
      · rintro σ H12 ⟨x, s5, rfl, oW12, px, bx, S12, B12, omd12, or12⟩
        rw [List.length_map] at bx
        exact ⟨x, _, _, _, rfl, oW12, ⟨px, fun n => by rw [bx n, f1]; omega⟩, S12, B12, omd12⟩
    · rintro σ' H' ⟨x, s2, s4, s5, rfl, oW', bx', S', B', omd'⟩
      exact ⟨x, _, _, _, rfl, oW', bx', S'.mono (by omega), B', omd'⟩
  · rintro σ H6 ⟨x, s2, s4, s5, rfl, oW6, bx, S6, B6, omd6⟩
    exact ⟨_, rfl, hq H6 W x nW0 aW oW6 bx (S6.mono (by rw [List.length_map]; omega)) B6⟩
end
end L2.TB
/-! _law_c_is_world -/
namespace L2.TB
open PySem PySem.Spec PyProof.Rows
def inS (x : Str → Int) (n : Str) (arcs : NtT) : List Int := (arcs.filter fun e => decide (e.2.2 = n)).map fun e => x e.1
def outS (x : Str → Int) (n : Str) (arcs : NtT) : List Int := (arcs.filter fun e => decide (e.2.1 = n)).map fun e => x e.1
theorem netI_sums (x : Str → Int) (n : Str) : ∀ arcs : NtT, netI x n arcs = (inS x n arcs).sum - (outS x n arcs).sum
  | [] => rfl
  | e :: r => by
    have ih := netI_sums x n r
    show _ + netI x n r = _
    rw [ih]
    unfold inS outS
    rw [(List.filter_cons), List.filter_cons]
    by_cases c : e.2.2 = n <;> by_cases c' : e.2.1 = n <;> simp only [c, c', decide_true, decide_false, if_true, if_false, List.map_cons, List.sum_cons, Bool.false_eq_true] <;> omega
def spIsWorldL (K : PySem.W.Frag) : Sp := fun vs H Q _ => ∃ (D : Addr) (arcs : NtT) (A : Addr → Prop) (v : V) (b : Bool), vs = [.ref D, v] ∧ PyD.at_ A H (.ref D) (Dc.mk arcs) ∧ 0 < arcs.length ∧ arcs.length < 300 ∧ WTh K H arcs v b ∧ ∀ H', Same H H' → Q (.bl b) H'
abbrev NIwl : List Str := ["arcs", "x", "node", "inner", "name"]
theorem scIsWorldL : FnScope NIwl ["arcs", "x"] (defScope sIsWorldL) := ⟨rfl, rfl, rfl, by decide +kernel, rfl, by decide +kernel, by decide +kernel⟩
section
variable {P : Program} {w : World} {K : PySem.W.Frag} {mg : Str → Option Value} {base : Heap} {f fN : Addr} {fd fdN : FuncData}
theorem ok_isWorldL (F : Fun K "_law_c_is_world" "_law_c_is_world" sIsWorldL f fd) (FN : Fun K "_law_c_nodes" "_law_c_nodes" sNodesL fN fdN) (gNd : mg "_law_c_nodes" = some (.ref fN)) (gI : mg "isinstance" = none) (gD : mg "dict" = none) (gN : mg "len" = none) (gA : mg "all" = none) (gS : mg "sum" = none) (gInt : mg "int" = none) (gB : mg "bool" = none) : FnOk P w K mg base CX0 2 f fd ["arcs", "x"] (spIsWorldL K) := by
  have GN : FnOk P w K mg base CX0 1 fN fdN ["arcs"] spNodesOf := ok_nodesL FN gInt
  have bN := FN.binds (ps := ["arcs"]) fun _ _ _ _ _ _ us hl => match us, hl with | [_], _ => rfl
  refine F.ok scIsWorldL (fun vs H Q E h => by obtain ⟨D, arcs, A, v, b, e, _⟩ := h; rw [e]; rfl) fun cdv A outer s H vs Q E hr hsp => ?_
  obtain ⟨D, arcs, A0, v, b, rfl, at_, n0, sh, wt, hq⟩ := hsp
  have nd := scIsWorldL.nd
  have hu := hu_of hr
  refine ⟨_, pss_cons (ps_if (PW.pt (pw_or (pt_not (pt_val (pe_callB (r := rIsi K) call_isi rfl gI boot_isi (pa_cons (pv 1) (pa_cons (pe_bltn (v := .ty "dict") rfl gD boot_dict' rfl) pa_nil)))))
        (pw_or (pt_cmpR op_ne (pe_callB call_lenD rfl gN boot_len (pa_cons (pv 1) pa_nil)) (pe_callB call_lenD rfl gN boot_len (pa_cons (pv 0) pa_nil)) (nomark _))
          (pw_or1 (pt_not (pt_val (pe_callB (cr_all rfl) rfl gA boot_allN (pa_cons (pe_lock (pe_lc (own := [("name", 4)]) (g := gName 4) (tt := tYes) rfl nd (pi_keys (pv 0)) (blkOk_by (N := NIwl) (sc := defScope sIsWorldL) (by decide +kernel)) (fun _ _ _ _ _ => pg_name (i := 4) nd rfl (Or.inl rfl)) (fun _ _ _ _ _ => pts_nil)
            (fun _ _ _ _ _ => pe_cmp (pc_din hu (pv 4) (pv 1))))) pa_nil)))))))) (pss_one (ps_ret pe_bl)) pss_nil)
    (pss_cons (ps_if (pt_not (pt_val (pe_callB (cr_all rfl) rfl gA boot_allN (pa_cons (pe_lock (pe_lc (own := [("name", 4)]) (g := gName 4) (tt := tYes) rfl nd (pi_keys (pv 0)) (blkOk_by (N := NIwl) (sc := defScope sIsWorldL) (by decide +kernel)) (fun _ _ _ _ _ => pg_name (i := 4) nd rfl (Or.inl rfl)) (fun _ _ _ _ _ => pts_nil)
            (fun _ _ _ _ _ => pe_and (pe_callB (r := rIsi K) call_isi rfl gI boot_isi (pa_cons (pe_dget hu (pv 1) (pv 4) (fun _ _ => rfl)) (pa_cons (pe_bltn (v := .ty "int") rfl gInt boot_int' rfl) pa_nil)))
              (pe_and (pe_not (pe_callB (r := rIsi K) call_isi rfl gI boot_isi (pa_cons (pe_dget hu (pv 1) (pv 4) (fun _ _ => rfl)) (pa_cons (pe_bltn (v := .ty "bool") rfl gB boot_bool' rfl) pa_nil)))) (pe_one (pe_cmpR op_ge (pe_dget hu (pv 1) (pv 4) (fun _ _ => rfl)) pe_int (nomark _))))))) pa_nil)))) (pss_one (ps_ret pe_bl)) pss_nil)
    (pss_cons (ps_for PassesOwn.never rfl (pi_list (pe_call GN hr rfl gNd FN.kp bN .nil pass0 (pa_cons (pv 0) pa_nil))) (pg_name (i := 2) nd rfl (Or.inr rfl))
      (pss_cons (ps_set (i := 3) nd rfl (Or.inl rfl) (pe_callB (r := rSum K) (cr_sum rfl) rfl gS boot_sumN (pa_cons (pe_lock (pe_lc (own := [("name", 4)]) (g := gName 4) (tt := tTest (tOp rEq (tOp (rIx K) (tDGet (tVar 0) (tVar 4)) (tC (.int 1))) (tVar 2))) (te := tDGet (tVar 1) (tVar 4)) rfl nd (pi_keys (pv 0)) (blkOk_by (N := NIwl) (sc := defScope sIsWorldL) (by decide +kernel)) (fun _ _ _ _ _ => pg_name (i := 4) nd rfl (Or.inl rfl))
          (fun _ _ _ _ _ => pts_one (pt_cmpR op_eq (pe_ix (r := rIx K) ix_seq (pe_dget hu (pv 0) (pv 4) (fun _ _ => rfl)) pe_int (fun _ _ => rfl)) (pv 2) (nomark _))) (fun _ _ _ _ _ => pe_dget hu (pv 1) (pv 4) (fun _ _ => rfl)))) pa_nil)))
      (pss_one (ps_if (pt_cmpR op_ne (pv 3) (pe_callB (r := rSum K) (cr_sum rfl) rfl gS boot_sumN (pa_cons (pe_lock (pe_lc (own := [("name", 4)]) (g := gName 4) (tt := tTest (tOp rEq (tOp (rIx K) (tDGet (tVar 0) (tVar 4)) (tC (.int 0))) (tVar 2))) (te := tDGet (tVar 1) (tVar 4)) rfl nd (pi_keys (pv 0)) (blkOk_by (N := NIwl) (sc := defScope sIsWorldL) (by decide +kernel)) (fun _ _ _ _ _ => pg_name (i := 4) nd rfl (Or.inl rfl))
          (fun _ _ _ _ _ => pts_one (pt_cmpR op_eq (pe_ix (r := rIx K) ix_seq (pe_dget hu (pv 0) (pv 4) (fun _ _ => rfl)) pe_int (fun _ _ => rfl)) (pv 2) (nomark _))) (fun _ _ _ _ _ => pe_dget hu (pv 1) (pv 4) (fun _ _ => rfl)))) pa_nil)) (nomark _)) (pss_one (ps_ret pe_bl)) pss_nil))))
    (pss_one (ps_ret pe_bl)))), ?_⟩
  obtain ⟨D', es, e1, aD, oD, rnd, pr⟩ := at_
  obtain rfl := V.ref.inj e1
  have les : es.length = arcs.length := Paired.length pr
  have ek : es.map (·.1) = (arcs.map (·.1)).map Sum.inr := dc_keys pr
  have ndes : (es.map (·.1)).Nodup := by rw [ek]; exact nd_inr rnd
  have lns : (arcs.map (·.1)).length = arcs.length := List.length_map _
  obtain ⟨nod, rfl⟩ | ⟨d, kvs, rfl, od, shk, dD, rest⟩ : (NoDict K H v ∧ b = false) ∨ ∃ d kvs, v = .ref d ∧ H d = some (.dK kvs) ∧ kvs.length < 2000 ∧ d ≠ D ∧ ((justB kvs (arcs.map (·.1)) = false ∧ b = false) ∨ (justB kvs (arcs.map (·.1)) = true ∧ ∃ vv : Str → V, (∀ e ∈ arcs, valV kvs (Sum.inr e.1) = some (vv e.1) ∧ Atom (vv e.1)) ∧ b = valsB vv arcs)) := by
    cases wt with
    | no h => exact .inl ⟨h, rfl⟩
    | @bad d kvs o sh j => exact .inr ⟨d, kvs, rfl, o, sh, wth_far n0 rnd oD pr o (.inl j), .inl ⟨j, rfl⟩⟩
    | @val d kvs o sh j vv hv => exact .inr ⟨d, kvs, rfl, o, sh, wth_far n0 rnd oD pr o (.inr ⟨vv, hv⟩), .inr ⟨j, vv, hv, rfl⟩⟩
  · obtain ⟨t, h1, h2⟩ := nod
    exact ⟨_, rfl, _, _, _, _, false, rfl, .ty _, h1, kit_ty h2, _, rfl, iteT (iteT (hq H (Same.refl _)))⟩
  refine ⟨_, rfl, _, _, _, _, true, rfl, .ty _, .base (.dK od), kit_ty (by decide +kernel), _, rfl, iteF ?_⟩
  have ed : decide (V.int (kvs.length : Nat) = V.int (es.length : Nat)) = decide (kvs.length = arcs.length) := decide_eq_decide.mpr ⟨fun h => by have := V.int.inj h; omega, fun h => by rw [h, les]⟩
  refine ⟨_, rfl, d, kvs, rfl, od, _, rfl, D, es, rfl, oD, rfl, !decide (kvs.length = arcs.length), congrArg (fun z => V.bl (!z)) ed, ?_⟩
  by_cases c : kvs.length = arcs.length
  case neg =>
    rw [decide_eq_false c]
    have eb : b = false := by
      rcases rest with ⟨_, h⟩ | ⟨h, _⟩
      · exact h
      · unfold justB at h
        rw [lns, decide_eq_false c] at h
        cases h
    rw [eb] at hq
    exact iteT (iteT (hq H (Same.refl _)))
  rw [decide_eq_true c]
  refine iteF ⟨D, _, oD, trivial, fun oo => ⟨_, rfl, D, oo, rfl, .inl ⟨es, upd_same, ?_⟩⟩⟩
  have oL : upd H D (.frz oo (.dK es)) D = some (.frz oo (.dK es)) := upd_same
  refine lc_gen ((arcs.map fun e => (valV kvs (Sum.inr e.1)).isSome).map V.bl) (by rw [List.length_map, List.length_map]; omega) (fun i H' s lt => ⟨s _ _ oL, by rw [List.length_map, List.length_map] at lt; omega⟩) (fun H' s => ⟨s _ _ oL, by rw [List.length_map, List.length_map]; omega⟩) ?_ ?_
  · rintro i y b2 H2 H3 Cn Nn eb s2 ⟨rfl, k0, v0, ekv, rfl⟩ yes
    obtain ⟨e, ee, hk, _⟩ := paired_get pr ekv
    have hk : k0 = Sum.inr e.1 := hk
    subst hk
    have ee : arcs[i]? = some e := ee
    rw [List.getElem?_map, List.getElem?_map, ee] at eb
    obtain rfl := Option.some.inj eb
    have od3 := s2 _ _ (show upd H D (.frz oo (.dK es)) d = _ by rw [upd_ne dD]; exact od)
    exact ⟨rfl, _, rfl, _, rfl, d, _, rfl, DGet.k (k := Sum.inr e.1) od3, yes H3 (Same.refl _)⟩
  intro H2 q nq oq s2
  obtain ⟨b1, k12⟩ := lock_offN oD s2
  have qD : q ≠ D := fun z => by rw [z, oL] at nq; cases nq
  refine ⟨b1, q, _, rfl, SqL.of (by rw [upd_ne qD]; exact oq), _, rfl, ?_⟩
  have ej : justB kvs (arcs.map (·.1)) = (arcs.map fun e => (valV kvs (Sum.inr e.1)).isSome).all id := by
    unfold justB
    rw [lns, decide_eq_true c, List.all_map, List.all_map]
    rfl
  rw [← ej]
  rcases rest with ⟨jf, rfl⟩ | ⟨jt, vv, hv, rfl⟩
  · rw [jf]
    exact iteT (hq _ k12)
  rw [jt]
  refine iteF ?_
  have oD3 := k12 _ _ oD
  have od3 := k12 _ _ od
  generalize upd H2 D (.dK es) = H3 at k12 oD3 od3
  clear b1 s2 oq nq qD oL oo
  refine ⟨D, _, oD3, trivial, fun oo => ⟨_, rfl, D, oo, rfl, .inl ⟨es, upd_same, ?_⟩⟩⟩
  have oL : upd H3 D (.frz oo (.dK es)) D = some (.frz oo (.dK es)) := upd_same
  refine lc_gen ((arcs.map fun e => cntB (vv e.1)).map V.bl) (by rw [List.length_map, List.length_map]; omega) (fun i H' s lt => ⟨s _ _ oL, by rw [List.length_map, List.length_map] at lt; omega⟩) (fun H' s => ⟨s _ _ oL, by rw [List.length_map, List.length_map]; omega⟩) ?_ ?_
  · rintro i y b2 H4 H5 Cn Nn eb s4 ⟨rfl, k0, v0, ekv, rfl⟩ yes
    obtain ⟨e, ee, hk, _⟩ := paired_get pr ekv
    have hk : k0 = Sum.inr e.1 := hk
    subst hk
    have ee : arcs[i]? = some e := ee
    rw [List.getElem?_map, List.getElem?_map, ee] at eb
    obtain rfl := Option.some.inj eb
    have od5 := s4 _ _ (show upd H3 D (.frz oo (.dK es)) d = _ by rw [upd_ne dD]; exact od3)
    obtain ⟨ev, at1⟩ := hv e (List.mem_of_getElem? ee)
    have dg : DGet H5 d (.str e.1) (some (vv e.1)) := .inl ⟨kvs, Sum.inr e.1, .inl od5, rfl, ev.symm⟩
    have yes : ∀ H4, Same H5 H4 → Cn (V.bl (cntB (vv e.1))) H4 := yes
    refine ⟨rfl, ?_⟩
    generalize vv e.1 = u at dg at1 yes
    have s0 := Same.refl H5
    cases at1 with
    | str x => exact ⟨_, rfl, _, rfl, d, _, rfl, dg, _, _, _, _, false, rfl, .ty _, .base (.str x), kit_ty (by decide +kernel), _, rfl, iteF (yes _ s0)⟩
    | non => exact ⟨_, rfl, _, rfl, d, _, rfl, dg, _, _, _, _, false, rfl, .ty _, .base .non, kit_ty (by decide +kernel), _, rfl, iteF (yes _ s0)⟩
    | bl b =>
      refine ⟨_, rfl, _, rfl, d, _, rfl, dg, _, _, _, _, true, rfl, .ty _, .base (.bl b), kit_ty (by decide +kernel), _, rfl, iteT ?_⟩
      exact ⟨_, rfl, _, rfl, d, _, rfl, dg, _, _, _, _, true, rfl, .ty _, .base (.bl b), kit_ty (by decide +kernel), _, rfl, _, rfl, iteF (yes _ s0)⟩
    | int k =>
      refine ⟨_, rfl, _, rfl, d, _, rfl, dg, _, _, _, _, true, rfl, .ty _, .base (.int k), kit_ty (by decide +kernel), _, rfl, iteT ?_⟩
      refine ⟨_, rfl, _, rfl, d, _, rfl, dg, _, _, _, _, false, rfl, .ty _, .base (.int k), kit_ty (by decide +kernel), _, rfl, _, rfl, iteT ?_⟩
      exact ⟨_, rfl, _, rfl, d, _, rfl, dg, _, _, rfl, rfl, yes _ s0⟩
  intro H4 q nq oq s4
  obtain ⟨b1, k34⟩ := lock_offN oD3 s4
  have qD : q ≠ D := fun z => by rw [z, oL] at nq; cases nq
  refine ⟨b1, q, _, rfl, SqL.of (by rw [upd_ne qD]; exact oq), _, rfl, ?_⟩
  have ec : ((arcs.map fun e => cntB (vv e.1)).all id) = arcs.all fun e => cntB (vv e.1) := by
    rw [List.all_map]
    rfl
  rw [ec]
  have k04 := k12.trans k34
  cases all : arcs.all fun e => cntB (vv e.1) with
  | false =>
    have eb : valsB vv arcs = false := by unfold valsB; rw [all]; rfl
    rw [eb] at hq
    exact iteT (hq _ k04)
  | true =>
  refine iteF ?_
  have oD4 := k04 _ _ oD
  generalize upd H4 D (.dK es) = H5 at k04 oD4
  clear b1 s4 oq nq qD oL oo oD3 od3 k34 k12
  have allI : ∀ e ∈ arcs, vv e.1 = .int (intV (vv e.1)) := fun e he => by
    have z := List.all_eq_true.mp all e he
    generalize vv e.1 = u at z
    cases u <;> first | rfl | cases z
  have pr5 : Paired (DcE A0 H5) es arcs := Paired.mapP pr fun e q h => ⟨h.1, PyD.kp h.2 fun b o a e => ⟨a, k04 _ _ e⟩⟩
  refine ⟨_, rfl, D, arcs, A0, rfl, ⟨D, es, rfl, aD, oD4, rnd, pr5⟩, by omega, fun H6 nl nnl onl k6 => ?_⟩
  have lnl : (nodesL arcs).length < 1000 := by
    have z := nodesF_len arcs []
    rw [List.length_nil] at z
    show (nodesF [] arcs).length < _
    omega
  have k06 := k04.trans k6
  refine ⟨nl, rfl, ⟨_, SqL.of onl⟩, for_list (xs := (nodesL arcs).map V.str) (fun i σ H' => Same H6 H' ∧ (∀ n ∈ (nodesL arcs).take i, netI (fun n => intV (vv n)) n arcs = 0) ∧ ∃ s2 s3, σ = [some (.ref D), some (.ref d), s2, s3, none])
    ⟨Same.refl _, (fun n hn => by rw [List.take_zero] at hn; cases hn), _, _, rfl⟩ (fun i σ H' _ h => SqL.of (h.1 _ _ onl)) ?_ ?_⟩
  · rintro i v σ H7 ev ⟨k7, zer, s2, s3, rfl⟩
    rw [List.getElem?_map] at ev
    obtain ⟨n, en, rfl⟩ := Option.map_eq_some_iff.mp ev
    have k07 := k06.trans k7
    have tk : (nodesL arcs).take (i + 1) = (nodesL arcs).take i ++ [n] := by rw [List.take_succ, en]; rfl
    have oD7 := k07 _ _ oD
    have od7 := k07 _ _ od
    refine ⟨D, _, oD7, trivial, fun oo => ⟨_, rfl, D, oo, rfl, .inl ⟨es, upd_same, ?_⟩⟩⟩
    have oL : upd H7 D (.frz oo (.dK es)) D = some (.frz oo (.dK es)) := upd_same
    refine lc_genON (arcs.map fun e => if decide (e.2.2 = n) = true then some (V.int (intV (vv e.1))) else none) (by rw [List.length_map]; omega) (fun i H' s lt => ⟨s _ _ oL, by rw [List.length_map] at lt; omega⟩) (fun H' s => ⟨s _ _ oL, by rw [List.length_map]; omega⟩) ?_ ?_
    · rintro j y o H8 H9 Cn Nn eo s8 ⟨rfl, k0, v0, ekv, rfl⟩ yes no
      obtain ⟨e, ee, hk, t0, x, z, hv0, ap, op, hx, hz⟩ := paired_get pr ekv
      have hk : k0 = Sum.inr e.1 := hk
      have hv0 : v0 = .ref t0 := hv0
      have hx : x = .str e.2.1 := hx
      have hz : z = .str e.2.2 := hz
      subst hk hv0 hx hz
      have ee : arcs[j]? = some e := ee
      have ein := List.mem_of_getElem? ee
      rw [List.getElem?_map, ee] at eo
      obtain rfl := Option.some.inj eo
      have tD : t0 ≠ D := fun z => by rw [z, oD] at op; cases op
      have op8 := s8 _ _ (show upd H7 D (.frz oo (.dK es)) t0 = _ by rw [upd_ne tD]; exact k07 _ _ op)
      have dg : DGet H9 D (.str e.1) (some (.ref t0)) := .inl ⟨es, Sum.inr e.1, .inr ⟨oo, s8 _ _ oL⟩, rfl, (valV_atN ndes ekv).symm⟩
      have od8 := s8 _ _ (show upd H7 D (.frz oo (.dK es)) d = _ by rw [upd_ne dD]; exact od7)
      have dg2 : DGet H9 d (.str e.1) (some (.int (intV (vv e.1)))) := .inl ⟨kvs, Sum.inr e.1, .inl od8, rfl, by rw [(hv e ein).1, ← allI e ein]⟩
      refine ⟨rfl, ?_⟩
      refine ⟨_, rfl, _, rfl, D, _, rfl, dg, .inr (.inl ⟨t0, _, _, _, rfl, rfl, SqT.of op8, rfl, ?_⟩)⟩
      refine ⟨_, rfl, rfl, decide (e.2.2 = n), congrArg V.bl (decide_eq_decide.mpr ⟨fun h => V.str.inj h, fun h => congrArg V.str h⟩), ?_⟩
      by_cases cn : e.2.2 = n
      · rw [decide_eq_true cn]
        exact iteT ⟨_, rfl, _, rfl, d, _, rfl, dg2, yes _ (by show (if decide (e.2.2 = n) = true then some (V.int (intV (vv e.1))) else none) = _; rw [decide_eq_true cn]; rfl) _ (Same.refl _)⟩
      · rw [decide_eq_false cn]
        exact iteF (no (by show (if decide (e.2.2 = n) = true then some (V.int (intV (vv e.1))) else none) = _; rw [decide_eq_false cn]; rfl) _ (Same.refl _))
    intro H8 q nq oq s8
    obtain ⟨b1, k78⟩ := lock_offN oD7 s8
    have qD : q ≠ D := fun z => by rw [z, oL] at nq; cases nq
    have el : (arcs.map fun e => if decide (e.2.2 = n) = true then some (V.int (intV (vv e.1))) else none).filterMap id = (inS (fun n => intV (vv n)) n arcs).map V.int := by
      rw [opt_listN (fun e : Str × ArT => decide (e.2.2 = n)) (fun e => V.int (intV (vv e.1)))]
      unfold inS
      rw [List.map_map]
      rfl
    rw [el] at oq
    refine ⟨b1, ?_⟩
    refine ⟨q, inS (fun n => intV (vv n)) n arcs, rfl, SqL.of (by rw [upd_ne qD]; exact oq), ?_⟩
    have k07 := k07.trans k78
    have k7 := k7.trans k78
    generalize upd H8 D (.dK es) = H9 at k07 k7 ⊢
    clear k78 b1 oq nq qD oL s8
    refine ⟨_, rfl, ?_⟩
    have oD7 := k07 _ _ oD
    have od7 := k07 _ _ od
    refine ⟨D, _, oD7, trivial, fun oo => ⟨_, rfl, D, oo, rfl, .inl ⟨es, upd_same, ?_⟩⟩⟩
    have oL : upd H9 D (.frz oo (.dK es)) D = some (.frz oo (.dK es)) := upd_same
    refine lc_genON (arcs.map fun e => if decide (e.2.1 = n) = true then some (V.int (intV (vv e.1))) else none) (by rw [List.length_map]; omega) (fun i H' s lt => ⟨s _ _ oL, by rw [List.length_map] at lt; omega⟩) (fun H' s => ⟨s _ _ oL, by rw [List.length_map]; omega⟩) ?_ ?_
    · rintro j y o H8 H10 Cn Nn eo s8 ⟨rfl, k0, v0, ekv, rfl⟩ yes no
      obtain ⟨e, ee, hk, t0, x, z, hv0, ap, op, hx, hz⟩ := paired_get pr ekv
      have hk : k0 = Sum.inr e.1 := hk
      have hv0 : v0 = .ref t0 := hv0
      have hx : x = .str e.2.1 := hx
      have hz : z = .str e.2.2 := hz
      subst hk hv0 hx hz
      have ee : arcs[j]? = some e := ee
      have ein := List.mem_of_getElem? ee
      rw [List.getElem?_map, ee] at eo
      obtain rfl := Option.some.inj eo
      have tD : t0 ≠ D := fun z => by rw [z, oD] at op; cases op
      have op8 := s8 _ _ (show upd H9 D (.frz oo (.dK es)) t0 = _ by rw [upd_ne tD]; exact k07 _ _ op)
      have dg : DGet H10 D (.str e.1) (some (.ref t0)) := .inl ⟨es, Sum.inr e.1, .inr ⟨oo, s8 _ _ oL⟩, rfl, (valV_atN ndes ekv).symm⟩
      have od8 := s8 _ _ (show upd H9 D (.frz oo (.dK es)) d = _ by rw [upd_ne dD]; exact od7)
      have dg2 : DGet H10 d (.str e.1) (some (.int (intV (vv e.1)))) := .inl ⟨kvs, Sum.inr e.1, .inl od8, rfl, by rw [(hv e ein).1, ← allI e ein]⟩
      refine ⟨rfl, ?_⟩
      refine ⟨_, rfl, _, rfl, D, _, rfl, dg, .inr (.inl ⟨t0, _, _, _, rfl, rfl, SqT.of op8, rfl, ?_⟩)⟩
      refine ⟨_, rfl, rfl, decide (e.2.1 = n), congrArg V.bl (decide_eq_decide.mpr ⟨fun h => V.str.inj h, fun h => congrArg V.str h⟩), ?_⟩
      by_cases cn : e.2.1 = n
      · rw [decide_eq_true cn]
        exact iteT ⟨_, rfl, _, rfl, d, _, rfl, dg2, yes _ (by show (if decide (e.2.1 = n) = true then some (V.int (intV (vv e.1))) else none) = _; rw [decide_eq_true cn]; rfl) _ (Same.refl _)⟩
      · rw [decide_eq_false cn]
        exact iteF (no (by show (if decide (e.2.1 = n) = true then some (V.int (intV (vv e.1))) else none) = _; rw [decide_eq_false cn]; rfl) _ (Same.refl _))
    intro H8 q nq oq s8
    obtain ⟨b1, k78⟩ := lock_offN oD7 s8
    have qD : q ≠ D := fun z => by rw [z, oL] at nq; cases nq
    have el : (arcs.map fun e => if decide (e.2.1 = n) = true then some (V.int (intV (vv e.1))) else none).filterMap id = (outS (fun n => intV (vv n)) n arcs).map V.int := by
      rw [opt_listN (fun e : Str × ArT => decide (e.2.1 = n)) (fun e => V.int (intV (vv e.1)))]
      unfold outS
      rw [List.map_map]
      rfl
    rw [el] at oq
    refine ⟨b1, ?_⟩
    refine ⟨q, outS (fun n => intV (vv n)) n arcs, rfl, SqL.of (by rw [upd_ne qD]; exact oq), rfl, _, rfl, ?_⟩
    have k07 := k07.trans k78
    have k7 := k7.trans k78
    have ns := netI_sums (fun n => intV (vv n)) n arcs
    by_cases ce : (inS (fun n => intV (vv n)) n arcs).sum = (outS (fun n => intV (vv n)) n arcs).sum
    · rw [ce, decide_eq_true rfl]
      refine iteF ⟨k7, fun n' hn => ?_, _, _, rfl⟩
      rw [tk] at hn
      rcases List.mem_append.mp hn with h | h
      · exact zer n' h
      · rw [List.mem_singleton.mp h, ns]
        omega
    · rw [decide_eq_false (fun z => ce (V.int.inj z))]
      have eb : valsB vv arcs = false := by
        unfold valsB
        rw [all, Bool.true_and, List.all_eq_false]
        refine ⟨n, List.mem_of_getElem? en, fun z => ce ?_⟩
        have z := of_decide_eq_true z
        rw [inwL_net, ns] at z
        omega
      rw [eb] at hq
      exact iteT (hq _ k07)
  · rintro σ H7 ⟨k7, zer, s2, s3, rfl⟩
    rw [List.length_map, List.take_length] at zer
    have eb : valsB vv arcs = true := by
      unfold valsB
      rw [all, Bool.true_and]
      exact List.all_eq_true.mpr fun n hn => decide_eq_true (by rw [inwL_net]; exact zer n hn)
    rw [eb] at hq
    exact hq _ (k06.trans k7)
end
end L2.TB
/-! _law_tried(lambda: ..) that is refused -/
namespace L2.TB
open PySem PySem.Spec PyProof.Rows LamX
theorem flyE {ca : Str → Addr} {r : Rz} {H : Hp} {v : V} {Q : VK} {E : XK} (hr : r ∈ rzT) (h : ∀ H' t, Same H H' → H' t = none → Q (.ref t) (upd H' t (.tup [.str r.tag, v]))) (hE : ∀ cls d H', EchE ca Q cls d H' → E cls d H') : Flies (ca r.x) r.fld v H E := fun d H' s nd hd =>
  hE _ _ _ ⟨r, d, _, v, hr, rfl, rfl, hd, by simp [List.lookup], fun t nt => h _ t s nt⟩
structure TrE (P : Program) (w : World) (K : PySem.W.Frag) (mg : Str → Option Value) (base : Heap) (ca : Str → Addr) (WE : Addr) : Prop where
  L : ElOk K mg ca WE
  T : ∃ g fd, mg "_law_tried" = some (.ref g) ∧ Fun K "_law_tried" "_law_tried" sTried g fd
  E : ∃ fe fde, mg "_law_error" = some (.ref fe) ∧ Fun K "_law_error" "_law_error" sErrL fe fde ∧ FnE P w K mg base 1 fe fde ["e"] (spErrL ca)
theorem pe_triedE {X : Cx} {ca : Str → Addr} {WE : Addr} (R : TrE X.prog X.w X.K X.mg X.base ca WE) {T : List (Addr × Str)} {c Pt : Addr} {k : Nat} {params : Arguments} {body : Expr} {scope : Scope} {t : XK → TE} {p lpos pos : Pos} (hg : Gl X "_law_tried")
    (TB : TabB X.base X.mg c Pt) (hcode : X.env.code = .ref c) (hmT : (Pt, X.env.qual ++ "<lambda>") ∈ T) (hu : ∀ p ∈ T, p.1 = Pt → p.2 = X.env.qual ++ "<lambda>") (hr : Room (k + 2) X.A) (h1 : 1 ≤ k) (L : LamS X.env.scope scope) (hdef : defaultsOf params X.env = ([], []))
    (hbind : ∀ (q : Str) (cl : List (Str × Addr)) (pm cv ctv : Value), bindArgs (PySem.W.kla_fn "<lambda>" q params body scope cl pm cv ctv) ⟨[], []⟩ = pure [])
    (hbody : ∀ (A : Around) (outer : List Env) (s : Shared) (H : Hp) (E : XK) (f c' : Addr), Room k (A.deeper (lamEnv X scope s.heap.objs.size f c')) → PE (lamCx X A outer s H E scope f c') body (t E)) :
    PE X (.Call (.Name "_law_tried" p) [.Lambda params body scope lpos] [] pos) (tLam T (TTe ca) t) := by
  obtain ⟨g, fd, gT, FT⟩ := R.T
  obtain ⟨fe, fde, gE, FE, GE⟩ := R.E
  have bT := FT.binds (ps := ["ask"]) fun _ _ _ _ _ _ us hl => match us, hl with | [_], _ => rfl
  have bE := FE.binds (ps := ["e"]) fun _ _ _ _ _ _ us hl => match us, hl with | [_], _ => rfl
  have kp := FT.kp
  obtain ⟨oc, od, kV, doc, pm, an, cdv, ct, osl, rfl, lk, hcd⟩ := FT.ex
  exact pe_lamcall (Ng := NTd) (a := "ask") hg gT kp lk hcd bT scTd rfl (.inl rfl) (tried_gives R.L (hr.mono (by omega)) GE FE.kp bE gE) TB hcode hmT hu hr L hdef hbind hbody
/-! what stays where only tables grow -/
theorem ty_ext {K : PySem.W.Frag} {H H' : Hp} {v : V} {t : String} (h : TyX K H v (.type t)) (s : ExtN H H') : TyX K H' v (.type t) := by
  have k : ∀ {b : Addr} {o : HO}, H b = some o → (∀ ps, o ≠ .tbl ps) → H' b = some o := fun e n => s _ _ e n
  generalize e : Value.type t = u at h
  cases h with
  | base b =>
    refine .base ?_
    cases b with
    | non => exact .non
    | bl x => exact .bl x
    | int i => exact .int i
    | str x => exact .str x
    | flt x => exact .flt x
    | lst q => exact .lst (k q fun _ z => by cases z)
    | frz q => exact .frz (k q fun _ z => by cases z)
    | tup q => exact .tup (k q fun _ z => by cases z)
    | dK q => exact .dK (k q fun _ z => by cases z)
    | dT q => exact .dT (k q fun _ z => by cases z)
    | ins q => cases e
  | byt b => exact .byt b
  | set q => exact .set (k q fun _ z => by cases z)
  | kList q c => exact .kList q c
  | kTuple q c => exact .kTuple q c
  | kDict q c => exact .kDict q c
  | fTuple q => exact .fTuple (k q fun _ z => by cases z)
  | fDict q => exact .fDict (k q fun _ z => by cases z)
theorem sq_ext {K : PySem.W.Frag} {H H' : Hp} {a : Addr} {xs : List V} (h : SqA K H a xs) (s : ExtN H H') : SqA K H' a xs := h.imp (fun e => s _ _ e (fun _ z => by cases z)) (fun e => s _ _ e (fun _ z => by cases z))
theorem WTh.ext {K : PySem.W.Frag} {H H' : Hp} {arcs : NtT} {v : V} {b : Bool} (h : WTh K H arcs v b) (s : ExtN H H') : WTh K H' arcs v b := by
  cases h with
  | no h => exact .no (let ⟨t, a, b⟩ := h; ⟨t, ty_ext a s, b⟩)
  | bad o sh j => exact .bad (s _ _ o (fun _ z => by cases z)) sh j
  | val o sh j vv hv => exact .val (s _ _ o (fun _ z => by cases z)) sh j vv hv
theorem AlkF.ext {H H' : Hp} (s : ExtN H H') {n : Nat} {x y : V} (h : AlkF H n x y) : AlkF H' n x y := by
  induction h with
  | one h => exact .one h
  | dic ha hb nd at_ => exact .dic (s _ _ ha (fun _ z => by cases z)) (s _ _ hb (fun _ z => by cases z)) nd at_
  | lst ha hb l sh _ ih => exact .lst (s _ _ ha (fun _ z => by cases z)) (s _ _ hb (fun _ z => by cases z)) l sh ih
  | tup ha hb l sh _ ih => exact .tup (s _ _ ha (fun _ z => by cases z)) (s _ _ hb (fun _ z => by cases z)) l sh ih
  | up _ ih => exact .up ih
theorem arcs_ext {A : Addr → Prop} {H H' : Hp} {D : Addr} {arcs : NtT} (h : PyD.at_ A H (.ref D) (Dc.mk arcs)) (s : ExtN H H') : PyD.at_ A H' (.ref D) (Dc.mk arcs) := by
  obtain ⟨D', es, e1, aD, oD, rnd, pr⟩ := h
  refine ⟨D', es, e1, aD, s _ _ oD (fun _ z => by cases z), rnd, Paired.mapP pr fun e q h => ?_⟩
  obtain ⟨h1, t, u1, u2, h2, a, ot, h3, h4⟩ := h
  exact ⟨h1, t, u1, u2, h2, a, s _ _ ot (fun _ z => by cases z), h3, h4⟩
theorem NetA.ext {A : Addr → Prop} {H H' : Hp} {C x : Addr} {arcs : NtT} (h : NetA A H C x arcs) (s : ExtN H H') : NetA A H' C x arcs := by
  obtain ⟨dx, D, N, Lv, h1, h2, a1, h3, a2, h4⟩ := h.ex
  exact ⟨dx, D, N, Lv, s _ _ h1 (fun _ z => by cases z), arcs_ext h2 s, a1, s _ _ h3 (fun _ z => by cases z), a2, s _ _ h4 (fun _ z => by cases z)⟩
end L2.TB
/-! what stays; small things -/
namespace L2.TB
open PySem PySem.Spec PyProof.Rows LamX
theorem paired_joinN {α β : Type} {F : α → β → Prop} {as : List α} {bs : List β} {a : α} {b : β} (h : Paired F as bs) (k : F a b) : Paired F (as ++ [a]) (bs ++ [b]) := paired_appN h (.cons k .nil)
theorem opt_lcN {α : Type} {J : It} {g : TG} {tt : TT} {te : TE} {vs : List Nat} {σ : St} {H1 : Hp} {Q : Addr → Hp → Prop} (xs : List α) (f : α → Option (Key × V)) (short : xs.length < 1000) (go : ∀ i H, Same H1 H → i < xs.length → J.go i H) (stop : ∀ H, Same H1 H → J.stop xs.length H)
    (turn : ∀ (i : Nat) (v : V) (a : α) (H H' : Hp) (C : V → Hp → Prop) (N : Hp → Prop), xs[i]? = some a → Same H1 H → J.yld i H v H' → (∀ k x, f a = some (k, x) → ∀ t H4, H4 t = some (.tup [kV k, x]) → Same H H4 → C (.ref t) H4) → (f a = none → ∀ H4, Same H H4 → N H4) →
      g v (wipe σ vs) H' fun σ2 H2 => wipe σ2 vs = wipe σ vs ∧ tt σ2 H2 fun b H3 => if b = true then te σ2 H3 C else N H3)
    (fin : ∀ H D ps, H1 D = none → H D = some (.lst ((ps : List Addr).map V.ref)) → Paired (fun p (kv : Key × V) => H p = some (.tup [kV kv.1, kv.2])) ps (xs.filterMap f) → Same H1 H → Q D H) : LcW J g tt te vs σ H1 Q := by
  intro D nD
  refine ⟨fun i m H => m = xs.length - i ∧ i ≤ xs.length ∧ (∃ ps : List Addr, H D = some (.lst (ps.map V.ref)) ∧ ps.length ≤ i ∧ Paired (fun p (kv : Key × V) => H p = some (.tup [kV kv.1, kv.2])) ps ((xs.take i).filterMap f)) ∧ Same H1 H,
    ⟨_, rfl, Nat.zero_le _, ⟨[], upd_same, Nat.le_refl _, by rw [List.take_zero]; exact .nil⟩, same_new nD⟩, ?_⟩
  rintro i m H ⟨rfl, le, ⟨ps, oD, lp, pr⟩, s1⟩
  by_cases lt : i < xs.length
  · refine .inr ⟨go i H s1 lt, fun H' => (∃ ps : List Addr, H' D = some (.lst (ps.map V.ref)) ∧ ps.length ≤ i + 1 ∧ Paired (fun p (kv : Key × V) => H' p = some (.tup [kV kv.1, kv.2])) ps ((xs.take (i + 1)).filterMap f)) ∧ Same H1 H', fun H' h => ⟨xs.length - (i + 1), by omega, rfl, lt, h⟩, fun x H' yl => ?_⟩
    have ea : xs[i]? = some xs[i] := List.getElem?_eq_getElem lt
    have et : (xs.take (i + 1)).filterMap f = (xs.take i).filterMap f ++ (f xs[i]).toList := by
      rw [List.take_succ, ea, List.filterMap_append]
      show _ ++ List.filterMap f [xs[i]] = _
      cases e : f xs[i] <;> simp [e]
    refine turn i x xs[i] H H' _ _ ea s1 yl (fun k x ek t H4 ot s4 => ?_) (fun en H4 s4 => ?_)
    · have oD4 := s4 _ _ oD
      have tD : t ≠ D := fun z => by rw [z, oD4] at ot; cases ot
      have up : ∀ {l : List V} b o, b ≠ D → H4 b = some o → upd H4 D (.lst l) b = some o := fun b o nb e => by rw [upd_ne nb]; exact e
      refine ⟨_, oD4, by rw [sizeLine_eq, List.length_map]; omega, ⟨ps ++ [t], by rw [upd_same, List.map_append]; rfl, by rw [List.length_append]; show _ + 1 ≤ _; omega, ?_⟩, ?_⟩
      · rw [et, ek]
        exact paired_joinN (Paired.mapP pr fun p kv h => up _ _ (fun z => by rw [z, oD] at h; cases h) (s4 _ _ h)) (up _ _ tD ot)
      · intro b u e
        rw [upd_ne (ne_of_none e nD)]
        exact s4 _ _ (s1 _ _ e)
    · refine ⟨⟨ps, s4 _ _ oD, by omega, ?_⟩, s1.trans s4⟩
      rw [et, en]
      simp only [Option.toList_none, List.append_nil]
      exact Paired.mapP pr fun p kv h => s4 _ _ h
  · obtain rfl : i = xs.length := by omega
    rw [List.take_length] at pr
    exact .inl ⟨stop H s1, fin H D ps nD oD pr s1⟩
/-- all but the spring and the tables stays -/
def BE (l ls : Addr) (H H' : Hp) : Prop := ∀ b o, b ≠ l → b ≠ ls → H b = some o → (∀ ps, o ≠ .tbl ps) → H' b = some o
theorem BE.trans {l ls : Addr} {H H1 H2 : Hp} (a : BE l ls H H1) (b : BE l ls H1 H2) : BE l ls H H2 := fun c o h1 h2 e no => b c o h1 h2 (a c o h1 h2 e no) no
theorem BE.of {l ls : Addr} {H H1 : Hp} (a : But l ls H H1) : BE l ls H H1 := fun c o h1 h2 e _ => a c o h1 h2 e
theorem BE.ext {l ls : Addr} {H H1 : Hp} (a : ExtN H H1) : BE l ls H H1 := fun c o _ _ e no => a c o e no
theorem Tabs.but {T : List (Addr × Str)} {l ls : Addr} {N : Int} {H H' : Hp} (t : Tabs T H) (S : Strm H l ls N) (B : But l ls H H') : Tabs T H' := fun p hp => by
  obtain ⟨cs, g, k, m, S⟩ := S
  obtain ⟨ps, h1, h2, h3⟩ := t p hp
  have far : ∀ {b : Addr} {o : HO}, H b = some o → (∀ xs, o ≠ .lst xs) → H' b = some o := fun {b o} e no => B b o (fun z => by rw [z, S.o] at e; exact no _ (Option.some.inj e).symm) (fun z => by rw [z, S.c] at e; exact no _ (Option.some.inj e).symm) e
  refine ⟨ps, far h1 (fun _ z => by cases z), h2, fun pos cv hc => ?_⟩
  obtain ⟨c, e1, e2⟩ := h3 pos cv hc
  exact ⟨c, e1, far e2 (fun _ z => by unfold CodeO at z; cases z)⟩
theorem Strm.ext {H H' : Hp} {l ls : Addr} {N : Int} (h : Strm H l ls N) (s : ExtN H H') : Strm H' l ls N := by
  obtain ⟨cs, g, k, m, S⟩ := h
  exact ⟨cs, g, k, m, s _ _ S.o (fun _ z => by cases z), s _ _ S.c (fun _ z => by cases z), S.ne, S.g0, S.k0, S.k1, S.m0, S.m1, S.sz⟩
/-- a thing that may be no world -/
structure ThOk (K : PySem.W.Frag) (H : Hp) (arcs : NtT) (v : V) : Prop where
  w : ∃ b, WTh K H arcs v b
  a : AlkF H 1 v v
theorem ThOk.ext {K : PySem.W.Frag} {H H' : Hp} {arcs : NtT} {v : V} (h : ThOk K H arcs v) (s : ExtN H H') : ThOk K H' arcs v := ⟨let ⟨b, w⟩ := h.w; ⟨b, w.ext s⟩, h.a.ext s⟩
theorem ThOk.same {K : PySem.W.Frag} {H H' : Hp} {arcs : NtT} {v : V} (h : ThOk K H arcs v) (s : Same H H') : ThOk K H' arcs v := h.ext (ExtN.of s)
theorem th_dict {K : PySem.W.Frag} {H : Hp} {arcs : NtT} {d : Addr} {kvs : List (Key × V)} (o : H d = some (.dK kvs)) (nd : (kvs.map (·.1)).Nodup) (at_ : ∀ kv ∈ kvs, Atom kv.2) (sh : kvs.length < 2000) : ThOk K H arcs (.ref d) := by
  refine ⟨?_, .up (.dic o o nd at_)⟩
  cases hj : justB kvs (arcs.map (·.1)) with
  | false => exact ⟨_, .bad o sh hj⟩
  | true =>
    refine ⟨_, .val o sh hj (fun n => (valV kvs (Sum.inr n)).getD .non) fun e he => ?_⟩
    unfold justB at hj
    rw [Bool.and_eq_true] at hj
    have z := List.all_eq_true.mp hj.2 e.1 (List.mem_map_of_mem he)
    cases q : valV kvs (Sum.inr e.1) with
    | none => rw [q] at z; cases z
    | some v =>
      obtain ⟨i, hi⟩ := valV_get q
      exact ⟨rfl, at_ _ (List.mem_of_getElem? hi)⟩
theorem put_fine {kvs : List (Key × V)} {k : Key} {v : V} (nd : (kvs.map (·.1)).Nodup) (at_ : ∀ kv ∈ kvs, Atom kv.2) (a : Atom v) : ((putK kvs k v).map (·.1)).Nodup ∧ ∀ kv ∈ putK kvs k v, Atom kv.2 := by
  by_cases h : (k ∈ kvs.map (·.1))
  · rw [put_has h]
    refine ⟨?_, fun kv hk => ?_⟩
    · rw [List.map_map]
      have e : ((fun x : Key × V => x.1) ∘ fun kv : Key × V => if kv.1 = k then (kv.1, v) else kv) = fun x : Key × V => x.1 := by
        funext x
        show (if x.1 = k then (x.1, v) else x).1 = x.1
        split <;> rfl
      rw [e]
      exact nd
    · obtain ⟨q, hq, rfl⟩ := List.mem_map.mp hk
      by_cases c : q.1 = k
      · rw [if_pos c]; exact a
      · rw [if_neg c]; exact at_ q hq
  · rw [put_last h]
    refine ⟨?_, fun kv hk => ?_⟩
    · rw [List.map_append, List.nodup_append]
      exact ⟨nd, by simp, fun x hx y hy z => h (by
        have e : y = k := by simpa using hy
        rw [← e, ← z]; exact hx)⟩
    · rcases List.mem_append.mp hk with z | z
      · exact at_ kv z
      · rw [List.mem_singleton.mp z]; exact a
theorem valD_atoms {vv : Str → V} {arcs : NtT} (h : ∀ e ∈ arcs, Atom (vv e.1)) : ∀ kv ∈ valD vv arcs, Atom kv.2 := fun kv hk => by
  unfold valD at hk
  obtain ⟨e, he, rfl⟩ := List.mem_map.mp hk
  exact h e he
theorem fm_valD (c : V) : ∀ arcs : NtT, arcs.filterMap (fun e => some ((Sum.inr e.1 : Key), c)) = valD (fun _ => c) arcs
  | [] => rfl
  | e :: r => by
    rw [List.filterMap_cons]
    show (Sum.inr e.1, c) :: List.filterMap _ r = (Sum.inr e.1, c) :: valD (fun _ => c) r
    rw [fm_valD c r]
theorem fm_nd {f : Str × ArT → Option (Key × V)} (hf : ∀ e k v, f e = some (k, v) → k = Sum.inr e.1) : ∀ {arcs : NtT}, (arcs.map (·.1)).Nodup → ((arcs.filterMap f).map (·.1)).Nodup
  | [], _ => by simp
  | e :: r, nd => by
    rw [List.map_cons, List.nodup_cons] at nd
    have ih := fm_nd hf nd.2
    rw [List.filterMap_cons]
    cases q : f e with
    | none => exact ih
    | some kv =>
      show ((kv :: List.filterMap f r).map (·.1)).Nodup
      rw [(List.map_cons), List.nodup_cons]
      refine ⟨fun z => ?_, ih⟩
      obtain ⟨kv2, h2, e2⟩ := List.mem_map.mp z
      obtain ⟨e3, h3, h4⟩ := List.mem_filterMap.mp h2
      have a1 := hf e kv.1 kv.2 q
      have a2 := hf e3 kv2.1 kv2.2 h4
      have a3 : e3.1 = e.1 := Sum.inr.inj (a2.symm.trans (e2.trans a1))
      exact nd.1 (by rw [← a3]; exact List.mem_map_of_mem h3)
theorem passesN {X : Cx} {E : XK} (tk : Takes X fun cls d _ H => E cls d H) : Passes (L2.CX X.prog X.w) X E := fun pins σ H s e s' I c => passAt tk σ pins H s e s' I c
theorem hu_out {k : Nat} {A : Around} (hr : Room k A) : A.units + 8 < cLine := by
  have := hr.un
  omega
theorem tabs_list {T : List (Addr × Str)} {H : Hp} {q : Addr} {us vs : List V} (t : Tabs T H) (hq : H q = some (.lst us)) : Tabs T (upd H q (.lst vs)) := fun p hp => by
  obtain ⟨ps, h1, h2, h3⟩ := t p hp
  refine ⟨ps, by rw [upd_ne (fun z => by rw [z, hq] at h1; cases h1)]; exact h1, h2, fun pos cv hc => ?_⟩
  obtain ⟨c, e1, e2⟩ := h3 pos cv hc
  refine ⟨c, e1, ?_⟩
  have ne : c ≠ q := fun z => by
    rw [z, hq] at e2
    have e3 := Option.some.inj e2
    unfold CodeO at e3
    cases e3
  rw [upd_ne ne]
  exact e2
theorem hand_of {K : PySem.W.Frag} {A : Addr → Prop} {H : Hp} {es : List (Key × V)} {arcs : NtT} (h : Paired (DcE A H) es arcs) : Paired (HandArc K (fun _ => True) H) es arcs := Paired.mapP h fun e q h => by
  obtain ⟨h1, t, u1, u2, h2, a, ot, h3, h4⟩ := h
  have h3 : u1 = .str q.2.1 := h3
  have h4 : u2 = .str q.2.2 := h4
  subst h3 h4
  exact ⟨h1, t, h2, trivial, .inr ot⟩
end L2.TB
/-! first_bad and the checks over a dict or a list of names, of things of any kind, both ways -/
namespace L2.TB
open PySem PySem.Spec PyProof.Rows
/-- the first place at which a thing is no name or stood before -/
def badAt (ns : List Str) : List V → List Str → Nat → Option Nat
  | [], _, _ => none
  | v :: r, seen, i => match strOf v with
    | some x => if x ∈ ns ∧ x ∉ seen then badAt ns r (seen ++ [x]) (i + 1) else some i
    | none => some i
def optV : Option Nat → V
  | none => .non
  | some i => .int (i : Nat)
/-- names in a dict or in a list -/
def NmsC (H : Hp) (c : Addr) (ns : List Str) : Prop := (∃ es, H c = some (.dK es) ∧ es.map (·.1) = ns.map Sum.inr) ∨ H c = some (.lst (ns.map V.str))
theorem NmsC.same {H H' : Hp} {c : Addr} {ns : List Str} (h : NmsC H c ns) (s : Same H H') : NmsC H' c ns := h.imp (fun ⟨es, a, b⟩ => ⟨es, s _ _ a, b⟩) (fun h => s _ _ h)
theorem fn_either {P : Program} {w : World} {K : PySem.W.Frag} {mg : Str → Option Value} {base : Heap} {CX : CXT} {k : Nat} {f : Addr} {fd : FuncData} {ps : List Str} {sp1 sp2 : Sp} (h1 : FnOk P w K mg base CX k f fd ps sp1) (h2 : FnOk P w K mg base CX k f fd ps sp2) : FnOk P w K mg base CX k f fd ps (fun vs H Q E => sp1 vs H Q E ∨ sp2 vs H Q E) :=
  ⟨fun vs H Q E h => h.elim (h1.len vs H Q E) (h2.len vs H Q E), fun A outer s H args us vs Q E hr he hb hv hs => hs.elim (fun z => h1.run A outer s H args us vs Q E hr he hb hv z) (fun z => h2.run A outer s H args us vs Q E hr he hb hv z)⟩
def spIsOneN (K : PySem.W.Frag) : Sp := fun vs H Q _ => ∃ (c : Addr) (ns : List Str) (v : V), vs = [.ref c, v] ∧ NmsC H c ns ∧ ((∃ x, v = .str x ∧ Q (.bl (decide (x ∈ ns))) H) ∨ (NoStr K H v ∧ Q (.bl false) H))
/-- what first_bad says of v -/
inductive Bad (K : PySem.W.Frag) (H : Hp) (ns : List Str) : V → Option Nat → Prop
  | no {v : V} (h : NoSeq K H v) : Bad K H ns v (some 0)
  | seq {a : Addr} {xs : List V} (h : SqA K H a xs) (at_ : ∀ x ∈ xs, strOf x = none → NoStr K H x) (short : xs.length < 1000) : Bad K H ns (.ref a) (badAt ns xs [] 0)
theorem Bad.same {K : PySem.W.Frag} {H H' : Hp} {ns : List Str} {v : V} {r : Option Nat} (h : Bad K H ns v r) (s : Same H H') : Bad K H' ns v r := by
  cases h with
  | no h => exact .no (h.same s)
  | seq h a l => exact .seq (h.same s) (fun x hx e => (a x hx e).same s) l
def spFirstG (K : PySem.W.Frag) : Sp := fun vs H Q _ => ∃ (c : Addr) (ns : List Str) (v : V) (r : Option Nat), vs = [.ref c, v] ∧ NmsC H c ns ∧ Bad K H ns v r ∧ ∀ H', Same H H' → Q (optV r) H'
/-- what is asked is no question -/
def BadAsk (K : PySem.W.Frag) (H : Hp) (ns : List Str) (v : V) : Prop := (∃ x, v = .str x ∧ x ∉ ns) ∨ NoStr K H v
theorem BadAsk.same {K : PySem.W.Frag} {H H' : Hp} {ns : List Str} {v : V} (h : BadAsk K H ns v) (s : Same H H') : BadAsk K H' ns v := h.imp id fun h => h.same s
def spCkKX (K : PySem.W.Frag) (CK : Addr) : Sp := fun vs H Q E => ∃ (c : Addr) (ns : List Str) (v : V) (r : Option Nat), vs = [.ref c, v] ∧ NmsC H c ns ∧ Bad K H ns v r ∧ (r = none → ∀ H', Same H H' → Q .non H') ∧ ∀ i : Nat, r = some i → Flies CK "index" (.int i) H E
def spCkAX (K : PySem.W.Frag) (CQ : Addr) : Sp := fun vs H Q E => ∃ (c : Addr) (ns : List Str) (v : V), vs = [.ref c, v] ∧ NmsC H c ns ∧ ((∃ x, v = .str x ∧ x ∈ ns ∧ Q .non H) ∨ (BadAsk K H ns v ∧ Flies CQ "name" v H E))
def spCkBX (K : PySem.W.Frag) (CK CQ : Addr) : Sp := fun vs H Q E => ∃ (c : Addr) (ns : List Str) (v x : V) (r : Option Nat), vs = [.ref c, v, x] ∧ NmsC H c ns ∧ Bad K H ns v r ∧
  ((∃ i : Nat, r = some i ∧ Flies CK "index" (.int i) H E) ∨ (r = none ∧ ((∃ y, x = .str y ∧ y ∈ ns ∧ ∀ H', Same H H' → Q .non H') ∨ (BadAsk K H ns x ∧ Flies CQ "name" x H E))))
section
variable {P : Program} {w : World} {K : PySem.W.Frag} {mg : Str → Option Value} {base : Heap} {f fL fO CK CQ aF aL aO aK aA aB : Addr} {fd fdL fdO fdK fdA : FuncData}
theorem ok_isOneN (F : Fun K "is_one_of" "is_one_of" sIsOne f fd) (gI : mg "isinstance" = none) (gS : mg "str" = none) : FnOk P w K mg base CX0 1 f fd ["names", "thing"] (spIsOneN K) := by
  have G1 : FnOk P w K mg base CX0 1 f fd ["names", "thing"] (fun vs H Q _ => ∃ (c : Addr) (ns : List Str) (v : V), vs = [.ref c, v] ∧ H c = some (.lst (ns.map V.str)) ∧ ((∃ x, v = .str x ∧ Q (.bl (decide (x ∈ ns))) H) ∨ (NoStr K H v ∧ Q (.bl false) H))) := by
    refine F.ok scIsOne (fun vs H Q E h => by obtain ⟨c, ns, x, e, _⟩ := h; rw [e]; rfl) fun cdv A outer s H vs Q E hr hsp => ?_
    obtain ⟨c, ns, v, rfl, hS, hq⟩ := hsp
    refine ⟨_, pss_one (ps_ret (pe_and (pe_callB (r := rIsi K) call_isi rfl gI boot_isi (pa_cons (pv 1) (pa_cons (pe_bltn (v := .ty "str") rfl gS boot_str' rfl) pa_nil)))
      (pe_one (pe_cmpR op_in_seq (pv 1) (pv 0) rfl)))), ?_⟩
    rcases hq with ⟨x, rfl, hq⟩ | ⟨⟨t, h1, h2⟩, hq⟩
    · refine ⟨_, rfl, _, _, _, _, true, rfl, .ty _, .base (.str x), kit_ty (by decide +kernel), true, rfl, _, rfl, _, rfl, c, _, rfl, .inl (SqL.of hS), rfl, flat_strs ns, ?_⟩
      rw [inV_strs]
      exact hq
    · exact ⟨_, rfl, _, _, _, _, false, rfl, .ty _, h1, kit_ty h2, false, rfl, hq⟩
  have G2 : FnOk P w K mg base CX0 1 f fd ["names", "thing"] (fun vs H Q _ => ∃ (c : Addr) (ns : List Str) (v : V), vs = [.ref c, v] ∧ (∃ es, H c = some (.dK es) ∧ es.map (·.1) = ns.map Sum.inr) ∧ ((∃ x, v = .str x ∧ Q (.bl (decide (x ∈ ns))) H) ∨ (NoStr K H v ∧ Q (.bl false) H))) := by
    refine F.ok scIsOne (fun vs H Q E h => by obtain ⟨c, ns, x, e, _⟩ := h; rw [e]; rfl) fun cdv A outer s H vs Q E hr hsp => ?_
    obtain ⟨c, ns, v, rfl, ⟨es, hS, ek⟩, hq⟩ := hsp
    have hu := hu_of hr
    refine ⟨_, pss_one (ps_ret (pe_and (pe_callB (r := rIsi K) call_isi rfl gI boot_isi (pa_cons (pv 1) (pa_cons (pe_bltn (v := .ty "str") rfl gS boot_str' rfl) pa_nil)))
      (pe_one (pe_cmp (pc_din hu (pv 1) (pv 0)))))), ?_⟩
    rcases hq with ⟨x, rfl, hq⟩ | ⟨⟨t, h1, h2⟩, hq⟩
    · refine ⟨_, rfl, _, _, _, _, true, rfl, .ty _, .base (.str x), kit_ty (by decide +kernel), true, rfl, _, rfl, _, rfl, c, _, rfl, DGet.k (k := Sum.inr x) hS, ?_⟩
      have e : (valV es (Sum.inr x)).isSome = decide (x ∈ ns) := by
        by_cases h : x ∈ ns
        · obtain ⟨v, ev⟩ := (val_inS ek x).1 h
          rw [ev, decide_eq_true h]
          rfl
        · rw [(val_inS ek x).2 h, decide_eq_false h]
          rfl
      show Q (.bl (valV es (Sum.inr x)).isSome) H
      rw [e]
      exact hq
    · exact ⟨_, rfl, _, _, _, _, false, rfl, .ty _, h1, kit_ty h2, false, rfl, hq⟩
  have G := fn_either G1 G2
  refine ⟨fun vs H Q E h => by obtain ⟨c, ns, v, e, _⟩ := h; rw [e]; rfl, fun A outer s H args us vs Q E hr he hb hv hs => ?_⟩
  obtain ⟨c, ns, v, rfl, hc, hq⟩ := hs
  rcases hc with h | h
  · exact G.run A outer s H args us _ Q E hr he hb hv (.inr ⟨c, ns, v, rfl, h, hq⟩)
  · exact G.run A outer s H args us _ Q E hr he hb hv (.inl ⟨c, ns, v, rfl, h, hq⟩)
theorem badAt_step {ns : List Str} {xs : List V} {us : List Str} {i : Nat} {v : V} (hv : xs[i]? = some v) :
    badAt ns (xs.drop i) us i = match strOf v with | some x => if x ∈ ns ∧ x ∉ us then badAt ns (xs.drop (i + 1)) (us ++ [x]) (i + 1) else some i | none => some i := by
  have e : xs.drop i = v :: xs.drop (i + 1) := by
    obtain ⟨h, e⟩ := List.getElem?_eq_some_iff.mp hv
    rw [List.drop_eq_getElem_cons h, e]
  rw [e]
  rfl
theorem ok_firstG (F : Fun K "first_bad" "first_bad" sFirst f fd) (FL : Fun K "is_list" "is_list" sIsList fL fdL) (gIL : mg "is_list" = some (.ref fL)) (FO : Fun K "is_one_of" "is_one_of" sIsOne fO fdO) (gIO : mg "is_one_of" = some (.ref fO))
    (gI : mg "isinstance" = none) (gL : mg "list" = none) (gT : mg "tuple" = none) (gS : mg "str" = none) (gE : mg "enumerate" = none) : FnOk P w K mg base CX0 2 f fd ["names", "things"] (spFirstG K) := by
  have GL : FnOk P w K mg base CX0 1 fL fdL ["thing"] (spIsListG K) := ok_isListG FL gI gL gT
  have bL := FL.binds (ps := ["thing"]) fun _ _ _ _ _ _ us hl => match us, hl with | [_], _ => rfl
  have GO : FnOk P w K mg base CX0 1 fO fdO ["names", "thing"] (spIsOneN K) := ok_isOneN FO gI gS
  have bO := FO.binds (ps := ["names", "thing"]) fun _ _ _ _ _ _ us hl => match us, hl with | [_, _], _ => rfl
  refine F.ok scFirst (fun vs H Q E h => by obtain ⟨c, ns, v, r, e, _⟩ := h; rw [e]; rfl) fun cdv A outer s H vs Q E hr hsp => ?_
  obtain ⟨c, ns, v, r, rfl, hc, hB, hq⟩ := hsp
  have nd := scFirst.nd
  have hu := hu_of hr
  refine ⟨_, pss_cons (ps_if (pt_not (pt_val (pe_call GL hr rfl gIL FL.kp bL .nil pass0 (pa_cons (pv 1) pa_nil)))) (pss_one (ps_ret pe_int)) pss_nil)
    (pss_cons (ps_set (i := 2) nd rfl (Or.inl rfl) pe_dnewK)
    (pss_cons (ps_for PassesOwn.never rfl (pi_enumS rfl gE (pa_cons (pv 1) pa_nil)) (pg_tup rfl (pgs_cons (pg_name (i := 3) nd rfl (Or.inl rfl)) (pgs_cons (pg_name (i := 4) nd rfl (Or.inl rfl)) pgs_nil)))
      (pss_cons (ps_if (PW.pt (pw_or (pt_not (pt_val (pe_call GO hr rfl gIO FO.kp bO .nil pass0 (pa_cons (pv 0) (pa_cons (pv 4) pa_nil))))) (pw_or1 (pt_cmp (pc_din hu (pv 4) (pv 2)))))) (pss_one (ps_ret (pv 3))) pss_nil)
      (pss_one (ps_dput hu (pv 2) (pv 4) pe_bl rfl))))
    (pss_one (ps_ret pe_non)))), ?_⟩
  cases hB with
  | no hN => exact ⟨_, rfl, _, rfl, .inr ⟨hN, fun H1 k1 => ⟨_, rfl, iteT (hq H1 k1)⟩⟩⟩
  | @seq a xs hS hA short =>
  refine ⟨_, rfl, _, rfl, .inl ⟨⟨a, xs, rfl, hS⟩, fun H1 k1 => ⟨_, rfl, iteF fun d nd2 => ?_⟩⟩⟩
  have kd := same_new (o := .dK []) nd2
  obtain ⟨o, ho, ko⟩ : ∃ o, H1 a = some o ∧ (o = .lst xs ∨ o = .tup xs) := by
    rcases hS.same k1 with e | e
    · exact ⟨_, e, .inl rfl⟩
    · exact ⟨_, e, .inr rfl⟩
  refine ⟨_, rfl, enum_seq ko (fun i σ H' => ∃ us : List Str, us.length = i ∧ badAt ns xs [] 0 = badAt ns (xs.drop i) us i ∧ H' d = some (.dK (seenD us)) ∧ Same H1 H' ∧ ∃ s3 s4, σ = [some (.ref c), some (.ref a), some (.ref d), s3, s4])
    ⟨[], rfl, by rw [List.drop_zero], upd_same, kd, _, _, rfl⟩ (fun i σ H' _ ⟨us, h⟩ => h.2.2.2.1 _ _ ho) ?_ ?_⟩
  · rintro i v σ H2 T ev ⟨us, lu, eb, od, s2, s3, s4, rfl⟩ nT
    have hi : i < xs.length := (List.getElem?_eq_some_iff.mp ev).1
    have kT := same_new (o := .tup [.int (i : Nat), v]) nT
    refine ⟨T, _, rfl, SqT.of upd_same, rfl, ?_⟩
    refine ⟨_, _, rfl, _, _, rfl, rfl, ?_⟩
    rw [badAt_step ev] at eb
    refine ⟨_, rfl, _, rfl, c, ns, v, rfl, hc.same ((k1.trans s2).trans kT), ?_⟩
    cases hs : strOf v with
    | none =>
      rw [hs] at eb
      refine .inr ⟨(hA v (List.mem_of_getElem? ev) hs).same ((k1.trans s2).trans kT), _, rfl, iteT ?_⟩
      have z := hq _ (k1.trans (s2.trans kT))
      rw [eb] at z
      exact iteT ⟨_, rfl, z⟩
    | some x =>
      obtain rfl := strOf_some hs
      rw [hs] at eb
      refine .inl ⟨x, rfl, _, rfl, ?_⟩
      by_cases xin : x ∈ ns
      · rw [decide_eq_true xin]
        refine iteF ⟨_, rfl, _, rfl, d, _, rfl, DGet.k (k := Sum.inr x) (kT _ _ od), ?_⟩
        by_cases xs' : x ∈ us
        · obtain ⟨v2, e2⟩ := (val_inS (es := seenD us) (S := us) (by unfold seenD; rw [List.map_map]; rfl) x).1 xs'
          rw [e2]
          dsimp only at eb
          rw [if_neg (fun z => z.2 xs')] at eb
          have z := hq _ (k1.trans (s2.trans kT))
          rw [eb] at z
          exact ⟨_, rfl, iteT ⟨_, rfl, z⟩⟩
        · rw [seen_none xs']
          refine ⟨_, rfl, iteF ?_⟩
          dsimp only at eb
          rw [if_pos ⟨xin, xs'⟩] at eb
          have small : (seenD us).length < sizeLine := by
            rw [sizeLine_eq]
            unfold seenD
            rw [List.length_map]; omega
          refine ⟨_, rfl, _, rfl, d, _, rfl, DPut.k (k := Sum.inr x) (kT _ _ od) small, us ++ [x], by rw [List.length_append, lu]; rfl, eb, ?_, ?_, _, _, rfl⟩
          · rw [upd_same, seen_put xs']
          · intro b u e
            have nb : b ≠ d := ne_of_none e nd2
            rw [upd_ne nb]
            exact kT _ _ (s2 _ _ e)
      · rw [decide_eq_false xin]
        dsimp only at eb
        rw [if_neg (fun z => xin z.1)] at eb
        have z := hq _ (k1.trans (s2.trans kT))
        rw [eb] at z
        exact iteT ⟨_, rfl, z⟩
  · rintro σ H2 ⟨us, lu, eb, od, s2, s3, s4, rfl⟩
    rw [List.drop_length] at eb
    have z := hq _ (k1.trans s2)
    rw [eb] at z
    exact z
theorem ok_ckKX (C : Chk K mg aF aL aO aK aA aB) (EK : ErrF P w K mg base "BadKnown" CK "index") (F : Fun K "check_known" "check_known" sCkK f fd) : FnOk P w K mg base (L2.CX P w) 3 f fd ["names", "known"] (spCkKX K CK) := by
  obtain ⟨fdF, FF⟩ := C.F
  obtain ⟨fdL, FL⟩ := C.L
  obtain ⟨fdO, FO⟩ := C.O
  have G : FnOk P w K mg base CX0 2 aF fdF ["names", "things"] (spFirstG K) := ok_firstG FF FL C.gL FO C.gO C.nI C.nL C.nT C.nS C.nE
  have b := FF.binds (ps := ["names", "things"]) fun _ _ _ _ _ _ us hl => match us, hl with | [_, _], _ => rfl
  refine F.okX scCkK (fun vs H Q E h => by obtain ⟨c, ns, v, r, e, _⟩ := h; rw [e]; rfl) fun cdv A outer s H vs Q E hr hsp => ?_
  obtain ⟨c, ns, v, r, rfl, hc, hB, hq, hf⟩ := hsp
  have nd := scCkK.nd
  refine ⟨_, pss_cons (ps_set (i := 2) nd rfl (Or.inl rfl) (pe_call G hr rfl C.gF FF.kp b .nil pass0 (pa_cons (pv 0) (pa_cons (pv 1) pa_nil))))
    (pss_one (ps_if (pt_cmp (pc_notN (pv 2))) (pss_one (ps_raiseE rfl (takes_of rfl rfl rfl rfl) EK hr rfl (pv 2))) pss_nil)), ?_⟩
  refine ⟨_, rfl, _, rfl, c, ns, v, r, rfl, hc, hB, fun H1 k1 => ?_⟩
  cases r with
  | none => exact ⟨_, rfl, _, rfl, iteF (hq rfl H1 k1)⟩
  | some i => exact ⟨_, rfl, _, rfl, iteT ⟨_, rfl, ((hf i rfl).same k1).up EK⟩⟩
theorem ok_ckAX (C : Chk K mg aF aL aO aK aA aB) (EQ : ErrF P w K mg base "NoQuestion" CQ "name") (F : Fun K "check_asked" "check_asked" sCkA f fd) : FnOk P w K mg base (L2.CX P w) 3 f fd ["names", "asked"] (spCkAX K CQ) := by
  obtain ⟨fdO, FO⟩ := C.O
  have G : FnOk P w K mg base CX0 1 aO fdO ["names", "thing"] (spIsOneN K) := ok_isOneN FO C.nI C.nS
  have b := FO.binds (ps := ["names", "thing"]) fun _ _ _ _ _ _ us hl => match us, hl with | [_, _], _ => rfl
  refine F.okX scCkA (fun vs H Q E h => by obtain ⟨c, ns, x, e, _⟩ := h; rw [e]; rfl) fun cdv A outer s H vs Q E hr hsp => ?_
  obtain ⟨c, ns, v, rfl, hc, hq⟩ := hsp
  refine ⟨_, pss_one (ps_if (pt_not (pt_val (pe_call G (hr.mono (by decide)) rfl C.gO FO.kp b .nil pass0 (pa_cons (pv 0) (pa_cons (pv 1) pa_nil))))) (pss_one (ps_raiseE rfl (takes_of rfl rfl rfl rfl) EQ hr rfl (pv 1))) pss_nil), ?_⟩
  refine ⟨_, rfl, _, rfl, c, ns, v, rfl, hc, ?_⟩
  rcases hq with ⟨x, rfl, xin, hq⟩ | ⟨⟨x, rfl, xin⟩ | hN, hf⟩
  · exact .inl ⟨x, rfl, _, rfl, by rw [decide_eq_true xin]; exact iteF hq⟩
  · exact .inl ⟨x, rfl, _, rfl, by rw [decide_eq_false xin]; exact iteT ⟨_, rfl, hf.up EQ⟩⟩
  · exact .inr ⟨hN, _, rfl, iteT ⟨_, rfl, hf.up EQ⟩⟩
theorem ok_ckBX (C : Chk K mg aF aL aO aK aA aB) (EK : ErrF P w K mg base "BadKnown" CK "index") (EQ : ErrF P w K mg base "NoQuestion" CQ "name") (F : Fun K "check_both" "check_both" sCkB f fd) : FnOk P w K mg base (L2.CX P w) 4 f fd ["names", "known", "asked"] (spCkBX K CK CQ) := by
  obtain ⟨fdK, FK⟩ := C.CK
  obtain ⟨fdA, FA⟩ := C.CA
  have GK : FnOk P w K mg base (L2.CX P w) 3 aK fdK ["names", "known"] (spCkKX K CK) := ok_ckKX C EK FK
  have GA : FnOk P w K mg base (L2.CX P w) 3 aA fdA ["names", "asked"] (spCkAX K CQ) := ok_ckAX C EQ FA
  have bK := FK.binds (ps := ["names", "known"]) fun _ _ _ _ _ _ us hl => match us, hl with | [_, _], _ => rfl
  have bA := FA.binds (ps := ["names", "asked"]) fun _ _ _ _ _ _ us hl => match us, hl with | [_, _], _ => rfl
  refine F.okX scCkB (fun vs H Q E h => by obtain ⟨c, ns, v, x, r, e, _⟩ := h; rw [e]; rfl) fun cdv A outer s H vs Q E hr hsp => ?_
  obtain ⟨c, ns, v, x, r, rfl, hc, hB, hq⟩ := hsp
  refine ⟨_, pss_cons (ps_expr (pe_callS GK hr rfl C.gCK FK.kp bK (fun σ => passAt (takes_of rfl rfl rfl rfl) σ) (pa_cons (pv 0) (pa_cons (pv 1) pa_nil))))
    (pss_one (ps_expr (pe_callS GA hr rfl C.gCA FA.kp bA (fun σ => passAt (takes_of rfl rfl rfl rfl) σ) (pa_cons (pv 0) (pa_cons (pv 2) pa_nil))))), ?_⟩
  refine ⟨_, rfl, _, rfl, c, ns, v, r, rfl, hc, hB, fun er H1 k1 => ?_, fun i er => ?_⟩
  · rcases hq with ⟨i, e2, _⟩ | ⟨_, hq⟩
    · rw [er] at e2; cases e2
    · refine ⟨_, rfl, _, rfl, c, ns, x, rfl, hc.same k1, ?_⟩
      rcases hq with ⟨y, rfl, yin, hq⟩ | ⟨hb, hf⟩
      · exact .inl ⟨y, rfl, yin, hq H1 k1⟩
      · exact .inr ⟨hb.same k1, hf.same k1⟩
  · rcases hq with ⟨j, e2, hf⟩ | ⟨e2, _⟩
    · rw [er] at e2; cases e2; exact hf
    · rw [er] at e2; cases e2
end
end L2.TB
/-! what the checks say stays; a net's names -/
namespace L2.TB
open PySem PySem.Spec PyProof.Rows LamX
theorem Bad.ext {K : PySem.W.Frag} {H H' : Hp} {ns : List Str} {v : V} {r : Option Nat} (h : Bad K H ns v r) (s : ExtN H H') : Bad K H' ns v r := by
  cases h with
  | no h => exact .no (let ⟨t, a, b, c⟩ := h; ⟨t, ty_ext a s, b, c⟩)
  | seq h a l => exact .seq (sq_ext h s) (fun x hx e => let ⟨t, a, b⟩ := a x hx e; ⟨t, ty_ext a s, b⟩) l
theorem BadAsk.ext {K : PySem.W.Frag} {H H' : Hp} {ns : List Str} {v : V} (h : BadAsk K H ns v) (s : ExtN H H') : BadAsk K H' ns v := h.imp id fun ⟨t, a, b⟩ => ⟨t, ty_ext a s, b⟩
theorem net_nms {A : Addr → Prop} {H : Hp} {C x : Addr} {arcs : NtT} (h : NetA A H C x arcs) : ∃ dx D N Lv, H x = some (.ins C dx (ntF D N Lv)) ∧ NmsC H D (arcs.map (·.1)) := by
  obtain ⟨dx, D, N, Lv, h1, ⟨D', es, e1, _, oD, _, pr⟩, _⟩ := h.ex
  obtain rfl := V.ref.inj e1
  exact ⟨dx, _, N, Lv, h1, .inl ⟨es, oD, dc_keys pr⟩⟩
/-! known ones -/
theorem bad_go {ns : List Str} : ∀ (us : List Str) (r : List V) (seen : List Str) (i : Nat), (∀ x ∈ us, x ∈ ns) → (seen ++ us).Nodup → badAt ns (us.map V.str ++ r) seen i = badAt ns r (seen ++ us) (i + us.length)
  | [], r, seen, i, _, _ => by rw [List.append_nil]; rfl
  | u :: us, r, seen, i, h, nd => by
    have h1 : u ∈ ns ∧ u ∉ seen := ⟨h u List.mem_cons_self, fun z => (List.nodup_append.mp nd).2.2 u z u List.mem_cons_self rfl⟩
    show (if u ∈ ns ∧ u ∉ seen then badAt ns (us.map V.str ++ r) (seen ++ [u]) (i + 1) else some i) = _
    rw [if_pos h1, bad_go us r (seen ++ [u]) (i + 1) (fun x hx => h x (List.mem_cons_of_mem _ hx)) (by rw [List.append_assoc]; exact nd), List.append_assoc, List.length_cons]
    show badAt ns r (seen ++ u :: us) (i + 1 + us.length) = badAt ns r (seen ++ u :: us) (i + (us.length + 1))
    rw [show i + 1 + us.length = i + (us.length + 1) by omega]
theorem bad_all {ns us : List Str} (h : ∀ x ∈ us, x ∈ ns) (nd : us.Nodup) : badAt ns (us.map V.str) [] 0 = none := by
  have z := bad_go us [] [] 0 h nd
  rw [List.append_nil] at z
  rw [z]
  rfl
theorem bad_at {ns us : List Str} {b : V} {r : List V} (h : ∀ x ∈ us, x ∈ ns) (nd : us.Nodup) (hb : ∀ x, strOf b = some x → ¬(x ∈ ns ∧ x ∉ us)) : badAt ns (us.map V.str ++ b :: r) [] 0 = some us.length := by
  rw [bad_go us (b :: r) [] 0 h nd, List.nil_append, Nat.zero_add]
  show (match strOf b with
    | some x => if x ∈ ns ∧ x ∉ us then badAt ns r (us ++ [x]) (us.length + 1) else some us.length
    | none => some us.length) = _
  cases e : strOf b with
  | none => rfl
  | some x => exact if_neg (hb x e)
theorem names_bad {K : PySem.W.Frag} {H : Hp} {a : Addr} {ns : List Str} (h : H a = some (.lst (ns.map V.str))) (nd : ns.Nodup) (sh : ns.length < 1000) : Bad K H ns (.ref a) none := by
  have z : Bad K H ns (.ref a) (badAt ns (ns.map V.str) [] 0) := .seq (.inl h) (fun x hx e => by
    obtain ⟨s, _, rfl⟩ := List.mem_map.mp hx
    cases e) (by rw [List.length_map]; exact sh)
  rwa [bad_all (fun _ h => h) nd] at z
end L2.TB
/-! a net: the free arcs, what is given, what is told, a plan -/
namespace L2.TB
open PySem PySem.Spec PyProof.Rows LamX
/-- some of a list of texts -/
theorem lc_selN {K : PySem.W.Frag} {q : Addr} {xs : List Str} {i : Nat} {tt : TT} {vs : List Nat} {σ : L2.St} {H1 : Hp} {Q : Addr → Hp → Prop} (f : Str → Bool) (oq : H1 q = some (.lst (xs.map V.str))) (short : xs.length < 100000) (hi : ∀ v : V, ((wipe σ vs).set i (some v))[i]? = some (some v))
    (hw : ∀ v : V, wipe ((wipe σ vs).set i (some v)) vs = wipe σ vs) (test : ∀ n H (T : Bool → Hp → Prop), n ∈ xs → Same H1 H → (∀ H', Same H H' → T (f n) H') → tt ((wipe σ vs).set i (some (.str n))) H T)
    (fin : ∀ H D, H1 D = none → H D = some (.lst ((xs.filter f).map V.str)) → Same H1 H → Q D H) : LcW (Itl K q) (gName i) tt (tVar i) vs σ H1 Q := by
  have lx : (xs.map V.str).length = xs.length := List.length_map _
  refine lc_genON (xs.map fun n => if f n = true then some (V.str n) else none) (by rw [List.length_map]; omega) (fun i H' s lt => ⟨_, _, SqL.of (s _ _ oq), List.getElem?_eq_getElem (by rw [List.length_map] at lt; rw [lx]; exact lt)⟩) (fun H' s => ⟨_, SqL.of (s _ _ oq), by rw [List.length_map, List.length_map]; exact Nat.le_refl _⟩) ?_ ?_
  · rintro j v o H2 H3 Cn Nn eo s2 ⟨rfl, ev⟩ yes no
    have ev := ev _ (SqL.of (s2 _ _ oq))
    rw [List.getElem?_map] at ev eo
    obtain ⟨n, en, rfl⟩ := Option.map_eq_some_iff.mp ev
    rw [en] at eo
    have eo := Option.some.inj eo
    refine ⟨hw _, test n H3 _ (List.mem_of_getElem? en) s2 fun H' s' => ?_⟩
    by_cases c : f n = true
    · rw [c]
      refine iteT ⟨_, hi _, yes _ ?_ H' s'⟩
      rw [← eo]
      exact if_pos c
    · have c' : f n = false := by cases h : f n <;> simp_all
      rw [c']
      refine iteF (no ?_ H' s')
      rw [← eo]
      exact if_neg c
  · intro H2 D nD oD s2
    rw [opt_listN f V.str xs] at oD
    exact fin H2 D nD oD s2
/-- known ones, as a list -/
structure KnA (H : Hp) (kn : Addr) (arcs : NtT) (ks : List Str) : Prop where
  o : H kn = some (.lst (ks.map V.str))
  sub : ∀ n ∈ ks, n ∈ arcs.map (·.1)
  nd : ks.Nodup
theorem KnA.same {H H' : Hp} {kn : Addr} {arcs : NtT} {ks : List Str} (h : KnA H kn arcs ks) (s : Same H H') : KnA H' kn arcs ks := ⟨s _ _ h.o, h.sub, h.nd⟩
theorem KnA.len {H : Hp} {kn : Addr} {arcs : NtT} {ks : List Str} (h : KnA H kn arcs ks) : ks.length ≤ arcs.length := by
  have z := nd_sub_len (l' := arcs.map (·.1)) h.nd h.sub
  rwa [List.length_map] at z
noncomputable def freeN (arcs : NtT) (ks : List Str) : List Str := (liveL arcs).filter fun n => decide (n ∉ ks)
noncomputable def othN (arcs : NtT) (ks : List Str) (a : Str) : List Str := (freeN arcs ks).filter fun n => decide (n ≠ a)
noncomputable def othE (arcs : NtT) (ks : List Str) (a : Str) : NtT := arcs.filter fun e => liveB arcs e && (decide (e.1 ∉ ks) && decide (e.1 ≠ a))
theorem oth_names (arcs : NtT) (ks : List Str) (a : Str) : (othE arcs ks a).map (·.1) = othN arcs ks a := by
  unfold othE othN freeN liveL
  rw [List.filter_map, List.filter_map, List.filter_filter, List.filter_filter]
  congr 1
  refine List.filter_congr fun e _ => ?_
  show (liveB arcs e && (decide (e.1 ∉ ks) && decide (e.1 ≠ a))) = ((decide (e.1 ≠ a) && decide (e.1 ∉ ks)) && liveB arcs e)
  cases liveB arcs e <;> cases decide (e.1 ∉ ks) <;> cases decide (e.1 ≠ a) <;> rfl
theorem oth_sub {arcs : NtT} {ks : List Str} {a : Str} : ∀ e ∈ othE arcs ks a, e ∈ arcs := fun e h => (List.mem_filter.mp h).1
theorem oth_len (arcs : NtT) (ks : List Str) (a : Str) : (othE arcs ks a).length ≤ arcs.length := List.length_filter_le _ _
noncomputable def givB (arcs : NtT) (ks : List Str) (a : Str) : Bool := decide (a ∈ ks) || decide (a ∉ liveL arcs)
def Told (arcs : NtT) (ks : List Str) (e : Str × ArT) : Prop := givB arcs ks e.1 = true ∨ ¬ Reach (eithE (othE arcs ks e.1)) e.2.2 e.2.1
theorem live_len (arcs : NtT) : (liveL arcs).length ≤ arcs.length := by
  unfold liveL
  rw [List.length_map]
  exact List.length_filter_le _ _
def spFree (C : Addr) : Sp := fun vs H Q _ => ∃ (x kn : Addr) (arcs : NtT) (A : Addr → Prop) (ks : List Str), vs = [.ref x, .ref kn] ∧ NetA A H C x arcs ∧ arcs.length < 1000 ∧ H kn = some (.lst (ks.map V.str)) ∧ ∀ H' q, H q = none → H' q = some (.lst ((freeN arcs ks).map V.str)) → Same H H' → Q (.ref q) H'
def spOth (C : Addr) : Sp := fun vs H Q _ => ∃ (x kn : Addr) (arcs : NtT) (A : Addr → Prop) (ks : List Str) (a : Str), vs = [.ref x, .ref kn, .str a] ∧ NetA A H C x arcs ∧ arcs.length < 1000 ∧ H kn = some (.lst (ks.map V.str)) ∧ ∀ H' q, H q = none → H' q = some (.lst (((othE arcs ks a).map (·.1)).map V.str)) → Same H H' → Q (.ref q) H'
def spGiv (C : Addr) : Sp := fun vs H Q _ => ∃ (x kn : Addr) (arcs : NtT) (A : Addr → Prop) (ks : List Str) (a : Str), vs = [.ref x, .ref kn, .str a] ∧ NetA A H C x arcs ∧ H kn = some (.lst (ks.map V.str)) ∧ Q (.bl (givB arcs ks a)) H
def spTold (C : Addr) : Sp := fun vs H Q _ => ∃ (x kn : Addr) (arcs : NtT) (A : Addr → Prop) (ks : List Str) (e : Str × ArT), vs = [.ref x, .ref kn, .str e.1] ∧ NetA A H C x arcs ∧ NtOk arcs ∧ KnA H kn arcs ks ∧ e ∈ arcs ∧ ∀ H' b, (b = true ↔ Told arcs ks e) → Same H H' → Q (.bl b) H'
def spPlanN (C : Addr) : Sp := fun vs H Q _ => ∃ (x kn : Addr) (arcs : NtT) (A : Addr → Prop) (ks : List Str) (e : Str × ArT), vs = [.ref x, .ref kn, .str e.1] ∧ NetA A H C x arcs ∧ NtOk arcs ∧ KnA H kn arcs ks ∧ e ∈ arcs ∧
  (¬ Told arcs ks e → ∀ H', Same H H' → Q .non H') ∧ (Told arcs ks e → ∀ H' q S, H q = none → H' q = some (.lst ((S : List Str).map V.str)) → S.Nodup → (∀ n ∈ S, n ∈ nodesL arcs) → (givB arcs ks e.1 = true → S = []) → (givB arcs ks e.1 = false → ∀ n, n ∈ S ↔ n ∈ nodesL arcs ∧ Reach (eithE (othE arcs ks e.1)) e.2.2 n) → Same H H' → Q (.ref q) H')
abbrev NFa : List Str := ["net", "known", "name"]
theorem scFa : FnScope NFa ["net", "known"] (defScope sFree) := ⟨rfl, rfl, rfl, by decide +kernel, rfl, by decide +kernel, by decide +kernel⟩
abbrev NOt : List Str := ["self", "known", "asked", "name"]
theorem scOt : FnScope NOt ["self", "known", "asked"] (defScope sOthers) := ⟨rfl, rfl, rfl, by decide +kernel, rfl, by decide +kernel, by decide +kernel⟩
theorem scGv : FnScope ["self", "known", "asked"] ["self", "known", "asked"] (defScope sIsGiven) := ⟨rfl, rfl, rfl, by decide +kernel, rfl, by decide +kernel, by decide +kernel⟩
theorem scTo : FnScope ["self", "known", "asked"] ["self", "known", "asked"] (defScope sIsTold) := ⟨rfl, rfl, rfl, by decide +kernel, rfl, by decide +kernel, by decide +kernel⟩
abbrev NPl : List Str := ["self", "known", "asked", "side", "node"]
theorem scPl : FnScope NPl ["self", "known", "asked"] (defScope sPlan) := ⟨rfl, rfl, rfl, by decide +kernel, rfl, by decide +kernel, by decide +kernel⟩
/-- what the methods call -/
structure NtC (P : Program) (w : World) (K : PySem.W.Frag) (mg : Str → Option Value) (base : Heap) (C : Addr) (ca : Str → Addr) : Prop where
  S : NetC K C
  nL : mg "list" = none
  live : ∃ f fd, Meth K C "live" f ∧ Binds K fd ["self"] [] ∧ FnOk P w K mg base CX0 1 f fd ["self"] (spNLive C)
  ckB : ∃ f fd, mg "check_both" = some (.ref f) ∧ PySem.W.keepIn K (.ref f) = true ∧ Binds K fd ["names", "known", "asked"] [] ∧ FnOk P w K mg base (L2.CX P w) 4 f fd ["names", "known", "asked"] (spCkBX K (ca "BadKnown") (ca "NoQuestion"))
  jo : ∃ f fd, mg "is_joined" = some (.ref f) ∧ PySem.W.keepIn K (.ref f) = true ∧ Binds K fd ["arcs", "names", "asked"] [] ∧ FnOk P w K mg base CX0 3 f fd ["arcs", "names", "asked"] spJoin
  rc : ∃ f fd, mg "reached" = some (.ref f) ∧ PySem.W.keepIn K (.ref f) = true ∧ Binds K fd ["steps", "begin"] [] ∧ FnOk P w K mg base CX0 1 f fd ["steps", "begin"] spReachG
  ei : ∃ f fd, mg "either_way" = some (.ref f) ∧ PySem.W.keepIn K (.ref f) = true ∧ Binds K fd ["arcs", "names"] [] ∧ FnOk P w K mg base CX0 2 f fd ["arcs", "names"] spEith
section
variable {P : Program} {w : World} {K : PySem.W.Frag} {mg : Str → Option Value} {base : Heap} {f C fF fO fG fT : Addr} {fd fdF fdO fdG fdT : FuncData} {ca : Str → Addr}
theorem ok_free (F : Fun K "free_arcs" "free_arcs" sFree f fd) (L : NtC P w K mg base C ca) : FnOk P w K mg base CX0 2 f fd ["net", "known"] (spFree C) := by
  obtain ⟨fL, fdL, mL, bL, GL⟩ := L.live
  refine F.ok scFa (fun vs H Q E h => by obtain ⟨x, kn, arcs, A, ks, e, _⟩ := h; rw [e]; rfl) fun cdv A outer s H vs Q E hr hsp => ?_
  obtain ⟨x, kn, arcs, A0, ks, rfl, hx, sh, ok, hq⟩ := hsp
  have nd := scFa.nd
  refine ⟨_, pss_one (ps_ret (pe_lc (own := [("name", 2)]) (tt := tTest (tOp (rIn K true) (tVar 2) (tVar 1))) (g := gName 2) (te := tVar 2) rfl nd (pi_list (pe_meth0 (pv 0) L.S.cl mL GL hr bL .nil pass0)) (blkOk_by (N := NFa) (sc := defScope sFree) (by decide +kernel)) (fun _ _ _ _ _ => pg_name (i := 2) nd rfl (Or.inl rfl)) (fun _ _ _ _ _ => pts_one (pt_cmpR op_notIn_seq (pv 2) (pv 1) rfl)) (fun _ _ _ _ _ => pv 2))), ?_⟩
  obtain ⟨dx, _, _, _, h1, _⟩ := id hx.ex
  have ll := live_len arcs
  refine ⟨_, rfl, x, dx, _, rfl, h1, rfl, x, arcs, A0, rfl, hx, fun H1 q nq oq k1 => ⟨q, rfl, ⟨_, SqL.of oq⟩, ?_⟩⟩
  refine lc_selN (fun n => decide (n ∉ ks)) oq (by omega) (fun _ => rfl) (fun _ => rfl) (fun n H2 T _ s2 go => ?_) fun H2 D nD oD s2 => ?_
  · refine ⟨_, rfl, _, rfl, kn, _, rfl, .inl (SqL.of (s2 _ _ (k1 _ _ ok))), rfl, flat_strs ks, _, rfl, ?_⟩
    have z := go H2 (Same.refl _)
    rw [inV_strs]
    have e : (if true = true then !decide (n ∈ ks) else decide (n ∈ ks)) = decide (n ∉ ks) := by
      rw [if_pos rfl]
      by_cases c : n ∈ ks
      · rw [decide_eq_true c, decide_eq_false (fun h => h c)]; rfl
      · rw [decide_eq_false c, decide_eq_true c]; rfl
    rw [e]
    exact z
  · refine hq H2 D ?_ oD (k1.trans s2)
    cases z : H D with
    | none => rfl
    | some o => rw [k1 _ _ z] at nD; cases nD
theorem ok_oth (F : Fun K "_others" "Net._others" sOthers f fd) (FF : Fun K "free_arcs" "free_arcs" sFree fF fdF) (gF : mg "free_arcs" = some (.ref fF)) (GF : FnOk P w K mg base CX0 2 fF fdF ["net", "known"] (spFree C)) : FnOk P w K mg base CX0 3 f fd ["self", "known", "asked"] (spOth C) := by
  have bF := FF.binds (ps := ["net", "known"]) fun _ _ _ _ _ _ us hl => match us, hl with | [_, _], _ => rfl
  refine F.ok scOt (fun vs H Q E h => by obtain ⟨x, kn, arcs, A, ks, a, e, _⟩ := h; rw [e]; rfl) fun cdv A outer s H vs Q E hr hsp => ?_
  obtain ⟨x, kn, arcs, A0, ks, a, rfl, hx, sh, ok, hq⟩ := hsp
  have nd := scOt.nd
  refine ⟨_, pss_one (ps_ret (pe_lc (own := [("name", 3)]) (tt := tTest (tOp rNe (tVar 3) (tVar 2))) (g := gName 3) (te := tVar 3) rfl nd (pi_list (pe_call GF hr rfl gF FF.kp bF .nil pass0 (pa_cons (pv 0) (pa_cons (pv 1) pa_nil)))) (blkOk_by (N := NOt) (sc := defScope sOthers) (by decide +kernel)) (fun _ _ _ _ _ => pg_name (i := 3) nd rfl (Or.inl rfl)) (fun _ _ _ _ _ => pts_one (pt_cmpR op_ne (pv 3) (pv 2) (nomark _))) (fun _ _ _ _ _ => pv 3))), ?_⟩
  have lf : (freeN arcs ks).length ≤ arcs.length := by
    unfold freeN
    exact Nat.le_trans (List.length_filter_le _ _) (live_len arcs)
  refine ⟨_, rfl, _, rfl, x, kn, arcs, A0, ks, rfl, hx, sh, ok, fun H1 q nq oq k1 => ⟨q, rfl, ⟨_, SqL.of oq⟩, ?_⟩⟩
  refine lc_selN (fun n => decide (n ≠ a)) oq (by omega) (fun _ => rfl) (fun _ => rfl) (fun n H2 T _ s2 go => ?_) fun H2 D nD oD s2 => ?_
  · refine ⟨_, rfl, _, rfl, rfl, _, rfl, ?_⟩
    have z := go H2 (Same.refl _)
    have e : (!decide (V.str n = V.str a)) = decide (n ≠ a) := by
      by_cases c : n = a
      · rw [decide_eq_true (by rw [c]), decide_eq_false (fun h => h c)]; rfl
      · rw [decide_eq_false (fun h => c (V.str.inj h)), decide_eq_true c]; rfl
    rw [e]
    exact z
  · refine hq H2 D ?_ ?_ (k1.trans s2)
    · cases z : H D with
      | none => rfl
      | some o => rw [k1 _ _ z] at nD; cases nD
    · rw [oth_names]
      exact oD
theorem ok_giv (F : Fun K "_is_given" "Net._is_given" sIsGiven f fd) (S : NetC K C) : FnOk P w K mg base CX0 1 f fd ["self", "known", "asked"] (spGiv C) := by
  refine F.ok scGv (fun vs H Q E h => by obtain ⟨x, kn, arcs, A, ks, a, e, _⟩ := h; rw [e]; rfl) fun cdv A outer s H vs Q E hr hsp => ?_
  obtain ⟨x, kn, arcs, A0, ks, a, rfl, hx, ok, hq⟩ := hsp
  refine ⟨_, pss_one (ps_ret (pe_or (pe_cmpR op_in_seq (pv 2) (pv 1) rfl) (pe_one (pe_cmpR op_notIn_seq (pv 2) (pe_fld (pv 0) rfl) rfl)))), ?_⟩
  obtain ⟨dx, D, _, Lv, h1, _, _, _, _, oL⟩ := hx.ex
  refine ⟨_, rfl, _, rfl, kn, _, rfl, .inl (SqL.of ok), rfl, flat_strs ks, _, rfl, ?_⟩
  rw [if_neg Bool.false_ne_true, inV_strs]
  unfold givB at hq
  by_cases c : a ∈ ks
  · rw [decide_eq_true c]
    rw [decide_eq_true c, Bool.true_or] at hq
    exact iteT hq
  · rw [decide_eq_false c]
    rw [decide_eq_false c, Bool.false_or] at hq
    refine iteF ⟨_, rfl, _, rfl, x, C, dx, _, _, rfl, h1, S.cl, S.nL, rfl, Lv, _, rfl, .inl (SqL.of oL), rfl, flat_strs _, ?_⟩
    rw [if_pos rfl, inV_strs]
    by_cases c2 : a ∈ liveL arcs
    · rw [decide_eq_false (fun h => h c2)] at hq
      rw [decide_eq_true c2]
      exact hq
    · rw [decide_eq_true c2] at hq
      rw [decide_eq_false c2]
      exact hq
end
end L2.TB
/-! a.update(b) -/
namespace L2.TB
open PySem PySem.Spec PyProof.Rows
def rDUpd : V → List V → Hp → VK → Prop := fun x vs H Q => ∃ (a b : Addr) (ka kb : List (Key × V)), x = .ref a ∧ vs = [.ref b] ∧ b ≠ a ∧ H a = some (.dK ka) ∧ H b = some (.dK kb) ∧ ka.length ≤ 1000 ∧ kb.length ≤ 1000 ∧ Q .non (upd H a (.dK (mergeK ka kb)))
theorem mt_dupd {X : Cx} : MtR X "dict.update" rDUpd := by
  intro pins s σ H x xs v us Q I rx rxs got
  obtain ⟨a, b, ka, kb, rfl, rfl, ne, oa, ob, la, lb, q⟩ := got
  obtain ⟨u, rfl, ru⟩ := (rxs.one)
  obtain rfl : v = Value.ref a := rx
  obtain rfl : u = Value.ref b := ru
  obtain ⟨_, sp, ks, ra, da⟩ := dk_of I.hok oa
  obtain ⟨_, sb, ws, rb, db⟩ := dk_of I.hok ob
  have l1 := ra.length
  have l2 := rb.length
  refine call_meetsIn PySem.F.slot_dict_update da.typeIs PySem.F.entry_dict_update (PySem.F.args_dict_update_2 _ _) (meets_dict_update (mixKind X.prog X.w) a b (Ne.symm ne) sb)
    ⟨ks, ws, da, db, (by rw [sizeLine_eq]; omega), fun h2 at2 _ but2 => ⟨.non, _, ?_, rfl, q⟩⟩
  have there : ∃ o, h2.get? a = some o := let ⟨o, _, _, e, _⟩ := at2; ⟨o, e⟩
  refine d_write I (by rw [oa]; exact True.intro) but2 there (dk_new ?_ sp (rb.merge ra) at2)
  have := length_mergeK kb ka
  rw [sizeLine_eq]
  omega
section
theorem passN {P : Program} {w : World} {X : Cx} : Passes (L2.CX P w) X E0 := fun _ _ _ _ _ _ _ h => by
  obtain ⟨_, _, _, _, _, _, _, _, _, _, _, _, z⟩ := (h)
  exact z.elim
end
end L2.TB
/-! a net: is_told, plan -/
namespace L2.TB
open PySem PySem.Spec PyProof.Rows LamX
section
variable {P : Program} {w : World} {K : PySem.W.Frag} {mg : Str → Option Value} {base : Heap} {f C fF fO fG fT : Addr} {fd fdF fdO fdG fdT : FuncData} {ca : Str → Addr}
theorem kna_bad {H : Hp} {kn : Addr} {arcs : NtT} {ks : List Str} (h : KnA H kn arcs ks) (sh : arcs.length < 1000) : Bad K H (arcs.map (·.1)) (.ref kn) none := by
  have l := h.len
  have z : Bad K H (arcs.map (·.1)) (.ref kn) (badAt (arcs.map (·.1)) (ks.map V.str) [] 0) := .seq (.inl h.o) (fun x hx e => by
    obtain ⟨s, _, rfl⟩ := List.mem_map.mp hx
    cases e) (by rw [List.length_map]; omega)
  rwa [bad_all h.sub h.nd] at z
theorem ok_told (F : Fun K "is_told" "Net.is_told" sIsTold f fd) (L : NtC P w K mg base C ca) (mG : Meth K C "_is_given" fG) (GG : FnOk P w K mg base CX0 1 fG fdG ["self", "known", "asked"] (spGiv C)) (bG : Binds K fdG ["self", "known", "asked"] []) (mO : Meth K C "_others" fO) (GO : FnOk P w K mg base CX0 3 fO fdO ["self", "known", "asked"] (spOth C)) (bO : Binds K fdO ["self", "known", "asked"] []) : FnOk P w K mg base CX0 5 f fd ["self", "known", "asked"] (spTold C) := by
  obtain ⟨fB, fdB, gB, kB, bB, GB⟩ := L.ckB
  obtain ⟨fJ, fdJ, gJ, kJ, bJ, GJ⟩ := L.jo
  refine F.ok scTo (fun vs H Q E h => by obtain ⟨x, kn, arcs, A, ks, e, e', _⟩ := h; rw [e']; rfl) fun cdv A outer s H vs Q E hr hsp => ?_
  obtain ⟨x, kn, arcs, A0, ks, e, rfl, hx, nok, ka, he, hq⟩ := hsp
  refine ⟨_, pss_cons (ps_expr (pe_call GB hr rfl gB kB bB .nil passN (pa_cons (pe_fld (pv 0) rfl) (pa_cons (pv 1) (pa_cons (pv 2) pa_nil)))))
    (pss_one (ps_ret (pe_or (pe_meth (pv 0) L.S.cl mG GG (hr.mono (by decide)) bG .nil pass0 (pa_cons (pv 1) (pa_cons (pv 2) pa_nil)))
      (pe_one (pe_not (pe_call GJ (hr.mono (by decide)) rfl gJ kJ bJ .nil pass0 (pa_cons (pe_fld (pv 0) rfl) (pa_cons (pe_meth (pv 0) L.S.cl mO GO (hr.mono (by decide)) bO .nil pass0 (pa_cons (pv 1) (pa_cons (pv 2) pa_nil))) (pa_cons (pv 2) pa_nil))))))))), ?_⟩
  have sh := nok.n1
  obtain ⟨dx, D, Nd, Lv, h1, at_, _⟩ := hx.ex
  obtain ⟨D', es, e1, aD, oD, rnd, pr⟩ := id at_
  obtain rfl := V.ref.inj e1
  refine ⟨_, rfl, x, C, dx, _, _, rfl, h1, L.S.cl, L.S.nA, rfl, _, rfl, _, rfl, D, arcs.map (·.1), _, _, _, rfl, .inl ⟨es, oD, dc_keys pr⟩, kna_bad (arcs := arcs) ka (by omega), .inr ⟨rfl, .inl ⟨e.1, rfl, List.mem_map_of_mem he, fun H1 k1 => ?_⟩⟩⟩
  have hx1 := hx.same k1
  have h11 := k1 _ _ h1
  refine ⟨_, rfl, x, dx, _, rfl, h11, rfl, _, rfl, _, rfl, x, kn, arcs, A0, ks, e.1, rfl, hx1, k1 _ _ ka.o, _, rfl, ?_⟩
  cases g : givB arcs ks e.1 with
  | true => exact iteT (hq H1 true ⟨fun _ => .inl g, fun _ => rfl⟩ k1)
  | false =>
    refine iteF ?_
    refine ⟨_, rfl, x, C, dx, _, _, rfl, h11, L.S.cl, L.S.nA, rfl, ?_⟩
    refine ⟨_, rfl, x, dx, _, rfl, h11, rfl, _, rfl, _, rfl, x, kn, arcs, A0, ks, e.1, rfl, hx1, by omega, k1 _ _ ka.o, fun H2 q nq oq k2 => ?_⟩
    have k12 := k1.trans k2
    refine ⟨_, rfl, D, q, arcs, othE arcs ks e.1, A0, e, rfl, PyD.kp at_ (fun b o a e => ⟨a, k12 _ _ e⟩), oq, oth_sub, by have := oth_len arcs ks e.1; omega, he, fun H3 b hb k3 => ⟨_, rfl, ?_⟩⟩
    refine hq H3 (!b) ⟨fun h => .inr fun r => ?_, fun h => ?_⟩ (k12.trans k3)
    · rw [hb.mpr r] at h
      cases h
    · cases b with
      | false => rfl
      | true =>
        rcases h with h | h
        · rw [g] at h; cases h
        · exact absurd (hb.mp rfl) h
theorem ok_planN (F : Fun K "plan" "Net.plan" sPlan f fd) (L : NtC P w K mg base C ca) (mT : Meth K C "is_told" fT) (GT : FnOk P w K mg base CX0 5 fT fdT ["self", "known", "asked"] (spTold C)) (bT : Binds K fdT ["self", "known", "asked"] []) (mG : Meth K C "_is_given" fG) (GG : FnOk P w K mg base CX0 1 fG fdG ["self", "known", "asked"] (spGiv C)) (bG : Binds K fdG ["self", "known", "asked"] []) (mO : Meth K C "_others" fO) (GO : FnOk P w K mg base CX0 3 fO fdO ["self", "known", "asked"] (spOth C)) (bO : Binds K fdO ["self", "known", "asked"] []) : FnOk P w K mg base CX0 6 f fd ["self", "known", "asked"] (spPlanN C) := by
  obtain ⟨fR, fdR, gR, kR, bR, GR⟩ := L.rc
  obtain ⟨fE, fdE, gE, kE, bE, GE⟩ := L.ei
  refine F.ok scPl (fun vs H Q E h => by obtain ⟨x, kn, arcs, A, ks, e, e', _⟩ := h; rw [e']; rfl) fun cdv A outer s H vs Q E hr hsp => ?_
  obtain ⟨x, kn, arcs, A0, ks, e, rfl, hx, nok, ka, he, hq1, hq2⟩ := hsp
  have nd := scPl.nd
  have hu := hu_of (hr.mono (show 1 ≤ 5 by decide))
  refine ⟨_, pss_cons (ps_if (pt_not (pt_val (pe_meth (pv 0) L.S.cl mT GT hr bT .nil pass0 (pa_cons (pv 1) (pa_cons (pv 2) pa_nil))))) (pss_one (ps_ret pe_non)) pss_nil)
    (pss_cons (ps_if (pt_val (pe_meth (pv 0) L.S.cl mG GG (hr.mono (by decide)) bG .nil pass0 (pa_cons (pv 1) (pa_cons (pv 2) pa_nil)))) (pss_one (ps_ret (pe_lst pa_nil))) pss_nil)
    (pss_cons (ps_set (i := 3) nd rfl (Or.inr rfl) (pe_call GR (hr.mono (by decide)) rfl gR kR bR .nil pass0 (pa_cons (pe_call GE (hr.mono (by decide)) rfl gE kE bE .nil pass0 (pa_cons (pe_fld (pv 0) rfl) (pa_cons (pe_meth (pv 0) L.S.cl mO GO (hr.mono (by decide)) bO .nil pass0 (pa_cons (pv 1) (pa_cons (pv 2) pa_nil))) pa_nil)))
        (pa_cons (pe_ix (r := rIx K) ix_seq (pe_dget hu (pe_fld (pv 0) rfl) (pv 2) (fun _ _ => rfl)) pe_int (fun _ _ => rfl)) pa_nil))))
    (pss_one (ps_ret (pe_lc (own := [("node", 4)]) (tt := tB (tDIn (tVar 4) (tVar 3))) (g := gName 4) (te := tVar 4) rfl nd (pi_list (pe_fld (pv 0) rfl)) (blkOk_by (N := NPl) (sc := defScope sPlan) (by decide +kernel)) (fun _ _ _ _ _ => pg_name (i := 4) nd rfl (Or.inl rfl)) (fun _ _ _ _ _ => pts_one (pt_cmp (pc_din hu (pv 4) (pv 3)))) (fun _ _ _ _ _ => pv 4)))))), ?_⟩
  have sh := nok.n1
  obtain ⟨dx, D, Nd, Lv, h1, at_, aN, oN, _⟩ := hx.ex
  refine ⟨_, rfl, x, dx, _, rfl, h1, rfl, _, rfl, _, rfl, x, kn, arcs, A0, ks, e, rfl, hx, nok, ka, he, fun H1 b hb k1 => ⟨_, rfl, ?_⟩⟩
  cases b with
  | false => exact iteT (hq1 (fun t => by cases hb.mpr t) H1 k1)
  | true =>
    have told := hb.mp rfl
    refine iteF ?_
    have hx1 := hx.same k1
    have h11 := k1 _ _ h1
    refine ⟨_, rfl, x, dx, _, rfl, h11, rfl, _, rfl, _, rfl, x, kn, arcs, A0, ks, e.1, rfl, hx1, k1 _ _ ka.o, _, rfl, ?_⟩
    cases g : givB arcs ks e.1 with
    | true =>
      refine iteT ⟨Nat.zero_le _, fun q nq => ?_⟩
      have kq := same_new (o := .lst []) nq
      refine hq2 told _ q [] ?_ upd_same (by simp) (fun n h => by cases h) (fun _ => rfl) (fun h => by rw [g] at h; cases h) (k1.trans kq)
      cases z : H q with
      | none => rfl
      | some o => rw [k1 _ _ z] at nq; cases nq
    | false =>
      refine iteF ?_
      refine ⟨_, rfl, x, C, dx, _, _, rfl, h11, L.S.cl, L.S.nA, rfl, ?_⟩
      refine ⟨_, rfl, x, dx, _, rfl, h11, rfl, _, rfl, _, rfl, x, kn, arcs, A0, ks, e.1, rfl, hx1, by omega, k1 _ _ ka.o, fun H2 q nq oq k2 => ?_⟩
      have k12 := k1.trans k2
      have lo := oth_len arcs ks e.1
      refine ⟨D, q, arcs, othE arcs ks e.1, A0, rfl, PyD.kp at_ (fun b o a e => ⟨a, k12 _ _ e⟩), oq, oth_sub, by omega, fun H3 r ts nr or pr3 k3 => ?_⟩
      have k13 := k12.trans k3
      obtain ⟨es, t0, oD, ev0, _, ot⟩ := arc_at at_ he
      refine ⟨_, rfl, x, C, dx, _, _, rfl, k13 _ _ h1, L.S.cl, L.S.nA, rfl, _, rfl, D, _, rfl, .inl ⟨es, Sum.inr e.1, .inl (k13 _ _ oD), rfl, ev0.symm⟩, .inr (.inl ⟨t0, _, _, _, rfl, rfl, SqT.of (k13 _ _ ot), rfl, ?_⟩)⟩
      refine ⟨r, e.2.2, ts, _, rfl, or, pr3, by rw [eiS_len]; omega, fun H4 FD es4 F4 n4 o4 p4 FO4 mem k4 => ?_⟩
      have k14 := k13.trans k4
      have oN4 := k14 _ _ oN
      refine ⟨_, rfl, x, C, dx, _, _, rfl, k14 _ _ h1, L.S.cl, L.S.nN, rfl, Nd, rfl, ⟨_, SqL.of oN4⟩, ?_⟩
      have ln : (nodesL arcs).length ≤ 2 * arcs.length := by
        have z := nodesF_len arcs []
        rw [List.length_nil] at z
        show (nodesF [] arcs).length ≤ _
        omega
      refine lc_selN (fun n => (valV es4 (Sum.inr n)).isSome) oN4 (by omega) (fun _ => rfl) (fun _ => rfl) (fun n H5 T _ s5 go => ?_) fun H5 DD nD oD5 s5 => ?_
      · exact ⟨_, rfl, _, rfl, FD, _, rfl, DGet.k (k := Sum.inr n) (s5 _ _ o4), _, rfl, go H5 (Same.refl _)⟩
      · refine hq2 told H5 DD _ ?_ oD5 ((nodesF_nd arcs [] (by simp)).sublist List.filter_sublist) (fun n h => (List.mem_filter.mp h).1) (fun h => by rw [g] at h; cases h) (fun _ n => ?_) (k14.trans s5)
        · cases z : H DD with
          | none => rfl
          | some o => rw [k14 _ _ z] at nD; cases nD
        · have m4 : n ∈ F4.map (·.1) ↔ Reach (eithE (othE arcs ks e.1)) e.2.2 n := mem n
          rw [List.mem_filter, ← m4]
          refine and_congr_right fun _ => ⟨fun h => Classical.byContradiction fun c => ?_, fun h => ?_⟩
          · rw [(val_inS (fe_keys p4) n).2 c] at h
            cases h
          · obtain ⟨v, ev⟩ := (val_inS (fe_keys p4) n).1 h
            rw [ev]
            rfl
end
end L2.TB
/-! a net: a filled world, two worlds apart -/
namespace L2.TB
open PySem PySem.Spec PyProof.Rows LamX
def spFill (C : Addr) : Sp := fun vs H Q _ => ∃ (x : Addr) (arcs : NtT) (A : Addr → Prop), vs = [.ref x] ∧ NetA A H C x arcs ∧ NtOk arcs ∧ ∀ H' q (y : Str → Int), H q = none → H' q = some (.dK (valD (fun n => .int (y n)) arcs)) → Same H H' → Q (.ref q) H'
def spApartN (C : Addr) : Sp := fun vs H Q _ => ∃ (x kn : Addr) (arcs : NtT) (A : Addr → Prop) (ks : List Str) (e : Str × ArT), vs = [.ref x, .ref kn, .str e.1] ∧ NetA A H C x arcs ∧ NtOk arcs ∧ KnA H kn arcs ks ∧ e ∈ arcs ∧
  (Told arcs ks e → ∀ H', Same H H' → Q .non H') ∧ (¬ Told arcs ks e → ∀ H' t f g (y1 y2 : Str → Int), H t = none → H f = none → H g = none → H' t = some (.tup [.ref f, .ref g]) → H' f = some (.dK (valD (fun n => .int (y1 n)) arcs)) → H' g = some (.dK (valD (fun n => .int (y2 n)) arcs)) → Same H H' → Q (.ref t) H')
abbrev NFi : List Str := ["net", "arcs", "world", "name", "start", "end", "ring"]
theorem scFi : FnScope NFi ["net"] (defScope sFilled) := ⟨rfl, rfl, rfl, by decide +kernel, rfl, by decide +kernel, by decide +kernel⟩
theorem scAp : FnScope ["self", "known", "asked", "filled"] ["self", "known", "asked"] (defScope sApart) := ⟨rfl, rfl, rfl, by decide +kernel, rfl, by decide +kernel, by decide +kernel⟩
theorem live_arc {arcs : NtT} {n : Str} (h : n ∈ liveL arcs) : ∃ e ∈ arcs, e.1 = n ∧ Reach (edgesOf arcs) e.2.2 e.2.1 := by
  unfold liveL at h
  obtain ⟨e, he, rfl⟩ := List.mem_map.mp h
  obtain ⟨h1, h2⟩ := List.mem_filter.mp he
  exact ⟨e, h1, rfl, liveB_iff.mp h2⟩
section
variable {P : Program} {w : World} {K : PySem.W.Frag} {mg : Str → Option Value} {base : Heap} {f C fA fM fO fW fS fR fT fX fF : Addr} {fd fdA fdM fdO fdW fdS fdR fdT fdX fdF : FuncData} {ca : Str → Addr}
theorem ok_fill (F : Fun K "filled_world" "filled_world" sFilled f fd) (L : NtC P w K mg base C ca) (mA : Meth K C "arcs" fA) (GA : FnOk P w K mg base CX0 1 fA fdA ["self"] (spNArcs C)) (bA : Binds K fdA ["self"] []) (mM : Meth K C "home" fM) (GM : FnOk P w K mg base CX0 1 fM fdM ["self"] (spNHome C)) (bM : Binds K fdM ["self"] [])
    (FO' : Fun K "onward" "onward" sOnward fO fdO) (gO : mg "onward" = some (.ref fO)) (FW : Fun K "way_to" "way_to" sWayTo fW fdW) (gW : mg "way_to" = some (.ref fW)) (FS : Fun K "shifted" "shifted" sShifted fS fdS) (gS : mg "shifted" = some (.ref fS)) : FnOk P w K mg base CX0 2 f fd ["net"] (spFill C) := by
  obtain ⟨fR, fdR, gR, kR, bR, GR⟩ := L.rc
  obtain ⟨fV, fdV, mV, bV, GV⟩ := L.live
  have GO : FnOk P w K mg base CX0 1 fO fdO ["arcs", "names"] (fun vs H Q E => spStp onS vs H Q E ∨ spOnw vs H Q E) := fn_either (ok_onL FO') (ok_onw FO')
  have bO := FO'.binds (ps := ["arcs", "names"]) fun _ _ _ _ _ _ us hl => match us, hl with | [_, _], _ => rfl
  have GW : FnOk P w K mg base CX0 1 fW fdW ["found", "node"] (spWayTo K) := ok_wayTo FW
  have bW := FW.binds (ps := ["found", "node"]) fun _ _ _ _ _ _ us hl => match us, hl with | [_, _], _ => rfl
  have GS : FnOk P w K mg base CX0 1 fS fdS ["world", "ring", "much"] spShift := ok_shift FS
  have bS := FS.binds (ps := ["world", "ring", "much"]) fun _ _ _ _ _ _ us hl => match us, hl with | [_, _, _], _ => rfl
  refine F.ok scFi (fun vs H Q E h => by obtain ⟨x, arcs, A, e, _⟩ := h; rw [e]; rfl) fun cdv A outer s H vs Q E hr hsp => ?_
  obtain ⟨x, arcs, A0, rfl, hx, nok, hq⟩ := hsp
  have nd := scFi.nd
  have hu := hu_of hr
  refine ⟨_, pss_cons (ps_par (i := 1) (j := 2) rfl nd rfl rfl (by decide) rfl rfl (pa_cons (pe_meth0 (pv 0) L.S.cl mA GA hr bA .nil pass0) (pa_cons (pe_meth0 (pv 0) L.S.cl mM GM hr bM .nil pass0) pa_nil)) (by rfl))
    (pss_cons (ps_for PassesOwn.never rfl (pi_list (pe_meth0 (pv 0) L.S.cl mV GV hr bV .nil pass0)) (pg_name (i := 3) nd rfl (Or.inl rfl))
      (pss_cons (ps_asg (pe_dget hu (pv 1) (pv 3) (fun _ _ => rfl)) (pg_tup (n := 2) rfl (pgs_cons (pg_name (i := 4) nd rfl (Or.inl rfl)) (pgs_cons (pg_name (i := 5) nd rfl (Or.inl rfl)) pgs_nil))))
      (pss_cons (ps_set (i := 6) nd rfl (Or.inl rfl) (pe_op op_cat (pe_call GO hr rfl gO FO'.kp bO .nil pass0 (pa_cons (pv 1) (pa_cons (pe_lst (pa_cons (pv 3) pa_nil)) pa_nil)))
        (pe_call GW hr rfl gW FW.kp bW .nil pass0 (pa_cons (pe_call GR hr rfl gR kR bR .nil pass0 (pa_cons (pe_call GO hr rfl gO FO'.kp bO .nil pass0 (pa_cons (pv 1) (pa_cons (pv 1) pa_nil))) (pa_cons (pv 5) pa_nil))) (pa_cons (pv 4) pa_nil)))))
      (pss_one (ps_set (i := 2) nd rfl (Or.inl rfl) (pe_call GS hr rfl gS FS.kp bS .nil pass0 (pa_cons (pv 2) (pa_cons (pv 6) (pa_cons pe_int pa_nil)))))))))
    (pss_one (ps_ret (pv 2)))), ?_⟩
  have sh := nok.n1
  obtain ⟨dx, _, _, _, h1, _⟩ := id hx.ex
  refine ⟨_, rfl, x, dx, _, rfl, h1, rfl, x, arcs, A0, rfl, hx, by omega, fun H1 D nD at1 k1 => ?_⟩
  refine ⟨_, rfl, x, dx, _, rfl, k1 _ _ h1, rfl, x, arcs, A0, rfl, hx.same k1, by omega, fun H2 W nW oW k2 => ⟨_, _, rfl, ?_⟩⟩
  have k02 := k1.trans k2
  have at2 : PyD.at_ (fun b => b = D ∨ A0 b) H2 (.ref D) (Dc.mk arcs) := PyD.kp at1 fun b o a e => ⟨a, k2 _ _ e⟩
  have nW0 : H W = none := by
    cases z : H W with
    | none => rfl
    | some o => rw [k1 _ _ z] at nW; cases nW
  refine ⟨_, rfl, x, dx, _, rfl, k02 _ _ h1, rfl, x, arcs, A0, rfl, hx.same k02, fun H3 q nq oq k3 => ?_⟩
  have k03 := k02.trans k3
  have at3 := PyD.kp at2 (A' := fun b => b = D ∨ A0 b) fun b o a e => ⟨a, k3 _ _ e⟩
  refine ⟨q, rfl, ⟨_, SqL.of oq⟩, for_list (xs := (liveL arcs).map V.str) (fun j σ H' => ∃ (W' : Addr) (y : Str → Int) (s3 s4 s5 s6 : Option V), σ = [some (.ref x), some (.ref D), some (.ref W'), s3, s4, s5, s6] ∧ H W' = none ∧ H' W' = some (.dK (valD (fun n => .int (y n)) arcs)) ∧ Same H3 H')
    ⟨W, fun _ => 0, _, _, _, _, rfl, nW0, k3 _ _ oW, Same.refl _⟩ (fun j σ H' _ h => by obtain ⟨_, _, _, _, _, _, _, _, _, k⟩ := h; exact SqL.of (k _ _ oq)) ?_ ?_⟩
  · rintro j v σ H4 ev ⟨W', y, s3, s4, s5, s6, rfl, nW', oW', k4⟩
    rw [List.getElem?_map] at ev
    obtain ⟨n, en, rfl⟩ := Option.map_eq_some_iff.mp ev
    obtain ⟨e, he, rfl, re⟩ := live_arc (List.mem_of_getElem? en)
    have at4 := PyD.kp at3 (A' := fun b => b = D ∨ A0 b) fun b o a e => ⟨a, k4 _ _ e⟩
    obtain ⟨es, t0, oD, ev0, _, ot⟩ := arc_at at4 he
    refine ⟨_, rfl, _, rfl, D, _, rfl, .inl ⟨es, Sum.inr e.1, .inl oD, rfl, ev0.symm⟩, t0, _, rfl, SqT.of ot, rfl, _, _, rfl, _, _, rfl, rfl, ?_⟩
    refine ⟨_, rfl, _, rfl, (by show 1 ≤ sizeLine; decide), fun p np => ?_⟩
    have kp := same_new (o := .lst [.str e.1]) np
    refine .inl ⟨D, p, arcs, [e], _, rfl, PyD.kp at4 (fun b o a e => ⟨a, kp _ _ e⟩), upd_same, fun e' h => by rw [List.mem_singleton.mp h]; exact he, by show 1 < 1000; decide, fun H5 r1 ts1 n1 o1 p1 k5 => ?_⟩
    have k45 := kp.trans k5
    refine ⟨_, rfl, _, rfl, .inr ⟨D, arcs, _, rfl, PyD.kp at4 (fun b o a e => ⟨a, k45 _ _ e⟩), by omega, fun H6 r2 ts2 n2 o2 p2 k6 => ?_⟩⟩
    have p2' : Paired (StepA H6) ts2 (arcs.map onS) := step_map p2
    refine ⟨_, rfl, r2, e.2.2, ts2, arcs.map onS, rfl, o2, p2', by rw [List.length_map]; omega, fun H7 FD es7 F7 n7 o7 p7 FO mem k7 => ?_⟩
    have lF := reach_short FO
    rw [List.length_map] at lF
    have ee : (arcs.map onS).map edgS = edgesOf arcs := by rw [List.map_map]; rfl
    have m7 : e.2.1 ∈ F7.map (·.1) := (mem e.2.1).mpr (by rw [ee]; exact re)
    refine ⟨_, rfl, FD, e.2.1, e.2.2, es7, F7, arcs.map onS, rfl, o7, p7, FO, m7, by omega, fun H8 r4 ts4 Wy n8 o8 p8 sW lW k8 => ?_⟩
    have k58 := (k6.trans k7).trans k8
    have l1 := Paired.length p1
    have l8 := Paired.length p8
    have l1' : ts1.length = 1 := by rw [l1]; rfl
    refine ⟨r1, r4, _, _, rfl, rfl, k58 _ _ o1, o8, by rw [List.length_map, List.length_map, sizeLine_eq]; omega, fun r nr => ?_⟩
    have k9 := same_new (o := .lst (ts1.map V.ref ++ ts4.map V.ref)) nr
    have k49 := (k45.trans k58).trans k9
    have sg : ∀ s ∈ [e].map onS ++ Wy, s.2.1 = 1 ∨ s.2.1 = -1 := fun s hs => by
      rcases List.mem_append.mp hs with h | h
      · obtain ⟨e', _, rfl⟩ := List.mem_map.mp h
        exact .inl rfl
      · obtain ⟨e', _, rfl⟩ := List.mem_map.mp (sW s h)
        exact .inl rfl
    refine ⟨_, rfl, _, rfl, W', r, arcs, y, ts1 ++ ts4, [e].map onS ++ Wy, rfl, k49 _ _ oW', nok.nd, by omega, by rw [upd_same, List.map_append], paired_appR (Paired.mapP p1 fun t s h => (k58.trans k9) _ _ h) (Paired.mapP p8 fun t s h => k9 _ _ h), by rw [List.length_append]; show 1 + _ < _; omega, sg, fun H10 W2 y2 nW2 oW2 k10 => ?_⟩
    refine ⟨W2, y2, _, _, _, _, rfl, ?_, oW2, (k4.trans k49).trans k10⟩
    cases z : H W2 with
    | none => rfl
    | some o => rw [((k03.trans k4).trans k49) _ _ z] at nW2; cases nW2
  · rintro σ H4 ⟨W', y, s3, s4, s5, s6, rfl, nW', oW', k4⟩
    exact ⟨_, rfl, hq H4 W' y nW' oW' (k03.trans k4)⟩
theorem ok_apartN (F : Fun K "apart" "Net.apart" sApart f fd) (L : NtC P w K mg base C ca) (mT : Meth K C "is_told" fT) (GT : FnOk P w K mg base CX0 5 fT fdT ["self", "known", "asked"] (spTold C)) (bT : Binds K fdT ["self", "known", "asked"] []) (mO : Meth K C "_others" fO) (GO : FnOk P w K mg base CX0 3 fO fdO ["self", "known", "asked"] (spOth C)) (bO : Binds K fdO ["self", "known", "asked"] [])
    (FX : Fun K "filled_world" "filled_world" sFilled fX fdX) (gX : mg "filled_world" = some (.ref fX)) (GX : FnOk P w K mg base CX0 2 fX fdX ["net"] (spFill C)) (FR : Fun K "ring_through" "ring_through" sRing fR fdR) (gR : mg "ring_through" = some (.ref fR)) (GR : FnOk P w K mg base CX0 3 fR fdR ["arcs", "names", "asked"] spRing) (FS : Fun K "shifted" "shifted" sShifted fS fdS) (gS : mg "shifted" = some (.ref fS)) : FnOk P w K mg base CX0 6 f fd ["self", "known", "asked"] (spApartN C) := by
  have bX := FX.binds (ps := ["net"]) fun _ _ _ _ _ _ us hl => match us, hl with | [_], _ => rfl
  have bR := FR.binds (ps := ["arcs", "names", "asked"]) fun _ _ _ _ _ _ us hl => match us, hl with | [_, _, _], _ => rfl
  have GS : FnOk P w K mg base CX0 1 fS fdS ["world", "ring", "much"] spShift := ok_shift FS
  have bS := FS.binds (ps := ["world", "ring", "much"]) fun _ _ _ _ _ _ us hl => match us, hl with | [_, _, _], _ => rfl
  refine F.ok scAp (fun vs H Q E h => by obtain ⟨x, kn, arcs, A, ks, e, e', _⟩ := h; rw [e']; rfl) fun cdv A outer s H vs Q E hr hsp => ?_
  obtain ⟨x, kn, arcs, A0, ks, e, rfl, hx, nok, ka, he, hq1, hq2⟩ := hsp
  have nd := scAp.nd
  refine ⟨_, pss_cons (ps_if (pt_val (pe_meth (pv 0) L.S.cl mT GT hr bT .nil pass0 (pa_cons (pv 1) (pa_cons (pv 2) pa_nil)))) (pss_one (ps_ret pe_non)) pss_nil)
    (pss_cons (ps_set (i := 3) nd rfl (Or.inl rfl) (pe_call GX (hr.mono (by decide)) rfl gX FX.kp bX .nil pass0 (pa_cons (pv 0) pa_nil)))
    (pss_one (ps_ret (pe_tup (pa_cons (pv 3) (pa_cons (pe_call GS (hr.mono (by decide)) rfl gS FS.kp bS .nil pass0 (pa_cons (pv 3) (pa_cons (pe_call GR (hr.mono (by decide)) rfl gR FR.kp bR .nil pass0 (pa_cons (pe_fld (pv 0) rfl) (pa_cons (pe_meth (pv 0) L.S.cl mO GO (hr.mono (by decide)) bO .nil pass0 (pa_cons (pv 1) (pa_cons (pv 2) pa_nil))) (pa_cons (pv 2) pa_nil)))) (pa_cons pe_int pa_nil)))) pa_nil)))))), ?_⟩
  have sh := nok.n1
  obtain ⟨dx, D, _, _, h1, at_, _⟩ := id hx.ex
  refine ⟨_, rfl, x, dx, _, rfl, h1, rfl, _, rfl, _, rfl, x, kn, arcs, A0, ks, e, rfl, hx, nok, ka, he, fun H1 b hb k1 => ⟨_, rfl, ?_⟩⟩
  cases b with
  | true => exact iteT (hq1 (hb.mp rfl) H1 k1)
  | false =>
    have nt : ¬ Told arcs ks e := fun t => by cases hb.mpr t
    have re : Reach (eithE (othE arcs ks e.1)) e.2.2 e.2.1 := Classical.byContradiction fun c => nt (.inr c)
    refine iteF ⟨_, rfl, x, arcs, A0, rfl, hx.same k1, nok, fun H2 Fi y1 nF oF k2 => ?_⟩
    have k12 := k1.trans k2
    refine ⟨_, rfl, _, rfl, _, rfl, x, C, dx, _, _, rfl, k12 _ _ h1, L.S.cl, L.S.nA, rfl, ?_⟩
    refine ⟨_, rfl, x, dx, _, rfl, k12 _ _ h1, rfl, _, rfl, _, rfl, x, kn, arcs, A0, ks, e.1, rfl, hx.same k12, by omega, k12 _ _ ka.o, fun H3 q nq oq k3 => ?_⟩
    have k13 := k12.trans k3
    have lo := oth_len arcs ks e.1
    refine ⟨_, rfl, D, q, arcs, othE arcs ks e.1, A0, e, rfl, PyD.kp at_ (fun b o a e => ⟨a, k13 _ _ e⟩), oq, oth_sub, by omega, he, re, fun H4 r ts W or pr lW sg k4 => ?_⟩
    refine ⟨Fi, r, arcs, y1, ts, W, rfl, k4 _ _ (k3 _ _ oF), nok.nd, by omega, or, pr, lW, sg, fun H5 G y2 nG oG k5 => ?_⟩
    refine ⟨(by show 2 ≤ sizeLine; decide), fun t nt' => ?_⟩
    have kt := same_new (o := .tup [.ref Fi, .ref G]) nt'
    have k25 := (k3.trans k4).trans k5
    have low : ∀ {b : Addr} {G' : Hp}, Same H G' → G' b = none → H b = none := fun s n => by
      cases z : H _ with
      | none => rfl
      | some o => rw [s _ _ z] at n; cases n
    exact hq2 nt _ t Fi G y1 y2 (low (k12.trans k25) nt') (low k1 nF) (low (k13.trans k4) nG) upd_same (kt _ _ (k25 _ _ oF)) (kt _ _ oG) ((k12.trans k25).trans kt)
end
end L2.TB
/-! what some arcs lead into a side; what is cut -/
namespace L2.TB
open PySem PySem.Spec PyProof.Rows LamX
def spInwL (K : PySem.W.Frag) : Sp := fun vs H Q _ => ∃ (D q X sd : Addr) (arcs L : NtT) (A : Addr → Prop) (kvs : List (Key × V)) (S : List Str) (x : Str → Int), vs = [.ref D, .ref q, .ref X, .ref sd] ∧ PyD.at_ A H (.ref D) (Dc.mk arcs) ∧ H q = some (.lst ((L.map (·.1)).map V.str)) ∧ (∀ e ∈ L, e ∈ arcs) ∧ L.length < 1000 ∧ H X = some (.dK kvs) ∧ (∀ e ∈ L, valV kvs (Sum.inr e.1) = some (.int (x e.1))) ∧ SqA K H sd (S.map V.str) ∧ ∀ H', Same H H' → Q (.int (inwL x S L)) H'
def cutB (S : List Str) (e : Str × ArT) : Bool := !decide (decide (e.2.1 ∈ S) = decide (e.2.2 ∈ S))
def spCut (K : PySem.W.Frag) (C : Addr) : Sp := fun vs H Q _ => ∃ (x sd : Addr) (arcs : NtT) (A : Addr → Prop) (S : List Str) (e : Str × ArT), vs = [.ref x, .str e.1, .ref sd] ∧ NetA A H C x arcs ∧ e ∈ arcs ∧ SqA K H sd (S.map V.str) ∧ Q (.bl (cutB S e)) H
theorem scCu : FnScope ["self", "name", "side", "start", "end"] ["self", "name", "side"] (defScope sIsCut) := ⟨rfl, rfl, rfl, by decide +kernel, rfl, by decide +kernel, by decide +kernel⟩
section
variable {P : Program} {w : World} {K : PySem.W.Frag} {mg : Str → Option Value} {base : Heap} {f C : Addr} {fd : FuncData}
theorem ok_inwL (F : Fun K "inward" "inward" sInward f fd) : FnOk P w K mg base CX0 1 f fd ["arcs", "names", "answers", "side"] (spInwL K) := by
  refine F.ok scInw (fun vs H Q E h => by obtain ⟨D, q, X, sd, arcs, L, A, kvs, S, x, e, _⟩ := h; rw [e]; rfl) fun cdv A outer s H vs Q E hr hsp => ?_
  obtain ⟨D, q, X, sd, arcs, L, A0, kvs, S, x, rfl, at_, oq, sub, sh, oX, xv, osd, hq⟩ := hsp
  have nd := scInw.nd
  have hu := hu_of hr
  refine ⟨_, pss_cons (ps_set (i := 4) nd rfl (Or.inl rfl) pe_int)
    (pss_cons (ps_for PassesOwn.never rfl (pi_list (pv 1)) (pg_name (i := 5) nd rfl (Or.inl rfl))
      (pss_cons (ps_asg (pe_dget hu (pv 0) (pv 5) (fun _ _ => rfl)) (pg_tup (n := 2) rfl (pgs_cons (pg_name (i := 6) nd rfl (Or.inl rfl)) (pgs_cons (pg_name (i := 7) nd rfl (Or.inl rfl)) pgs_nil))))
      (pss_cons (ps_if (PW.pt (pw_and (pt_cmpR op_in_seq (pv 7) (pv 3) rfl) (pw_and1 (pt_cmpR op_notIn_seq (pv 6) (pv 3) rfl)))) (pss_one (ps_aug (i := 4) nd rfl (Or.inl rfl) (pe_dget hu (pv 2) (pv 5) (fun _ _ => rfl)) ip_add)) pss_nil)
      (pss_one (ps_if (PW.pt (pw_and (pt_cmpR op_in_seq (pv 6) (pv 3) rfl) (pw_and1 (pt_cmpR op_notIn_seq (pv 7) (pv 3) rfl)))) (pss_one (ps_aug (i := 4) nd rfl (Or.inl rfl) (pe_dget hu (pv 2) (pv 5) (fun _ _ => rfl)) ip_sub)) pss_nil)))))
    (pss_one (ps_ret (pv 4)))), ?_⟩
  refine ⟨_, rfl, q, rfl, ⟨_, SqL.of oq⟩, for_list (xs := (L.map (·.1)).map V.str) (fun i σ H' => Same H H' ∧ ∃ s5 s6 s7, σ = [some (.ref D), some (.ref q), some (.ref X), some (.ref sd), some (.int (inwL x S (L.take i))), s5, s6, s7])
    ⟨Same.refl _, _, _, _, rfl⟩ (fun i σ H' _ h => SqL.of (h.1 _ _ oq)) ?_ ?_⟩
  · rintro i y σ H3 ey ⟨k2, s5, s6, s7, rfl⟩
    rw [List.getElem?_map, List.getElem?_map] at ey
    obtain ⟨n, en, rfl⟩ := Option.map_eq_some_iff.mp ey
    obtain ⟨e, ee, rfl⟩ := Option.map_eq_some_iff.mp en
    obtain ⟨es, t0, oD, ev0, _, ot⟩ := arc_at at_ (sub e (List.mem_of_getElem? ee))
    have ox3 := k2 _ _ oX
    have os3 := (osd.same k2).seq
    have ev := xv e (List.mem_of_getElem? ee)
    have dgx : DGet H3 X (.str e.1) (some (.int (x e.1))) := .inl ⟨kvs, Sum.inr e.1, .inl ox3, rfl, ev.symm⟩
    refine ⟨_, rfl, _, rfl, D, _, rfl, .inl ⟨es, Sum.inr e.1, .inl (k2 _ _ oD), rfl, ev0.symm⟩, t0, _, rfl, SqT.of (k2 _ _ ot), rfl, _, _, rfl, _, _, rfl, rfl, ?_⟩
    have et := inwL_take x S ee
    have fin : ∀ z : Int, z = inwL x S (L.take (i + 1)) → ∃ s5 s6 s7, [some (V.ref D), some (.ref q), some (.ref X), some (.ref sd), some (.int z), some (.str e.1), some (.str e.2.1), some (.str e.2.2)] = [some (V.ref D), some (.ref q), some (.ref X), some (.ref sd), some (.int (inwL x S (L.take (i + 1)))), s5, s6, s7] := fun z e => by rw [e]; exact ⟨_, _, _, rfl⟩
    refine ⟨_, rfl, _, rfl, sd, _, rfl, os3, rfl, flat_strs S, ?_⟩
    rw [inV_strs]
    by_cases c1 : e.2.2 ∈ S
    · refine ⟨_, rfl, ?_⟩
      rw [decide_eq_true c1]
      refine iteT ⟨_, rfl, _, rfl, sd, _, rfl, os3, rfl, flat_strs S, ?_⟩
      rw [inV_strs]
      by_cases c2 : e.2.1 ∈ S
      · refine ⟨_, rfl, ?_⟩
        rw [decide_eq_true c2]
        refine iteF ⟨_, rfl, _, rfl, sd, _, rfl, os3, rfl, flat_strs S, ?_⟩
        rw [inV_strs]
        refine ⟨_, rfl, ?_⟩
        rw [decide_eq_true c2]
        refine iteT ⟨_, rfl, _, rfl, sd, _, rfl, os3, rfl, flat_strs S, ?_⟩
        rw [inV_strs]
        refine ⟨_, rfl, ?_⟩
        rw [decide_eq_true c1]
        refine iteF ⟨k2, fin _ ?_⟩
        rw [et, if_neg (fun z => z.2 c2), if_neg (fun z => z.2 c1)]; omega
      · refine ⟨_, rfl, ?_⟩
        rw [decide_eq_false c2]
        refine iteT ⟨_, rfl, _, rfl, _, rfl, X, _, rfl, dgx, _, _, rfl, rfl, ?_⟩
        refine ⟨_, rfl, _, rfl, sd, _, rfl, os3, rfl, flat_strs S, ?_⟩
        rw [inV_strs]
        refine ⟨_, rfl, ?_⟩
        rw [decide_eq_false c2]
        refine iteF ⟨k2, fin _ ?_⟩
        rw [et, if_pos ⟨c1, c2⟩, if_neg (fun z => c2 z.1)]; show inwL x S (L.take i) + x e.1 = _; omega
    · refine ⟨_, rfl, ?_⟩
      rw [decide_eq_false c1]
      refine iteF ⟨_, rfl, _, rfl, sd, _, rfl, os3, rfl, flat_strs S, ?_⟩
      rw [inV_strs]
      by_cases c2 : e.2.1 ∈ S
      · refine ⟨_, rfl, ?_⟩
        rw [decide_eq_true c2]
        refine iteT ⟨_, rfl, _, rfl, sd, _, rfl, os3, rfl, flat_strs S, ?_⟩
        rw [inV_strs]
        refine ⟨_, rfl, ?_⟩
        rw [decide_eq_false c1]
        refine iteT ⟨_, rfl, _, rfl, _, rfl, X, _, rfl, dgx, _, _, rfl, rfl, k2, fin _ ?_⟩
        rw [et, if_neg (fun z => c1 z.1), if_pos ⟨c2, c1⟩]; show inwL x S (L.take i) - x e.1 = _; omega
      · refine ⟨_, rfl, ?_⟩
        rw [decide_eq_false c2]
        refine iteF ⟨k2, fin _ ?_⟩
        rw [et, if_neg (fun z => c1 z.1), if_neg (fun z => c2 z.1)]; omega
  · rintro σ H2 ⟨k2, s5, s6, s7, rfl⟩
    rw [show ((L.map (·.1)).map V.str).length = L.length by rw [List.length_map, List.length_map], List.take_length]
    exact ⟨_, rfl, hq _ k2⟩
theorem ok_cut (F : Fun K "_is_cut" "Net._is_cut" sIsCut f fd) (S0 : NetC K C) : FnOk P w K mg base CX0 1 f fd ["self", "name", "side"] (spCut K C) := by
  refine F.ok scCu (fun vs H Q E h => by obtain ⟨x, sd, arcs, A, S, e, e', _⟩ := h; rw [e']; rfl) fun cdv A outer s H vs Q E hr hsp => ?_
  obtain ⟨x, sd, arcs, A0, S, e, rfl, hx, he, hs, hq⟩ := hsp
  have nd := scCu.nd
  have hu := hu_of hr
  refine ⟨_, pss_cons (ps_asg (pe_dget hu (pe_fld (pv 0) rfl) (pv 1) (fun _ _ => rfl)) (pg_tup (n := 2) rfl (pgs_cons (pg_name (i := 3) nd rfl (Or.inl rfl)) (pgs_cons (pg_name (i := 4) nd rfl (Or.inl rfl)) pgs_nil))))
    (pss_one (ps_ret (pe_cmpR op_ne (pe_cmpR op_in_seq (pv 3) (pv 2) rfl) (pe_cmpR op_in_seq (pv 4) (pv 2) rfl) (nomark _)))), ?_⟩
  obtain ⟨dx, D, _, _, h1, at_, _⟩ := hx.ex
  obtain ⟨es, t0, oD, ev0, _, ot⟩ := arc_at at_ he
  have hs' := hs.seq
  refine ⟨_, rfl, x, C, dx, _, _, rfl, h1, S0.cl, S0.nA, rfl, _, rfl, D, _, rfl, .inl ⟨es, Sum.inr e.1, .inl oD, rfl, ev0.symm⟩, t0, _, rfl, SqT.of ot, rfl, _, _, rfl, _, _, rfl, rfl, ?_⟩
  refine ⟨_, rfl, _, rfl, sd, _, rfl, hs', rfl, flat_strs S, ?_⟩
  rw [if_neg Bool.false_ne_true, inV_strs]
  refine ⟨_, rfl, _, rfl, sd, _, rfl, hs', rfl, flat_strs S, ?_⟩
  rw [if_neg Bool.false_ne_true, inV_strs]
  have e2 : (!decide (V.bl (decide (e.2.1 ∈ S)) = V.bl (decide (e.2.2 ∈ S)))) = cutB S e := by
    unfold cutB
    have z : decide (V.bl (decide (e.2.1 ∈ S)) = V.bl (decide (e.2.2 ∈ S))) = decide (decide (e.2.1 ∈ S) = decide (e.2.2 ∈ S)) := decide_eq_decide.mpr ⟨fun h => V.bl.inj h, fun h => congrArg V.bl h⟩
    rw [z]
  refine ⟨rfl, ?_⟩
  rw [e2]
  exact hq
end
end L2.TB
/-! a net: is_plan of anything -/
namespace L2.TB
open PySem PySem.Spec PyProof.Rows LamX
/-- what may be a plan -/
inductive PlTh (K : PySem.W.Frag) (H : Hp) (arcs : NtT) : V → Option (List Str) → Prop
  | no {th : V} {i : Nat} (h : Bad K H (nodesL arcs) th (some i)) : PlTh K H arcs th none
  | yes {a : Addr} {S : List Str} (h : SqA K H a (S.map V.str)) (nd : S.Nodup) (sub : ∀ n ∈ S, n ∈ nodesL arcs) : PlTh K H arcs (.ref a) (some S)
theorem PlTh.ext {K : PySem.W.Frag} {H H' : Hp} {arcs : NtT} {th : V} {o : Option (List Str)} (h : PlTh K H arcs th o) (s : ExtN H H') : PlTh K H' arcs th o := by
  cases h with
  | no h => exact .no (h.ext s)
  | yes h nd sub => exact .yes (sq_ext h s) nd sub
theorem PlTh.same {K : PySem.W.Frag} {H H' : Hp} {arcs : NtT} {th : V} {o : Option (List Str)} (h : PlTh K H arcs th o) (s : Same H H') : PlTh K H' arcs th o := h.ext (ExtN.of s)
noncomputable def planB (arcs : NtT) (ks : List Str) (e : Str × ArT) (S : List Str) : Bool := if givB arcs ks e.1 = true then decide (S.length = 0) else cutB S e && (othE arcs ks e.1).all fun o => !cutB S o
noncomputable def planO (arcs : NtT) (ks : List Str) (e : Str × ArT) : Option (List Str) → Bool
  | none => false
  | some S => planB arcs ks e S
def spIsPlN (K : PySem.W.Frag) (C : Addr) : Sp := fun vs H Q _ => ∃ (x kn : Addr) (arcs : NtT) (A : Addr → Prop) (ks : List Str) (e : Str × ArT) (th : V) (o : Option (List Str)), vs = [.ref x, .ref kn, .str e.1, th] ∧ NetA A H C x arcs ∧ NtOk arcs ∧ KnA H kn arcs ks ∧ e ∈ arcs ∧ PlTh K H arcs th o ∧ ∀ H', Same H H' → Q (.bl (planO arcs ks e o)) H'
abbrev NIp : List Str := ["self", "known", "asked", "thing", "name"]
theorem scIp : FnScope NIp ["self", "known", "asked", "thing"] (defScope sIsPlan) := ⟨rfl, rfl, rfl, by decide +kernel, rfl, by decide +kernel, by decide +kernel⟩
theorem nodes_len (arcs : NtT) : (nodesL arcs).length ≤ 2 * arcs.length := by
  have z := nodesF_len arcs []
  rw [List.length_nil] at z
  show (nodesF [] arcs).length ≤ _
  omega
theorem nodes_nd (arcs : NtT) : (nodesL arcs).Nodup := nodesF_nd arcs [] (by simp)
section
variable {P : Program} {w : World} {K : PySem.W.Frag} {mg : Str → Option Value} {base : Heap} {f C fF fO fG fT : Addr} {fd fdF fdO fdG fdT : FuncData} {ca : Str → Addr}
theorem ok_isPlN (F : Fun K "is_plan" "Net.is_plan" sIsPlan f fd) (L : NtC P w K mg base C ca) (mG : Meth K C "_is_given" fG) (GG : FnOk P w K mg base CX0 1 fG fdG ["self", "known", "asked"] (spGiv C)) (bG : Binds K fdG ["self", "known", "asked"] []) (mO : Meth K C "_others" fO) (GO : FnOk P w K mg base CX0 3 fO fdO ["self", "known", "asked"] (spOth C)) (bO : Binds K fdO ["self", "known", "asked"] [])
    (mT : Meth K C "_is_cut" fT) (GT : FnOk P w K mg base CX0 1 fT fdT ["self", "name", "side"] (spCut K C)) (bT : Binds K fdT ["self", "name", "side"] []) (FF : Fun K "first_bad" "first_bad" sFirst fF fdF) (gF : mg "first_bad" = some (.ref fF)) (GF : FnOk P w K mg base CX0 2 fF fdF ["names", "things"] (spFirstG K)) (nN : mg "len" = none) (nY : mg "any" = none) : FnOk P w K mg base CX0 5 f fd ["self", "known", "asked", "thing"] (spIsPlN K C) := by
  have bF := FF.binds (ps := ["names", "things"]) fun _ _ _ _ _ _ us hl => match us, hl with | [_, _], _ => rfl
  obtain ⟨fB, fdB, gB, kB, bB, GB⟩ := L.ckB
  refine F.ok scIp (fun vs H Q E h => by obtain ⟨x, kn, arcs, A, ks, e, th, o, e', _⟩ := h; rw [e']; rfl) fun cdv A outer s H vs Q E hr hsp => ?_
  obtain ⟨x, kn, arcs, A0, ks, e, th, o, rfl, hx, nok, ka, he, pt, hq⟩ := hsp
  have nd := scIp.nd
  refine ⟨_, pss_cons (ps_expr (pe_call GB hr rfl gB kB bB .nil passN (pa_cons (pe_fld (pv 0) rfl) (pa_cons (pv 1) (pa_cons (pv 2) pa_nil)))))
    (pss_cons (ps_if (pt_cmp (pc_notN (pe_call GF (hr.mono (by decide)) rfl gF FF.kp bF .nil pass0 (pa_cons (pe_fld (pv 0) rfl) (pa_cons (pv 3) pa_nil))))) (pss_one (ps_ret pe_bl)) pss_nil)
    (pss_cons (ps_if (pt_val (pe_meth (pv 0) L.S.cl mG GG (hr.mono (by decide)) bG .nil pass0 (pa_cons (pv 1) (pa_cons (pv 2) pa_nil)))) (pss_one (ps_ret (pe_cmpR op_eq (pe_callB call_len rfl nN boot_len (pa_cons (pv 3) pa_nil)) pe_int (nomark _)))) pss_nil)
    (pss_cons (ps_if (pt_not (pt_val (pe_meth (pv 0) L.S.cl mT GT (hr.mono (by decide)) bT .nil pass0 (pa_cons (pv 2) (pa_cons (pv 3) pa_nil))))) (pss_one (ps_ret pe_bl)) pss_nil)
    (pss_one (ps_ret (pe_not (pe_callB (cr_any rfl) rfl nY boot_anyN (pa_cons (pe_lc (own := [("name", 4)]) (tt := tYes) (g := gName 4) (te := tMeth C "_is_cut" (spCut K C) [] E0 (tVar 0) (tCons (tVar 4) (tCons (tVar 3) tNil))) rfl nd (pi_list (pe_meth (pv 0) L.S.cl mO GO (hr.mono (by decide)) bO .nil pass0 (pa_cons (pv 1) (pa_cons (pv 2) pa_nil)))) (blkOk_by (N := NIp) (sc := defScope sIsPlan) (by decide +kernel)) (fun _ _ _ _ _ => pg_name (i := 4) nd rfl (Or.inl rfl)) (fun _ _ _ _ _ => pts_nil)
      (fun _ _ _ _ _ => pe_meth (pv 0) L.S.cl mT GT (hr.mono (by decide)) bT .nil pass0 (pa_cons (pv 4) (pa_cons (pv 3) pa_nil)))) pa_nil)))))))), ?_⟩
  have sh := nok.n1
  obtain ⟨dx, D, Nd, Lv, h1, at_, aN, oN, _⟩ := hx.ex
  obtain ⟨D', es, e1, aD, oD, rnd, pr⟩ := id at_
  obtain rfl := V.ref.inj e1
  refine ⟨_, rfl, x, C, dx, _, _, rfl, h1, L.S.cl, L.S.nA, rfl, _, rfl, _, rfl, D, arcs.map (·.1), _, _, _, rfl, .inl ⟨es, oD, dc_keys pr⟩, kna_bad (arcs := arcs) ka (by omega), .inr ⟨rfl, .inl ⟨e.1, rfl, List.mem_map_of_mem he, fun H1 k1 => ?_⟩⟩⟩
  have hx1 := hx.same k1
  have h11 := k1 _ _ h1
  have ln := nodes_len arcs
  refine ⟨_, rfl, x, C, dx, _, _, rfl, h11, L.S.cl, L.S.nN, rfl, _, rfl, ?_⟩
  cases pt with
  | @no th i h => exact ⟨Nd, _, _, _, rfl, .inr (k1 _ _ oN), h.same k1, fun H2 k2 => ⟨_, rfl, iteT (hq H2 (k1.trans k2))⟩⟩
  | @yes a S hs ndS sub =>
    have lS : S.length ≤ (nodesL arcs).length := nd_sub_len ndS sub
    have hb : Bad K H1 (nodesL arcs) (.ref a) none := by
      have z : Bad K H1 (nodesL arcs) (.ref a) (badAt (nodesL arcs) (S.map V.str) [] 0) := .seq (hs.same k1) (fun y hy e => by
        obtain ⟨s, _, rfl⟩ := List.mem_map.mp hy
        cases e) (by rw [List.length_map]; omega)
      rwa [bad_all sub ndS] at z
    refine ⟨Nd, _, _, _, rfl, .inr (k1 _ _ oN), hb, fun H2 k2 => ⟨_, rfl, iteF ?_⟩⟩
    have k12 := k1.trans k2
    have h12 := k12 _ _ h1
    have hx2 := hx.same k12
    have hs2 := hs.same k12
    refine ⟨_, rfl, x, dx, _, rfl, h12, rfl, _, rfl, _, rfl, x, kn, arcs, A0, ks, e.1, rfl, hx2, k12 _ _ ka.o, _, rfl, ?_⟩
    have hq : ∀ H', Same H H' → Q (.bl (planB arcs ks e S)) H' := hq
    unfold planB at hq
    cases g : givB arcs ks e.1 with
    | true =>
      rw [g, if_pos rfl] at hq
      refine iteT ⟨_, rfl, .ref a, S.length, rfl, ?_, ?_⟩
      · exact hs2.seq.imp (fun h => ⟨_, h, by rw [List.length_map]⟩) fun h => ⟨_, h, by rw [List.length_map]⟩
      · have z := hq H2 k12
        have ed : decide (V.int (S.length : Nat) = V.int 0) = decide (S.length = 0) := decide_eq_decide.mpr ⟨fun h => by have := V.int.inj h; omega, fun h => by rw [h]; rfl⟩
        exact ⟨rfl, by rw [ed]; exact z⟩
    | false =>
      rw [g, if_neg Bool.false_ne_true] at hq
      refine iteF ⟨_, rfl, x, dx, _, rfl, h12, rfl, _, rfl, _, rfl, x, a, arcs, A0, S, e, rfl, hx2, he, hs2, _, rfl, ?_⟩
      cases c : cutB S e with
      | false =>
        rw [c, Bool.false_and] at hq
        exact iteT (hq H2 k12)
      | true =>
        rw [c, Bool.true_and] at hq
        refine iteF ⟨_, rfl, x, dx, _, rfl, h12, rfl, _, rfl, _, rfl, x, kn, arcs, A0, ks, e.1, rfl, hx2, by omega, k12 _ _ ka.o, fun H3 q nq oq k3 => ⟨q, rfl, ⟨_, SqL.of oq⟩, ?_⟩⟩
        have k13 := k12.trans k3
        have lo := oth_len arcs ks e.1
        have ll : (((othE arcs ks e.1).map (·.1)).map V.str).length = (othE arcs ks e.1).length := by rw [List.length_map, List.length_map]
        refine lc_gen (((othE arcs ks e.1).map fun o => cutB S o).map V.bl) (by rw [List.length_map, List.length_map]; omega) (fun i H' s lt => ⟨_, _, SqL.of (s _ _ oq), List.getElem?_eq_getElem (by rw [List.length_map, List.length_map] at lt; rw [ll]; exact lt)⟩) (fun H' s => ⟨_, SqL.of (s _ _ oq), by rw [ll, List.length_map, List.length_map]; exact Nat.le_refl _⟩) ?_ ?_
        · rintro i y b0 H5 H6 Cn Nn eb s5 ⟨rfl, ev⟩ yes
          have ev := ev _ (SqL.of (s5 _ _ oq))
          rw [List.getElem?_map, List.getElem?_map] at ev
          obtain ⟨n, en, rfl⟩ := Option.map_eq_some_iff.mp ev
          obtain ⟨e2, ee, rfl⟩ := Option.map_eq_some_iff.mp en
          rw [List.getElem?_map, List.getElem?_map, ee] at eb
          obtain rfl := Option.some.inj eb
          have k15 := k13.trans s5
          exact ⟨rfl, _, rfl, x, dx, _, rfl, k15 _ _ h1, rfl, _, rfl, _, rfl, x, a, arcs, A0, S, e2, rfl, hx.same k15, oth_sub e2 (List.mem_of_getElem? ee), hs.same k15, yes _ (Same.refl _)⟩
        · intro H5 q2 nq2 oq2 s5
          refine ⟨q2, _, rfl, SqL.of oq2, _, rfl, ?_⟩
          have z := hq H5 (k13.trans s5)
          have ez : ∀ l : NtT, (l.all fun o => !cutB S o) = !((l.map fun o => cutB S o).any id) := fun l => by
            induction l with
            | nil => rfl
            | cons b r ih =>
              rw [List.all_cons, List.map_cons, List.any_cons, ih, Bool.not_or]
              rfl
          rw [ez] at z
          exact z
end
end L2.TB
/-! what refuses a world or answers at hand -/
namespace L2.TB
open PySem PySem.Spec PyProof.Rows LamX
theorem fn_up {P : Program} {w : World} {K : PySem.W.Frag} {mg : Str → Option Value} {base : Heap} {k : Nat} {f : Addr} {fd : FuncData} {ps : List Str} {sp : Sp} (h : FnOk P w K mg base CX0 k f fd ps sp) : FnOk P w K mg base (L2.CX P w) k f fd ps sp :=
  ⟨h.len, fun A outer s H args us vs Q E hr he hb hv hs => codeAny_mono (h.run A outer s H args us vs Q E hr he hb hv hs) fun rr z hq => by
    cases rr with
    | error e => exact hq.elim
    | ok fl => cases fl <;> exact hq⟩
theorem all_congrN {α : Type} {f g : α → Bool} : ∀ {l : List α}, (∀ x ∈ l, f x = g x) → l.all f = l.all g
  | [], _ => rfl
  | a :: l, h => by rw [List.all_cons, List.all_cons, h a List.mem_cons_self, all_congrN fun x hx => h x (List.mem_cons_of_mem _ hx)]
def hasB (kvs : List (Key × V)) (ks : List Str) : Bool := ks.all fun n => (valV kvs (Sum.inr n)).isSome
def cntsB (kvs : List (Key × V)) (ks : List Str) : Bool := ks.all fun n => match valV kvs (Sum.inr n) with
  | some v => cntB v
  | none => false
def spCkL (K : PySem.W.Frag) (CA : Addr) : Sp := fun vs H Q E => ∃ (kn : Addr) (ks : List Str) (v : V), vs = [.ref kn, v] ∧ H kn = some (.lst (ks.map V.str)) ∧ ks.length < 1000 ∧
  ((NoDict K H v ∧ Flies CA "thing" v H E) ∨ ∃ d kvs, v = .ref d ∧ H d = some (.dK kvs) ∧ ((hasB kvs ks = false ∧ Flies CA "thing" v H E) ∨ (hasB kvs ks = true ∧ ∀ H', Same H H' → Q .non H')))
/-- whether answers are counts for all known ones -/
inductive CnTh (K : PySem.W.Frag) (H : Hp) (ks : List Str) : V → Bool → Prop
  | no {v : V} (h : NoDict K H v) : CnTh K H ks v false
  | val {d : Addr} {kvs : List (Key × V)} (o : H d = some (.dK kvs)) (at_ : ∀ n ∈ ks, ∀ v, valV kvs (Sum.inr n) = some v → Atom v) : CnTh K H ks (.ref d) (cntsB kvs ks)
theorem CnTh.ext {K : PySem.W.Frag} {H H' : Hp} {ks : List Str} {v : V} {b : Bool} (h : CnTh K H ks v b) (s : ExtN H H') : CnTh K H' ks v b := by
  cases h with
  | no h => exact .no (let ⟨t, a, b⟩ := h; ⟨t, ty_ext a s, b⟩)
  | val o a => exact .val (s _ _ o (fun _ z => by cases z)) a
def spCkC (K : PySem.W.Frag) (CA : Addr) : Sp := fun vs H Q E => ∃ (kn : Addr) (ks : List Str) (v : V) (b : Bool), vs = [.ref kn, v] ∧ H kn = some (.lst (ks.map V.str)) ∧ ks.length < 1000 ∧ CnTh K H ks v b ∧ (b = false → Flies CA "thing" v H E) ∧ (b = true → ∀ H', Same H H' → Q .non H')
abbrev NCl : List Str := ["known", "answers", "name"]
theorem scCkL : FnScope NCl ["known", "answers"] (defScope sCkL) := ⟨rfl, rfl, rfl, by decide +kernel, rfl, by decide +kernel, by decide +kernel⟩
theorem scCkC : FnScope NCl ["known", "answers"] (defScope sCkC) := ⟨rfl, rfl, rfl, by decide +kernel, rfl, by decide +kernel, by decide +kernel⟩
theorem cnt_has {kvs : List (Key × V)} {ks : List Str} (h : hasB kvs ks = false) : cntsB kvs ks = false := by
  cases e : cntsB kvs ks with
  | false => rfl
  | true =>
    unfold hasB at h
    have h2 := List.all_eq_false.mp h
    obtain ⟨n, hn, h3⟩ := h2
    have z := List.all_eq_true.mp e n hn
    cases q : valV kvs (Sum.inr n) with
    | none => rw [q] at z; cases z
    | some v => rw [q] at h3; exact absurd rfl h3
section
variable {P : Program} {w : World} {K : PySem.W.Frag} {mg : Str → Option Value} {base : Heap} {f fL fC CA : Addr} {fd fdL fdC : FuncData}
theorem ok_ckL (F : Fun K "check_lacking" "check_lacking" sCkL f fd) (EA : ErrF P w K mg base "BadAnswers" CA "thing") (nI : mg "isinstance" = none) (nD : mg "dict" = none) (nA : mg "all" = none) : FnOk P w K mg base (L2.CX P w) 3 f fd ["known", "answers"] (spCkL K CA) := by
  refine F.okX scCkL (fun vs H Q E h => by obtain ⟨kn, ks, v, e, _⟩ := h; rw [e]; rfl) fun cdv A outer s H vs Q E hr hsp => ?_
  obtain ⟨kn, ks, v, rfl, ok, sh, hq⟩ := hsp
  have nd := scCkL.nd
  have hu := hu_of (hr.mono (show 1 ≤ 2 by decide))
  refine ⟨_, pss_one (ps_if (PW.pt (pw_or (pt_not (pt_val (pe_callB (r := rIsi K) call_isi rfl nI boot_isi (pa_cons (pv 1) (pa_cons (pe_bltn (v := .ty "dict") rfl nD boot_dict' rfl) pa_nil)))))
      (pw_or1 (pt_not (pt_val (pe_callB (cr_all rfl) rfl nA boot_allN (pa_cons (pe_lc (own := [("name", 2)]) (g := gName 2) (tt := tYes) rfl nd (pi_list (pv 0)) (blkOk_by (N := NCl) (sc := defScope sCkL) (by decide +kernel)) (fun _ _ _ _ _ => pg_name (i := 2) nd rfl (Or.inl rfl)) (fun _ _ _ _ _ => pts_nil)
        (fun _ _ _ _ _ => pe_cmp (pc_din hu (pv 2) (pv 1)))) pa_nil))))))) (pss_one (ps_raiseE rfl (takes_of rfl rfl rfl rfl) EA hr rfl (pv 1))) pss_nil), ?_⟩
  rcases hq with ⟨⟨t, h1, h2⟩, fl⟩ | ⟨d, kvs, rfl, od, hq⟩
  · exact ⟨_, rfl, _, _, _, _, false, rfl, .ty _, h1, kit_ty h2, _, rfl, iteT (iteT ⟨_, rfl, fl.up EA⟩)⟩
  · refine ⟨_, rfl, _, _, _, _, true, rfl, .ty _, .base (.dK od), kit_ty (by decide +kernel), _, rfl, iteF ?_⟩
    refine ⟨_, rfl, _, rfl, ⟨_, SqL.of ok⟩, ?_⟩
    refine lc_gen ((ks.map fun n => (valV kvs (Sum.inr n)).isSome).map V.bl) (by rw [List.length_map, List.length_map]; omega) (fun i H' s lt => ⟨_, _, SqL.of (s _ _ ok), List.getElem?_eq_getElem (by rw [List.length_map, List.length_map] at lt; rw [List.length_map]; exact lt)⟩) (fun H' s => ⟨_, SqL.of (s _ _ ok), by rw [List.length_map, List.length_map, List.length_map]; exact Nat.le_refl _⟩) ?_ ?_
    · rintro i y b0 H5 H6 Cn Nn eb s5 ⟨rfl, ev⟩ yes
      have ev := ev _ (SqL.of (s5 _ _ ok))
      rw [List.getElem?_map] at ev
      obtain ⟨n, en, rfl⟩ := Option.map_eq_some_iff.mp ev
      rw [List.getElem?_map, List.getElem?_map, en] at eb
      obtain rfl := Option.some.inj eb
      exact ⟨rfl, _, rfl, _, rfl, d, _, rfl, DGet.k (k := Sum.inr n) (s5 _ _ od), yes _ (Same.refl _)⟩
    · intro H5 q2 nq2 oq2 s5
      refine ⟨q2, _, rfl, SqL.of oq2, ?_⟩
      have e : hasB kvs ks = (ks.map fun n => (valV kvs (Sum.inr n)).isSome).all id := by
        unfold hasB
        rw [List.all_map]
        rfl
      rw [← e]
      rcases hq with ⟨hb, fl⟩ | ⟨hb, hq⟩
      · rw [hb]
        exact ⟨_, rfl, iteT ⟨_, rfl, (fl.same s5).up EA⟩⟩
      · rw [hb]
        exact ⟨_, rfl, iteF (hq _ s5)⟩
theorem ok_ckC (F : Fun K "check_counts" "check_counts" sCkC f fd) (FL : Fun K "check_lacking" "check_lacking" sCkL fL fdL) (gL : mg "check_lacking" = some (.ref fL)) (GL : FnOk P w K mg base (L2.CX P w) 3 fL fdL ["known", "answers"] (spCkL K CA)) (FC : Fun K "is_count" "is_count" sIsCount fC fdC) (gC : mg "is_count" = some (.ref fC)) (GC : FnOk P w K mg base CX0 2 fC fdC ["thing"] (spIsCountG K))
    (EA : ErrF P w K mg base "BadAnswers" CA "thing") (nA : mg "all" = none) : FnOk P w K mg base (L2.CX P w) 4 f fd ["known", "answers"] (spCkC K CA) := by
  have bL := FL.binds (ps := ["known", "answers"]) fun _ _ _ _ _ _ us hl => match us, hl with | [_, _], _ => rfl
  have bC := FC.binds (ps := ["thing"]) fun _ _ _ _ _ _ us hl => match us, hl with | [_], _ => rfl
  refine F.okX scCkC (fun vs H Q E h => by obtain ⟨kn, ks, v, b, e, _⟩ := h; rw [e]; rfl) fun cdv A outer s H vs Q E hr hsp => ?_
  obtain ⟨kn, ks, v, b, rfl, ok, sh, cn, fl, hq⟩ := hsp
  have nd := scCkC.nd
  have hu := hu_of (hr.mono (show 1 ≤ 3 by decide))
  refine ⟨_, pss_cons (ps_expr (pe_callS GL hr rfl gL FL.kp bL (fun σ => passAt (takes_of rfl rfl rfl rfl) σ) (pa_cons (pv 0) (pa_cons (pv 1) pa_nil))))
    (pss_one (ps_if (pt_not (pt_val (pe_callB (cr_all rfl) rfl nA boot_allN (pa_cons (pe_lc (own := [("name", 2)]) (g := gName 2) (tt := tYes) rfl nd (pi_list (pv 0)) (blkOk_by (N := NCl) (sc := defScope sCkC) (by decide +kernel)) (fun _ _ _ _ _ => pg_name (i := 2) nd rfl (Or.inl rfl)) (fun _ _ _ _ _ => pts_nil)
        (fun _ _ _ _ _ => pe_call GC (hr.mono (by decide)) rfl gC FC.kp bC .nil pass0 (pa_cons (pe_dget hu (pv 1) (pv 2) (fun _ _ => rfl)) pa_nil))) pa_nil)))) (pss_one (ps_raiseE rfl (takes_of rfl rfl rfl rfl) EA (hr.mono (by decide)) rfl (pv 1))) pss_nil)), ?_⟩
  refine ⟨_, rfl, _, rfl, kn, ks, v, rfl, ok, sh, ?_⟩
  cases cn with
  | no h => exact .inl ⟨h, fl rfl⟩
  | @val d kvs od at_ =>
    refine .inr ⟨d, kvs, rfl, od, ?_⟩
    cases hb : hasB kvs ks with
    | false => exact .inl ⟨rfl, fl (cnt_has hb)⟩
    | true =>
      refine .inr ⟨rfl, fun H1 k1 => ?_⟩
      refine ⟨_, rfl, _, rfl, ⟨_, SqL.of (k1 _ _ ok)⟩, ?_⟩
      have cv : ∀ n ∈ ks, ∃ v, valV kvs (Sum.inr n) = some v := fun n hn => Option.isSome_iff_exists.mp (List.all_eq_true.mp hb n hn)
      refine lc_gen ((ks.map fun n => cntB ((valV kvs (Sum.inr n)).getD .non)).map V.bl) (by rw [List.length_map, List.length_map]; omega) (fun i H' s lt => ⟨_, _, SqL.of (s _ _ (k1 _ _ ok)), List.getElem?_eq_getElem (by rw [List.length_map, List.length_map] at lt; rw [List.length_map]; exact lt)⟩) (fun H' s => ⟨_, SqL.of (s _ _ (k1 _ _ ok)), by rw [List.length_map, List.length_map, List.length_map]; exact Nat.le_refl _⟩) ?_ ?_
      · rintro i y b0 H5 H6 Cn Nn eb s5 ⟨rfl, ev⟩ yes
        have ev := ev _ (SqL.of (s5 _ _ (k1 _ _ ok)))
        rw [List.getElem?_map] at ev
        obtain ⟨n, en, rfl⟩ := Option.map_eq_some_iff.mp ev
        rw [List.getElem?_map, List.getElem?_map, en] at eb
        obtain rfl := Option.some.inj eb
        obtain ⟨u, eu⟩ := cv n (List.mem_of_getElem? en)
        have au := at_ n (List.mem_of_getElem? en) u eu
        refine ⟨rfl, _, rfl, _, rfl, d, _, rfl, .inl ⟨kvs, Sum.inr n, .inl (s5 _ _ (k1 _ _ od)), rfl, eu.symm⟩, u, rfl, ?_⟩
        have z := yes H6 (Same.refl _)
        have z : Cn (V.bl (cntB ((valV kvs (Sum.inr n)).getD .non))) H6 := z
        rw [eu] at z
        have z : Cn (V.bl (cntB u)) H6 := z
        rcases cnt_noInt (K := K) (H := H6) au with ⟨k, ek2⟩ | ⟨nn, ek2⟩
        · refine .inl ⟨k, ek2, ?_⟩
          rw [ek2] at z
          exact z
        · refine .inr ⟨nn, ?_⟩
          rw [ek2] at z
          exact z
      · intro H5 q2 nq2 oq2 s5
        refine ⟨q2, _, rfl, SqL.of oq2, ?_⟩
        have e : cntsB kvs ks = (ks.map fun n => cntB ((valV kvs (Sum.inr n)).getD .non)).all id := by
          unfold cntsB
          rw [List.all_map]
          refine all_congrN fun n hn => ?_
          obtain ⟨u, eu⟩ := cv n hn
          rw [eu]
          show cntB u = cntB (Option.getD (valV kvs (Sum.inr n)) .non)
          rw [eu]
          rfl
        rw [← e]
        have k5 := k1.trans s5
        cases hc : cntsB kvs ks with
        | false => exact ⟨_, rfl, iteT ⟨_, rfl, ((fl hc).same k5).up EA⟩⟩
        | true => exact ⟨_, rfl, iteF (hq hc _ k5)⟩
end
end L2.TB
/-! a net: found -/
namespace L2.TB
open PySem PySem.Spec PyProof.Rows LamX
noncomputable def knL (arcs : NtT) (ks : List Str) : NtT := arcs.filter fun e => liveB arcs e && decide (e.1 ∈ ks)
theorem knL_names (arcs : NtT) (ks : List Str) : (knL arcs ks).map (·.1) = (liveL arcs).filter fun n => decide (n ∈ ks) := by
  unfold knL liveL
  rw [List.filter_map, List.filter_filter]
  congr 1
  refine List.filter_congr fun e _ => ?_
  show (liveB arcs e && decide (e.1 ∈ ks)) = (decide (e.1 ∈ ks) && liveB arcs e)
  exact Bool.and_comm _ _
noncomputable def foundZ (arcs : NtT) (ks : List Str) (e : Str × ArT) (S : List Str) (x : Str → Int) : Int := if e.1 ∈ ks then x e.1 else if e.1 ∉ liveL arcs then 0 else if e.2.1 ∈ S then inwL x S (knL arcs ks) else - inwL x S (knL arcs ks)
def spFoundG (K : PySem.W.Frag) (C : Addr) : Sp := fun vs H Q _ => ∃ (x kn pl an : Addr) (arcs : NtT) (A : Addr → Prop) (ks : List Str) (e : Str × ArT) (S : List Str) (kvs : List (Key × V)) (z : Str → Int), vs = [.ref x, .ref kn, .str e.1, .ref pl, .ref an] ∧ NetA A H C x arcs ∧ NtOk arcs ∧ KnA H kn arcs ks ∧ e ∈ arcs ∧ SqA K H pl (S.map V.str) ∧ S.Nodup ∧ (∀ n ∈ S, n ∈ nodesL arcs) ∧ planB arcs ks e S = true ∧ H an = some (.dK kvs) ∧ (∀ n ∈ ks, valV kvs (Sum.inr n) = some (.int (z n)) ∧ 0 ≤ z n) ∧
  ∀ H', Same H H' → Q (.int (foundZ arcs ks e S z)) H'
/-- what refuses: the plan or the answers -/
inductive WhyF (K : PySem.W.Frag) (H : Hp) (arcs : NtT) (ks : List Str) (e : Str × ArT) : V → V → Rz → V → Prop
  | pl {th an : V} {o : Option (List Str)} (h : PlTh K H arcs th o) (b : planO arcs ks e o = false) : WhyF K H arcs ks e th an ⟨"BadPlan", "plan", "thing"⟩ th
  | an {th an : V} {o : Option (List Str)} (h : PlTh K H arcs th o) (b : planO arcs ks e o = true) (c : CnTh K H ks an false) : WhyF K H arcs ks e th an ⟨"BadAnswers", "answers", "thing"⟩ an
theorem WhyF.ext {K : PySem.W.Frag} {H H' : Hp} {arcs : NtT} {ks : List Str} {e : Str × ArT} {a b v : V} {r : Rz} (h : WhyF K H arcs ks e a b r v) (s : ExtN H H') : WhyF K H' arcs ks e a b r v := by
  cases h with
  | pl h b => exact .pl (h.ext s) b
  | an h b c => exact .an (h.ext s) b (c.ext s)
theorem WhyF.mem {K : PySem.W.Frag} {H : Hp} {arcs : NtT} {ks : List Str} {e : Str × ArT} {a b v : V} {r : Rz} (h : WhyF K H arcs ks e a b r v) : r ∈ rzT := by cases h <;> simp [rzT]
def spFoundX (K : PySem.W.Frag) (C : Addr) (ca : Str → Addr) : Sp := fun vs H Q E => ∃ (x kn : Addr) (th an : V) (arcs : NtT) (A : Addr → Prop) (ks : List Str) (e : Str × ArT) (r : Rz) (v : V), vs = [.ref x, .ref kn, .str e.1, th, an] ∧ NetA A H C x arcs ∧ NtOk arcs ∧ KnA H kn arcs ks ∧ e ∈ arcs ∧ WhyF K H arcs ks e th an r v ∧ Flies (ca r.x) r.fld v H E
abbrev NFd : List Str := ["self", "known", "asked", "plan", "answers", "more", "name"]
theorem scFd : FnScope NFd ["self", "known", "asked", "plan", "answers"] (defScope sFoundM) := ⟨rfl, rfl, rfl, by decide +kernel, rfl, by decide +kernel, by decide +kernel⟩
section
variable {P : Program} {w : World} {K : PySem.W.Frag} {mg : Str → Option Value} {base : Heap} {f C fP fN fI : Addr} {fd fdP fdN fdI : FuncData} {ca : Str → Addr}
theorem ok_foundG (F : Fun K "found" "Net.found" sFoundM f fd) (S0 : NetC K C) (mP : Meth K C "is_plan" fP) (GP : FnOk P w K mg base CX0 5 fP fdP ["self", "known", "asked", "thing"] (spIsPlN K C)) (bP : Binds K fdP ["self", "known", "asked", "thing"] []) (FN : Fun K "check_counts" "check_counts" sCkC fN fdN) (gN : mg "check_counts" = some (.ref fN)) (GN : FnOk P w K mg base (L2.CX P w) 4 fN fdN ["known", "answers"] (spCkC K (ca "BadAnswers")))
    (FI : Fun K "inward" "inward" sInward fI fdI) (gI : mg "inward" = some (.ref fI)) : FnOk P w K mg base CX0 6 f fd ["self", "known", "asked", "plan", "answers"] (spFoundG K C) := by
  have bN := FN.binds (ps := ["known", "answers"]) fun _ _ _ _ _ _ us hl => match us, hl with | [_, _], _ => rfl
  have GI : FnOk P w K mg base CX0 1 fI fdI ["arcs", "names", "answers", "side"] (spInwL K) := ok_inwL FI
  have bI := FI.binds (ps := ["arcs", "names", "answers", "side"]) fun _ _ _ _ _ _ us hl => match us, hl with | [_, _, _, _], _ => rfl
  refine F.ok scFd (fun vs H Q E h => by obtain ⟨x, kn, pl, an, arcs, A, ks, e, S, kvs, z, e', _⟩ := h; rw [e']; rfl) fun cdv A outer s H vs Q E hr hsp => ?_
  obtain ⟨x, kn, pl, an, arcs, A0, ks, e, S, kvs, z, rfl, hx, nok, ka, he, hs, ndS, sub, pb, oa, va, hq⟩ := hsp
  have nd := scFd.nd
  have hu := hu_of (hr.mono (show 1 ≤ 5 by decide))
  refine ⟨_, pss_cons (ps_if (pt_not (pt_val (pe_meth (pv 0) S0.cl mP GP hr bP .nil pass0 (pa_cons (pv 1) (pa_cons (pv 2) (pa_cons (pv 3) pa_nil)))))) (pss_one ps_never) pss_nil)
    (pss_cons (ps_expr (pe_call GN (hr.mono (by decide)) rfl gN FN.kp bN .nil passN (pa_cons (pv 1) (pa_cons (pv 4) pa_nil))))
    (pss_cons (ps_if (pt_cmpR op_in_seq (pv 2) (pv 1) rfl) (pss_one (ps_ret (pe_dget hu (pv 4) (pv 2) (fun _ _ => rfl)))) pss_nil)
    (pss_cons (ps_if (pt_cmpR op_notIn_seq (pv 2) (pe_fld (pv 0) rfl) rfl) (pss_one (ps_ret pe_int)) pss_nil)
    (pss_cons (ps_set (i := 5) nd rfl (Or.inl rfl) (pe_call GI (hr.mono (by decide)) rfl gI FI.kp bI .nil pass0 (pa_cons (pe_fld (pv 0) rfl) (pa_cons (pe_lc (own := [("name", 6)]) (tt := tTest (tOp (rIn K false) (tVar 6) (tVar 1))) (g := gName 6) (te := tVar 6) rfl nd (pi_list (pe_fld (pv 0) rfl)) (blkOk_by (N := NFd) (sc := defScope sFoundM) (by decide +kernel)) (fun _ _ _ _ _ => pg_name (i := 6) nd rfl (Or.inl rfl)) (fun _ _ _ _ _ => pts_one (pt_cmpR op_in_seq (pv 6) (pv 1) rfl)) (fun _ _ _ _ _ => pv 6)) (pa_cons (pv 4) (pa_cons (pv 3) pa_nil))))))
    (pss_one (ps_ret (pe_ifExp (pt_cmpR op_in_seq (pe_ix (r := rIx K) ix_seq (pe_dget hu (pe_fld (pv 0) rfl) (pv 2) (fun _ _ => rfl)) pe_int (fun _ _ => rfl)) (pv 3) rfl) (pv 5) (pe_un un_neg (pv 5))))))))), ?_⟩
  have sh := nok.n1
  obtain ⟨dx, D, Nd, Lv, h1, at_, aN, oN, _, oL⟩ := hx.ex
  have lk := ka.len
  have cn : CnTh K H ks (.ref an) true := by
    have z : CnTh K H ks (.ref an) (cntsB kvs ks) := .val oa fun n hn v hv => by rw [(va n hn).1] at hv; cases hv; exact .int _
    have e : cntsB kvs ks = true := List.all_eq_true.mpr fun n hn => by rw [(va n hn).1]; exact decide_eq_true (va n hn).2
    rwa [e] at z
  refine ⟨_, rfl, x, dx, _, rfl, h1, rfl, _, rfl, _, rfl, _, rfl, x, kn, arcs, A0, ks, e, .ref pl, some S, rfl, hx, nok, ka, he, .yes hs ndS sub, fun H1 k1 => ⟨_, rfl, ?_⟩⟩
  have pb : planO arcs ks e (some S) = true := pb
  rw [pb]
  refine iteF ⟨_, rfl, _, rfl, kn, ks, .ref an, true, rfl, k1 _ _ ka.o, by omega, cn.ext (ExtN.of k1), (fun z => by cases z), fun _ H2 k2 => ?_⟩
  have k12 := k1.trans k2
  have ok2 := k12 _ _ ka.o
  have h12 := k12 _ _ h1
  unfold foundZ at hq
  refine ⟨_, rfl, _, rfl, kn, _, rfl, .inl (SqL.of ok2), rfl, flat_strs ks, ?_⟩
  rw [if_neg Bool.false_ne_true, inV_strs]
  refine ⟨_, rfl, ?_⟩
  by_cases c1 : e.1 ∈ ks
  · rw [decide_eq_true c1]
    rw [if_pos c1] at hq
    exact iteT ⟨_, rfl, _, rfl, an, _, rfl, .inl ⟨kvs, Sum.inr e.1, .inl (k12 _ _ oa), rfl, (va e.1 c1).1.symm⟩, hq H2 k12⟩
  rw [decide_eq_false c1]
  rw [if_neg c1] at hq
  refine iteF ⟨_, rfl, _, rfl, x, C, dx, _, _, rfl, h12, S0.cl, S0.nL, rfl, Lv, _, rfl, .inl (SqL.of (k12 _ _ oL)), rfl, flat_strs _, ?_⟩
  rw [if_pos rfl, inV_strs]
  refine ⟨_, rfl, ?_⟩
  by_cases c2 : e.1 ∈ liveL arcs
  case neg =>
    rw [decide_eq_false c2]
    rw [if_pos c2] at hq
    exact iteT (hq H2 k12)
  rw [decide_eq_true c2]
  rw [if_neg (fun h => h c2)] at hq
  refine iteF ?_
  refine ⟨_, rfl, x, C, dx, _, _, rfl, h12, S0.cl, S0.nA, rfl, ?_⟩
  have ll := live_len arcs
  refine ⟨_, rfl, x, C, dx, _, _, rfl, h12, S0.cl, S0.nL, rfl, Lv, rfl, ⟨_, SqL.of (k12 _ _ oL)⟩, ?_⟩
  refine lc_selN (fun n => decide (n ∈ ks)) (k12 _ _ oL) (by omega) (fun _ => rfl) (fun _ => rfl) (fun n H3 T _ s3 go => ?_) fun H3 q nq oq k3 => ?_
  · refine ⟨_, rfl, _, rfl, kn, _, rfl, .inl (SqL.of (s3 _ _ ok2)), rfl, flat_strs ks, _, rfl, ?_⟩
    rw [if_neg Bool.false_ne_true, inV_strs]
    exact go H3 (Same.refl _)
  have k13 := k12.trans k3
  rw [← knL_names] at oq
  have subK : ∀ e ∈ knL arcs ks, e ∈ arcs := fun e h => (List.mem_filter.mp h).1
  have lK : (knL arcs ks).length ≤ arcs.length := List.length_filter_le _ _
  refine ⟨_, rfl, _, rfl, D, q, an, pl, arcs, knL arcs ks, A0, kvs, S, z, rfl, PyD.kp at_ (fun b o a e => ⟨a, k13 _ _ e⟩), oq, subK, by omega, k13 _ _ oa, fun e' h => ?_, hs.same k13, fun H4 k4 => ?_⟩
  · have h2 := (List.mem_filter.mp h).2
    rw [Bool.and_eq_true] at h2
    exact (va e'.1 (of_decide_eq_true h2.2)).1
  have k14 := k13.trans k4
  obtain ⟨es, t0, oD, ev0, _, ot⟩ := arc_at at_ he
  refine ⟨_, rfl, x, C, dx, _, _, rfl, k14 _ _ h1, S0.cl, S0.nA, rfl, _, rfl, D, _, rfl, .inl ⟨es, Sum.inr e.1, .inl (k14 _ _ oD), rfl, ev0.symm⟩, .inr (.inl ⟨t0, _, _, _, rfl, rfl, SqT.of (k14 _ _ ot), rfl, ?_⟩)⟩
  refine ⟨_, rfl, pl, _, rfl, (hs.same k14).seq, rfl, flat_strs S, ?_⟩
  rw [if_neg Bool.false_ne_true, inV_strs]
  refine ⟨_, rfl, ?_⟩
  by_cases c3 : e.2.1 ∈ S
  · rw [decide_eq_true c3]
    rw [if_pos c3] at hq
    exact iteT ⟨_, rfl, hq H4 k14⟩
  · rw [decide_eq_false c3]
    rw [if_neg c3] at hq
    exact iteF ⟨_, rfl, _, rfl, hq H4 k14⟩
theorem ok_foundX (F : Fun K "found" "Net.found" sFoundM f fd) (S0 : NetC K C) (mP : Meth K C "is_plan" fP) (GP : FnOk P w K mg base CX0 5 fP fdP ["self", "known", "asked", "thing"] (spIsPlN K C)) (bP : Binds K fdP ["self", "known", "asked", "thing"] []) (FN : Fun K "check_counts" "check_counts" sCkC fN fdN) (gN : mg "check_counts" = some (.ref fN)) (GN : FnOk P w K mg base (L2.CX P w) 4 fN fdN ["known", "answers"] (spCkC K (ca "BadAnswers")))
    (EP : ErrF P w K mg base "BadPlan" (ca "BadPlan") "thing") : FnOk P w K mg base (L2.CX P w) 6 f fd ["self", "known", "asked", "plan", "answers"] (spFoundX K C ca) := by
  have bN := FN.binds (ps := ["known", "answers"]) fun _ _ _ _ _ _ us hl => match us, hl with | [_, _], _ => rfl
  refine F.okX scFd (fun vs H Q E h => by obtain ⟨x, kn, th, an, arcs, A, ks, e, r, v, e', _⟩ := h; rw [e']; rfl) fun cdv A outer s H vs Q E hr hsp => ?_
  obtain ⟨x, kn, th, an, arcs, A0, ks, e, r, v, rfl, hx, nok, ka, he, wy, fl⟩ := hsp
  have nd := scFd.nd
  refine ⟨_, pss_cons (ps_if (pt_not (pt_val (pe_meth (pv 0) S0.cl mP GP hr bP .nil pass0 (pa_cons (pv 1) (pa_cons (pv 2) (pa_cons (pv 3) pa_nil)))))) (pss_one (ps_raiseE rfl (takes_of rfl rfl rfl rfl) EP (hr.mono (by decide)) rfl (pv 3))) pss_nil)
    (pss_cons (ps_expr (pe_callS GN (hr.mono (by decide)) rfl gN FN.kp bN (fun σ => passAt (takes_of rfl rfl rfl rfl) σ) (pa_cons (pv 1) (pa_cons (pv 4) pa_nil)))) pss_never), ?_⟩
  have sh := nok.n1
  have lk := ka.len
  obtain ⟨dx, _, _, _, h1, _⟩ := id hx.ex
  cases wy with
  | @pl o h b =>
    refine ⟨_, rfl, x, dx, _, rfl, h1, rfl, _, rfl, _, rfl, _, rfl, x, kn, arcs, A0, ks, e, _, o, rfl, hx, nok, ka, he, h, fun H1 k1 => ⟨_, rfl, ?_⟩⟩
    rw [b]
    exact iteT ⟨_, rfl, (fl.same k1).up EP⟩
  | @an o h b c =>
    refine ⟨_, rfl, x, dx, _, rfl, h1, rfl, _, rfl, _, rfl, _, rfl, x, kn, arcs, A0, ks, e, _, o, rfl, hx, nok, ka, he, h, fun H1 k1 => ⟨_, rfl, ?_⟩⟩
    rw [b]
    exact iteF ⟨_, rfl, _, rfl, kn, ks, _, false, rfl, k1 _ _ ka.o, by omega, c.ext (ExtN.of k1), (fun _ => fl.same k1), fun z => by cases z⟩
end
end L2.TB
/-! is_parted, are_apart -/
namespace L2.TB
open PySem PySem.Spec PyProof.Rows LamX
/-- a thing that is no world, or one with these answers -/
inductive WT2 (K : PySem.W.Frag) (H : Hp) (arcs : NtT) : V → Option (Str → Int) → Prop
  | bad {v : V} (h : WTh K H arcs v false) : WT2 K H arcs v none
  | good {d : Addr} (kvs : List (Key × V)) (x : Str → Int) (o : H d = some (.dK kvs)) (sh : kvs.length < 2000) (j : justB kvs (arcs.map (·.1)) = true) (hv : ∀ e ∈ arcs, valV kvs (Sum.inr e.1) = some (.int (x e.1))) (bal : valsB (fun n => .int (x n)) arcs = true) : WT2 K H arcs (.ref d) (some x)
theorem WT2.ext {K : PySem.W.Frag} {H H' : Hp} {arcs : NtT} {v : V} {o : Option (Str → Int)} (h : WT2 K H arcs v o) (s : ExtN H H') : WT2 K H' arcs v o := by
  cases h with
  | bad h => exact .bad (h.ext s)
  | good kvs x o sh j hv bal => exact .good kvs x (s _ _ o (fun _ z => by cases z)) sh j hv bal
theorem WT2.wth {K : PySem.W.Frag} {H : Hp} {arcs : NtT} {v : V} {o : Option (Str → Int)} (h : WT2 K H arcs v o) : WTh K H arcs v o.isSome := by
  cases h with
  | bad h => exact h
  | good kvs x o sh j hv bal =>
    have z : WTh K H arcs _ (valsB (fun n => .int (x n)) arcs) := .val o sh j (fun n => .int (x n)) fun e he => ⟨hv e he, .int _⟩
    rwa [bal] at z
def both {α : Type} : Option α → Option α → Option (α × α)
  | some x, some y => some (x, y)
  | _, _ => none
inductive PaTh (K : PySem.W.Frag) (H : Hp) (arcs : NtT) : V → Option ((Str → Int) × (Str → Int)) → Prop
  | no {v : V} (h : NoSeq K H v) : PaTh K H arcs v none
  | len {a : Addr} {xs : List V} (h : SqA K H a xs) (n : xs.length ≠ 2) (sh : xs.length < 1000) : PaTh K H arcs (.ref a) none
  | two {a : Addr} {u v : V} {o1 o2 : Option (Str → Int)} (h : SqA K H a [u, v]) (h1 : WT2 K H arcs u o1) (h2 : WT2 K H arcs v o2) : PaTh K H arcs (.ref a) (both o1 o2)
theorem PaTh.ext {K : PySem.W.Frag} {H H' : Hp} {arcs : NtT} {v : V} {o : Option ((Str → Int) × (Str → Int))} (h : PaTh K H arcs v o) (s : ExtN H H') : PaTh K H' arcs v o := by
  cases h with
  | no h => exact .no (let ⟨t, a, b, c⟩ := h; ⟨t, ty_ext a s, b, c⟩)
  | len h n sh => exact .len (sq_ext h s) n sh
  | two h h1 h2 => exact .two (sq_ext h s) (h1.ext s) (h2.ext s)
def partB (ks : List Str) (a : Str) (x y : Str → Int) : Bool := (ks.all fun n => decide (x n = y n)) && decide (x a ≠ y a)
def apO (ks : List Str) (a : Str) : Option ((Str → Int) × (Str → Int)) → Bool
  | none => false
  | some p => partB ks a p.1 p.2
def spPart (K : PySem.W.Frag) : Sp := fun vs H Q _ => ∃ (d1 d2 kn : Addr) (k1 k2 : List (Key × V)) (x y : Str → Int) (ks : List Str) (a : Str), vs = [.ref d1, .ref d2, .ref kn, .str a] ∧ H d1 = some (.dK k1) ∧ H d2 = some (.dK k2) ∧ H kn = some (.lst (ks.map V.str)) ∧ ks.length < 1000 ∧ (∀ n, n ∈ ks ∨ n = a → valV k1 (Sum.inr n) = some (.int (x n)) ∧ valV k2 (Sum.inr n) = some (.int (y n))) ∧ ∀ H', Same H H' → Q (.bl (partB ks a x y)) H'
def spAreAp (K : PySem.W.Frag) (C : Addr) : Sp := fun vs H Q _ => ∃ (x kn : Addr) (arcs : NtT) (A : Addr → Prop) (ks : List Str) (e : Str × ArT) (th : V) (o : Option ((Str → Int) × (Str → Int))), vs = [.ref x, .ref kn, .str e.1, th] ∧ NetA A H C x arcs ∧ NtOk arcs ∧ KnA H kn arcs ks ∧ e ∈ arcs ∧ PaTh K H arcs th o ∧ ∀ H', Same H H' → Q (.bl (apO ks e.1 o)) H'
abbrev NPt : List Str := ["one", "other", "known", "asked", "name"]
theorem scPt : FnScope NPt ["one", "other", "known", "asked"] (defScope sIsParted) := ⟨rfl, rfl, rfl, by decide +kernel, rfl, by decide +kernel, by decide +kernel⟩
theorem scAa : FnScope ["self", "known", "asked", "thing"] ["self", "known", "asked", "thing"] (defScope sAreApart) := ⟨rfl, rfl, rfl, by decide +kernel, rfl, by decide +kernel, by decide +kernel⟩
section
variable {P : Program} {w : World} {K : PySem.W.Frag} {mg : Str → Option Value} {base : Heap} {f C fP fW fI : Addr} {fd fdP fdW fdI : FuncData} {ca : Str → Addr}
theorem ok_part (F : Fun K "is_parted" "is_parted" sIsParted f fd) (nA : mg "all" = none) : FnOk P w K mg base CX0 1 f fd ["one", "other", "known", "asked"] (spPart K) := by
  refine F.ok scPt (fun vs H Q E h => by obtain ⟨d1, d2, kn, k1, k2, x, y, ks, a, e, _⟩ := h; rw [e]; rfl) fun cdv A outer s H vs Q E hr hsp => ?_
  obtain ⟨d1, d2, kn, kv1, kv2, x, y, ks, a, rfl, o1, o2, ok, sh, hv, hq⟩ := hsp
  have nd := scPt.nd
  have hu := hu_of hr
  refine ⟨_, pss_one (ps_ret (pe_and (pe_callB (cr_all rfl) rfl nA boot_allN (pa_cons (pe_lc (own := [("name", 4)]) (tt := tYes) (g := gName 4) (te := tOp rEq (tDGet (tVar 0) (tVar 4)) (tDGet (tVar 1) (tVar 4))) rfl nd (pi_list (pv 2)) (blkOk_by (N := NPt) (sc := defScope sIsParted) (by decide +kernel)) (fun _ _ _ _ _ => pg_name (i := 4) nd rfl (Or.inl rfl)) (fun _ _ _ _ _ => pts_nil)
      (fun _ _ _ _ _ => pe_cmpR op_eq (pe_dget hu (pv 0) (pv 4) (fun _ _ => rfl)) (pe_dget hu (pv 1) (pv 4) (fun _ _ => rfl)) (nomark _))) pa_nil))
    (pe_one (pe_cmpR op_ne (pe_dget hu (pv 0) (pv 3) (fun _ _ => rfl)) (pe_dget hu (pv 1) (pv 3) (fun _ _ => rfl)) (nomark _))))), ?_⟩
  have dg1 : ∀ {G : Hp} {n : Str}, Same H G → n ∈ ks ∨ n = a → DGet G d1 (.str n) (some (.int (x n))) := fun {G n} s h => .inl ⟨kv1, Sum.inr n, .inl (s _ _ o1), rfl, (hv n h).1.symm⟩
  have dg2 : ∀ {G : Hp} {n : Str}, Same H G → n ∈ ks ∨ n = a → DGet G d2 (.str n) (some (.int (y n))) := fun {G n} s h => .inl ⟨kv2, Sum.inr n, .inl (s _ _ o2), rfl, (hv n h).2.symm⟩
  refine ⟨_, rfl, kn, rfl, ⟨_, SqL.of ok⟩, ?_⟩
  refine lc_gen ((ks.map fun n => decide (x n = y n)).map V.bl) (by rw [List.length_map, List.length_map]; omega) (fun i H' s lt => ⟨_, _, SqL.of (s _ _ ok), List.getElem?_eq_getElem (by rw [List.length_map, List.length_map] at lt; rw [List.length_map]; exact lt)⟩) (fun H' s => ⟨_, SqL.of (s _ _ ok), by rw [List.length_map, List.length_map, List.length_map]; exact Nat.le_refl _⟩) ?_ ?_
  · rintro i v b0 H5 H6 Cn Nn eb s5 ⟨rfl, ev⟩ yes
    have ev := ev _ (SqL.of (s5 _ _ ok))
    rw [List.getElem?_map] at ev
    obtain ⟨n, en, rfl⟩ := Option.map_eq_some_iff.mp ev
    rw [List.getElem?_map, List.getElem?_map, en] at eb
    obtain rfl := Option.some.inj eb
    have hn := List.mem_of_getElem? en
    refine ⟨rfl, _, rfl, _, rfl, d1, _, rfl, dg1 s5 (.inl hn), _, rfl, _, rfl, d2, _, rfl, dg2 s5 (.inl hn), rfl, ?_⟩
    have z : Cn (V.bl (decide (x n = y n))) H6 := yes _ (Same.refl _)
    rw [← dec_int2] at z
    exact z
  · intro H5 q2 nq2 oq2 s5
    refine ⟨q2, _, rfl, SqL.of oq2, ?_⟩
    have e : ((ks.map fun n => decide (x n = y n)).all id) = ks.all fun n => decide (x n = y n) := by rw [List.all_map]; rfl
    rw [e]
    have z := hq H5 s5
    unfold partB at z
    cases c : ks.all fun n => decide (x n = y n) with
    | false =>
      rw [c, Bool.false_and] at z
      exact ⟨_, rfl, iteF z⟩
    | true =>
      rw [c, Bool.true_and] at z
      refine ⟨_, rfl, iteT ⟨_, rfl, _, rfl, d1, _, rfl, dg1 s5 (.inr rfl), _, rfl, _, rfl, d2, _, rfl, dg2 s5 (.inr rfl), rfl, ?_⟩⟩
      have e2 : (!decide (V.int (x a) = V.int (y a))) = decide (x a ≠ y a) := by
        rw [dec_int2]
        by_cases h : x a = y a
        · rw [decide_eq_true h, decide_eq_false (fun g => g h)]; rfl
        · rw [decide_eq_false h, decide_eq_true h]; rfl
      rw [e2]
      exact z
theorem ok_areAp (F : Fun K "are_apart" "Net.are_apart" sAreApart f fd) (L : NtC P w K mg base C ca) (FP : Fun K "is_pair" "is_pair" sIsPair fP fdP) (gP : mg "is_pair" = some (.ref fP)) (GP : FnOk P w K mg base CX0 2 fP fdP ["thing"] (spPairG K)) (mW : Meth K C "_is_world" fW) (GW : FnOk P w K mg base CX0 3 fW fdW ["self", "thing"] (spMIsWorld K C)) (bW : Binds K fdW ["self", "thing"] [])
    (FI : Fun K "is_parted" "is_parted" sIsParted fI fdI) (gI : mg "is_parted" = some (.ref fI)) (nA : mg "all" = none) : FnOk P w K mg base CX0 5 f fd ["self", "known", "asked", "thing"] (spAreAp K C) := by
  have bP := FP.binds (ps := ["thing"]) fun _ _ _ _ _ _ us hl => match us, hl with | [_], _ => rfl
  have GI : FnOk P w K mg base CX0 1 fI fdI ["one", "other", "known", "asked"] (spPart K) := ok_part FI nA
  have bI := FI.binds (ps := ["one", "other", "known", "asked"]) fun _ _ _ _ _ _ us hl => match us, hl with | [_, _, _, _], _ => rfl
  obtain ⟨fB, fdB, gB, kB, bB, GB⟩ := L.ckB
  refine F.ok scAa (fun vs H Q E h => by obtain ⟨x, kn, arcs, A, ks, e, th, o, e', _⟩ := h; rw [e']; rfl) fun cdv A outer s H vs Q E hr hsp => ?_
  obtain ⟨x, kn, arcs, A0, ks, e, th, o, rfl, hx, nok, ka, he, pt, hq⟩ := hsp
  refine ⟨_, pss_cons (ps_expr (pe_call GB hr rfl gB kB bB .nil passN (pa_cons (pe_fld (pv 0) rfl) (pa_cons (pv 1) (pa_cons (pv 2) pa_nil)))))
    (pss_cons (ps_if (PW.pt (pw_or (pt_not (pt_val (pe_call GP (hr.mono (by decide)) rfl gP FP.kp bP .nil pass0 (pa_cons (pv 3) pa_nil)))) (pw_or (pt_not (pt_val (pe_meth (pv 0) L.S.cl mW GW (hr.mono (by decide)) bW .nil pass0 (pa_cons (pe_ix (r := rIx K) ix_seq (pv 3) pe_int (fun _ _ => rfl)) pa_nil)))) (pw_or1 (pt_not (pt_val (pe_meth (pv 0) L.S.cl mW GW (hr.mono (by decide)) bW .nil pass0 (pa_cons (pe_ix (r := rIx K) ix_seq (pv 3) pe_int (fun _ _ => rfl)) pa_nil)))))))) (pss_one (ps_ret pe_bl)) pss_nil)
    (pss_one (ps_ret (pe_call GI (hr.mono (by decide)) rfl gI FI.kp bI .nil pass0 (pa_cons (pe_ix (r := rIx K) ix_seq (pv 3) pe_int (fun _ _ => rfl)) (pa_cons (pe_ix (r := rIx K) ix_seq (pv 3) pe_int (fun _ _ => rfl)) (pa_cons (pv 1) (pa_cons (pv 2) pa_nil)))))))), ?_⟩
  have sh := nok.n1
  have lk := ka.len
  obtain ⟨dx, D, Nd, Lv, h1, at_, aN, oN, _⟩ := hx.ex
  obtain ⟨D', es, e1, aD, oD, rnd, pr⟩ := id at_
  obtain rfl := V.ref.inj e1
  refine ⟨_, rfl, x, C, dx, _, _, rfl, h1, L.S.cl, L.S.nA, rfl, _, rfl, _, rfl, D, arcs.map (·.1), _, _, _, rfl, .inl ⟨es, oD, dc_keys pr⟩, kna_bad (arcs := arcs) ka (by omega), .inr ⟨rfl, .inl ⟨e.1, rfl, List.mem_map_of_mem he, fun H1 k1 => ?_⟩⟩⟩
  have hx1 := hx.same k1
  have pt1 := pt.ext (ExtN.of k1)
  refine ⟨_, rfl, _, rfl, ?_⟩
  cases pt1 with
  | no h => exact .inl ⟨h, fun H2 k2 => ⟨_, rfl, iteT (iteT (hq H2 (k1.trans k2)))⟩⟩
  | @len a xs h n sh2 =>
    refine .inr ⟨a, xs, rfl, h, sh2, fun H2 k2 => ?_⟩
    rw [decide_eq_false n]
    exact ⟨_, rfl, iteT (iteT (hq H2 (k1.trans k2)))⟩
  | @two a u v o1 o2 h w1 w2 =>
    refine .inr ⟨a, _, rfl, h, by show 2 < 1000; decide, fun H2 k2 => ?_⟩
    have l2 : decide ([u, v].length = 2) = true := rfl
    rw [l2]
    have k12 := k1.trans k2
    have h2 := h.same k2
    have h12 := k12 _ _ h1
    have ix0 : ∀ {G : Hp}, SqA K G a [u, v] → ∀ (R : VK), R u G → rIx K (.ref a) (.int 0) G R := fun {G} h R r => h.elim (fun h => .inl ⟨a, _, _, _, rfl, rfl, SqL.of h, rfl, r⟩) fun h => .inr (.inl ⟨a, _, _, _, rfl, rfl, SqT.of h, rfl, r⟩)
    have ix1 : ∀ {G : Hp}, SqA K G a [u, v] → ∀ (R : VK), R v G → rIx K (.ref a) (.int 1) G R := fun {G} h R r => h.elim (fun h => .inl ⟨a, _, _, _, rfl, rfl, SqL.of h, rfl, r⟩) fun h => .inr (.inl ⟨a, _, _, _, rfl, rfl, SqT.of h, rfl, r⟩)
    refine ⟨_, rfl, iteF ?_⟩
    refine ⟨_, rfl, x, dx, _, rfl, h12, rfl, _, rfl, ix0 h2 _ ⟨x, u, arcs, A0, _, rfl, hx.same k12, nok, w1.wth.ext (ExtN.of k2), fun H3 k3 => ⟨_, rfl, ?_⟩⟩⟩
    have k13 := k12.trans k3
    cases o1 with
    | none => exact iteT (iteT (hq H3 k13))
    | some x1 =>
      refine iteF ⟨_, rfl, x, dx, _, rfl, k3 _ _ h12, rfl, _, rfl, ix1 (h2.same k3) _ ⟨x, v, arcs, A0, _, rfl, hx.same k13, nok, w2.wth.ext (ExtN.of (k2.trans k3)), fun H4 k4 => ⟨_, rfl, ?_⟩⟩⟩
      have k14 := k13.trans k4
      cases o2 with
      | none => exact iteT (hq H4 k14)
      | some x2 =>
        refine iteF ?_
        have h4 := (h2.same k3).same k4
        have k24 := (k2.trans k3).trans k4
        have hq : ∀ H', Same H H' → Q (.bl (partB ks e.1 x1 x2)) H' := hq
        cases w1 with
        | @good d1 kv1 _ od1 _ _ hv1 _ =>
          cases w2 with
          | @good d2 kv2 _ od2 _ _ hv2 _ =>
            refine ⟨_, rfl, ix0 h4 _ ⟨_, rfl, ix1 h4 _ ⟨_, rfl, _, rfl, d1, d2, kn, kv1, kv2, x1, x2, ks, e.1, rfl, k24 _ _ od1, k24 _ _ od2, k14 _ _ ka.o, by omega, fun n hn => ?_, fun H5 k5 => hq H5 (k14.trans k5)⟩⟩⟩
            have hin : ∃ e' ∈ arcs, e'.1 = n := by
              rcases hn with hn | rfl
              · obtain ⟨e', he', z⟩ := List.mem_map.mp (ka.sub n hn)
                exact ⟨e', he', z⟩
              · exact ⟨e, he, rfl⟩
            obtain ⟨e', he', rfl⟩ := hin
            exact ⟨hv1 e' he', hv2 e' he'⟩
end
end L2.TB
/-! the law: some of some names, what leads out, whether it is a side -/
namespace L2.TB
open PySem PySem.Spec PyProof.Rows LamX
theorem cut_toA (xs : List V) (r : Int) (h0 : 0 ≤ r) : cutV xs none (some r) = xs.take r.toNat := by
  by_cases h : r < xs.length + 1
  · exact cut_toN xs r h0 h
  · have e2 : HT.sIx xs.length xs.length (some r) = xs.length := by
      unfold HT.sIx
      simp only []
      rw [if_neg (show ¬ r < 0 by omega)]; omega
    unfold cutV
    rw [show HT.sIx xs.length 0 none = 0 from rfl, e2]
    rw [List.drop_zero, Nat.sub_zero, List.take_of_length_le (by omega), List.take_of_length_le (by omega)]
/-! a thing that may be a plan, and what it is -/
inductive ThP (K : PySem.W.Frag) (H : Hp) (ns : List Str) : V → Option (List Str) → Prop
  | no {v : V} (h : NoSeq K H v) : ThP K H ns v none
  | nn {a : Addr} (h : SqA K H a [.non]) : ThP K H ns (.ref a) none
  | st {a : Addr} {S : List Str} (h : SqA K H a (S.map V.str)) (sh : S.length < 500) : ThP K H ns (.ref a) (if (∀ n ∈ S, n ∈ ns) ∧ S.Nodup then some S else none)
theorem ThP.ext {K : PySem.W.Frag} {H H' : Hp} {ns : List Str} {v : V} {o : Option (List Str)} (h : ThP K H ns v o) (s : ExtN H H') : ThP K H' ns v o := by
  cases h with
  | no h => exact .no (let ⟨t, a, b, c⟩ := h; ⟨t, ty_ext a s, b, c⟩)
  | nn h => exact .nn (sq_ext h s)
  | st h sh => exact .st (sq_ext h s) sh
theorem badAt_none {ns : List Str} : ∀ (us seen : List Str) (i : Nat), badAt ns (us.map V.str) seen i = none → (∀ x ∈ us, x ∈ ns ∧ x ∉ seen) ∧ us.Nodup
  | [], _, _, _ => ⟨fun x h => by (cases h), List.nodup_nil⟩
  | u :: us, seen, i, h => by
    have h : (if u ∈ ns ∧ u ∉ seen then badAt ns (us.map V.str) (seen ++ [u]) (i + 1) else some i) = none := h
    by_cases c : u ∈ ns ∧ u ∉ seen
    · rw [if_pos c] at h
      obtain ⟨h1, h2⟩ := badAt_none us (seen ++ [u]) (i + 1) h
      refine ⟨fun x hx => ?_, List.nodup_cons.mpr ⟨fun z => (h1 u z).2 (by simp), h2⟩⟩
      rcases List.mem_cons.mp hx with rfl | hx
      · exact c
      · exact ⟨(h1 x hx).1, fun z => (h1 x hx).2 (List.mem_append_left _ z)⟩
    · rw [if_neg c] at h
      cases h
theorem ThP.pl {K : PySem.W.Frag} {H : Hp} {arcs : NtT} {v : V} {o : Option (List Str)} (h : ThP K H (nodesL arcs) v o) : PlTh K H arcs v o := by
  cases h with
  | no h => exact .no (.no h)
  | @nn a h =>
    have z : Bad K H (nodesL arcs) (.ref a) (badAt (nodesL arcs) [.non] [] 0) := .seq h (fun x hx _ => by rw [List.mem_singleton.mp hx]; exact ⟨_, .base .non, by decide +kernel⟩) (by show 1 < 1000; decide)
    exact .no (i := 0) z
  | @st a S h sh =>
    by_cases c : (∀ n ∈ S, n ∈ nodesL arcs) ∧ S.Nodup
    · rw [if_pos c]
      exact .yes h c.2 c.1
    · rw [if_neg c]
      have z : Bad K H (nodesL arcs) (.ref a) (badAt (nodesL arcs) (S.map V.str) [] 0) := .seq h (fun x hx e => by
        obtain ⟨s, _, rfl⟩ := List.mem_map.mp hx
        cases e) (by rw [List.length_map]; omega)
      cases q : badAt (nodesL arcs) (S.map V.str) [] 0 with
      | none =>
        obtain ⟨h1, h2⟩ := badAt_none S [] 0 q
        exact absurd ⟨fun n hn => (h1 n hn).1, h2⟩ c
      | some i =>
        rw [q] at z
        exact .no z
def spSome (K : PySem.W.Frag) : Sp := fun vs H Q _ => ∃ (l ls q : Addr) (xs : List Str) (N : Int), vs = [.ref l, .ref q] ∧ Strm H l ls N ∧ N ≤ 800000 ∧ H q = some (.lst (xs.map V.str)) ∧ (q ≠ l ∧ q ≠ ls) ∧ xs.length < 200 ∧
  ∀ H' r ys, H r = none → (r ≠ l ∧ r ≠ ls) → H' r = some (.lst ((ys : List Str).map V.str)) → (∀ n ∈ ys, n ∈ xs) → (xs.Nodup → ys.Nodup) → ys.length ≤ xs.length → Strm H' l ls (N + xs.length + 1) → But l ls H H' → Q (.ref r) H'
def outZ (S : List Str) (e : Str × ArT) : Int := (if e.2.1 ∈ S then 1 else 0) - (if e.2.2 ∈ S then 1 else 0)
def spOut (K : PySem.W.Frag) : Sp := fun vs H Q _ => ∃ (D sd : Addr) (arcs : NtT) (A : Addr → Prop) (e : Str × ArT) (S : List Str), vs = [.ref D, .str e.1, .ref sd] ∧ PyD.at_ A H (.ref D) (Dc.mk arcs) ∧ e ∈ arcs ∧ SqA K H sd (S.map V.str) ∧ Q (.int (outZ S e)) H
def spIsSide (K : PySem.W.Frag) : Sp := fun vs H Q _ => ∃ (D : Addr) (th : V) (arcs : NtT) (A : Addr → Prop) (o : Option (List Str)), vs = [.ref D, th] ∧ PyD.at_ A H (.ref D) (Dc.mk arcs) ∧ arcs.length < 300 ∧ ThP K H (nodesL arcs) th o ∧ ∀ H', Same H H' → Q (.bl o.isSome) H'
theorem scSo : FnScope ["stream", "names"] ["stream", "names"] (defScope sSome) := ⟨rfl, rfl, rfl, by decide +kernel, rfl, by decide +kernel, by decide +kernel⟩
theorem scOu : FnScope ["arcs", "name", "side"] ["arcs", "name", "side"] (defScope sOut) := ⟨rfl, rfl, rfl, by decide +kernel, rfl, by decide +kernel, by decide +kernel⟩
abbrev NSd : List Str := ["arcs", "x", "nodes", "y", "at"]
theorem scSd : FnScope NSd ["arcs", "x"] (defScope sIsSide) := ⟨rfl, rfl, rfl, by decide +kernel, rfl, by decide +kernel, by decide +kernel⟩
section
variable {P : Program} {w : World} {K : PySem.W.Frag} {mg : Str → Option Value} {base : Heap} {f fM fD fN : Addr} {fd fdM fdD fdN : FuncData}
theorem ok_some (F : Fun K "_law_c_some" "_law_c_some" sSome f fd) (FM : Fun K "_law_mixed" "_law_mixed" sMixed fM fdM) (gM : mg "_law_mixed" = some (.ref fM)) (GM : FnOk P w K mg base CX0 2 fM fdM ["stream", "some"] (spMixed K)) (FD : Fun K "_law_draw" "_law_draw" sDraw fD fdD) (gD : mg "_law_draw" = some (.ref fD)) (GD : FnOk P w K mg base CX0 1 fD fdD ["stream", "many"] spDraw) (nN : mg "len" = none) : FnOk P w K mg base CX0 3 f fd ["stream", "names"] (spSome K) := by
  have bM := FM.binds (ps := ["stream", "some"]) fun _ _ _ _ _ _ us hl => match us, hl with | [_, _], _ => rfl
  have bD := FD.binds (ps := ["stream", "many"]) fun _ _ _ _ _ _ us hl => match us, hl with | [_, _], _ => rfl
  refine F.ok scSo (fun vs H Q E h => by obtain ⟨l, ls, q, xs, N, e, _⟩ := h; rw [e]; rfl) fun cdv A outer s H vs Q E hr hsp => ?_
  obtain ⟨l, ls, q, xs, N, rfl, S, hN, oq, aq, sh, hq⟩ := hsp
  refine ⟨_, pss_one (ps_ret (pe_slice (r := rSlL K) sl_list (pe_call GM hr rfl gM FM.kp bM .nil pass0 (pa_cons (pv 0) (pa_cons (pv 1) pa_nil))) po_none (po_some (pe_call GD (hr.mono (by decide)) rfl gD FD.kp bD .nil pass0 (pa_cons (pv 0) (pa_cons (pe_op op_add (pe_callB call_len rfl nN boot_len (pa_cons (pv 1) pa_nil)) pe_int) pa_nil)))))), ?_⟩
  refine ⟨_, rfl, _, rfl, l, ls, q, _, N, rfl, S, by omega, SqL.of oq, by rw [List.length_map]; omega, fun H1 p ys pm np op S1 B1 => ?_⟩
  rw [List.length_map] at S1
  have oq1 := B1 _ _ aq.1 aq.2 oq
  refine ⟨_, rfl, _, rfl, .ref q, xs.length, rfl, .inl ⟨_, SqL.of oq1, by rw [List.length_map]⟩, _, _, rfl, rfl, l, ls, _, _, rfl, S1, by omega, by omega, by omega, fun H2 r r0 r1 S2 B2 => ⟨_, rfl, ?_⟩⟩
  have apl : p ≠ l ∧ p ≠ ls := by
    obtain ⟨cs, g, k, m, S0⟩ := S
    exact ⟨fun z => by rw [z, S0.o] at np; (cases np), fun z => by rw [z, S0.c] at np; (cases np)⟩
  have op2 := B2 _ _ apl.1 apl.2 op
  refine ⟨p, ys, rfl, SqL.of op2, fun t nt => ?_⟩
  rw [cut_toA ys r r0]
  have kt := same_new (o := .lst (ys.take r.toNat)) nt
  have at_ := S2.apart (Same.refl _) nt
  have B12 := B1.trans B2
  obtain ⟨zs, hz, ez⟩ := perm_lift pm (f := V.str) rfl
  refine hq _ t (zs.take r.toNat) ?_ at_ (by rw [upd_same, ez, List.map_take]) (fun n hn => hz.mem_iff.mp (List.mem_of_mem_take hn)) (fun nd => (hz.nodup_iff.mpr nd).sublist (List.take_sublist _ _)) (by rw [List.length_take, hz.length_eq]; omega) (S2.same kt) (B12.trans (.of kt))
  exact B12.free at_ nt
theorem ok_out (F : Fun K "_law_c_out" "_law_c_out" sOut f fd) (nI : mg "int" = none) : FnOk P w K mg base CX0 1 f fd ["arcs", "name", "side"] (spOut K) := by
  refine F.ok scOu (fun vs H Q E h => by obtain ⟨D, sd, arcs, A, e, S, e', _⟩ := h; rw [e']; rfl) fun cdv A outer s H vs Q E hr hsp => ?_
  obtain ⟨D, sd, arcs, A0, e, S, rfl, at_, he, hs, hq⟩ := hsp
  have hu := hu_of hr
  refine ⟨_, pss_one (ps_ret (pe_op op_sub (pe_callTy call_int1 rfl nI boot_int (pa_cons (pe_cmpR op_in_seq (pe_ix (r := rIx K) ix_seq (pe_dget hu (pv 0) (pv 1) (fun _ _ => rfl)) pe_int (fun _ _ => rfl)) (pv 2) rfl) pa_nil)) (pe_callTy call_int1 rfl nI boot_int (pa_cons (pe_cmpR op_in_seq (pe_ix (r := rIx K) ix_seq (pe_dget hu (pv 0) (pv 1) (fun _ _ => rfl)) pe_int (fun _ _ => rfl)) (pv 2) rfl) pa_nil)))), ?_⟩
  obtain ⟨es, t0, oD, ev0, _, ot⟩ := arc_at at_ he
  have dg : DGet H D (.str e.1) (some (.ref t0)) := .inl ⟨es, Sum.inr e.1, .inl oD, rfl, ev0.symm⟩
  have hs' := hs.seq
  refine ⟨_, rfl, _, rfl, D, _, rfl, dg, .inr (.inl ⟨t0, _, _, _, rfl, rfl, SqT.of ot, rfl, ?_⟩)⟩
  refine ⟨_, rfl, sd, _, rfl, hs', rfl, flat_strs S, ?_⟩
  rw [if_neg Bool.false_ne_true, inV_strs]
  refine .inr ⟨_, rfl, ?_⟩
  refine ⟨_, rfl, _, rfl, D, _, rfl, dg, .inr (.inl ⟨t0, _, _, _, rfl, rfl, SqT.of ot, rfl, ?_⟩)⟩
  refine ⟨_, rfl, sd, _, rfl, hs', rfl, flat_strs S, ?_⟩
  rw [if_neg Bool.false_ne_true, inV_strs]
  refine .inr ⟨_, rfl, _, _, rfl, rfl, ?_⟩
  have e1 : ∀ b : Str, (if decide (b ∈ S) = true then (1 : Int) else 0) = if b ∈ S then 1 else 0 := fun b => by
    by_cases c : b ∈ S
    · rw [decide_eq_true c, if_pos c, if_pos rfl]
    · rw [decide_eq_false c, if_neg c, if_neg Bool.false_ne_true]
  rw [e1, e1]
  exact hq
end
end L2.TB
/-! the law: whether a thing is a side, a plan -/
namespace L2.TB
open PySem PySem.Spec PyProof.Rows LamX
def spIsPlanL (K : PySem.W.Frag) : Sp := fun vs H Q _ => ∃ (D kn : Addr) (arcs : NtT) (A : Addr → Prop) (ks : List Str) (e : Str × ArT) (th : V) (o : Option (List Str)), vs = [.ref D, .ref kn, .str e.1, th] ∧ PyD.at_ A H (.ref D) (Dc.mk arcs) ∧ NtOk arcs ∧ KnA H kn arcs ks ∧ e ∈ arcs ∧ ThP K H (nodesL arcs) th o ∧ ∀ H', Same H H' → Q (.bl (planO arcs ks e o)) H'
abbrev NIq : List Str := ["arcs", "known", "asked", "x", "live", "crossing", "name"]
theorem scIq : FnScope NIq ["arcs", "known", "asked", "x"] (defScope sIsPlanL) := ⟨rfl, rfl, rfl, by decide +kernel, rfl, by decide +kernel, by decide +kernel⟩
def dupAt (S : List Str) (i : Nat) : Bool := match S[i]? with
  | some y => decide (y ∈ S.take i)
  | none => false
theorem dup_some {S : List Str} {i : Nat} {n : Str} (e : S[i]? = some n) : dupAt S i = decide (n ∈ S.take i) := by
  unfold dupAt
  rw [e]
theorem not_nodup_take {S : List Str} : ((List.range S.length).any fun i => dupAt S i) = !decide S.Nodup := by
  by_cases h : S.Nodup
  · rw [decide_eq_true h]
    refine List.any_eq_false.mpr fun i hi c => ?_
    have li := List.mem_range.mp hi
    have ey : S[i]? = some S[i] := List.getElem?_eq_getElem li
    rw [dup_some ey] at c
    have hy := of_decide_eq_true c
    obtain ⟨j, hj⟩ := List.getElem?_of_mem hy
    have lj := (List.getElem?_eq_some_iff.mp hj).1
    rw [List.length_take] at lj
    rw [List.getElem?_take_of_lt (by omega)] at hj
    have := (List.getElem?_inj (List.getElem?_eq_some_iff.mp hj).1 h).mp (hj.trans ey.symm)
    omega
  · rw [decide_eq_false h]
    refine List.any_eq_true.mpr ?_
    refine Classical.byContradiction fun c => h ?_
    refine List.pairwise_iff_getElem.mpr fun i j hi lj lij e => c ⟨j, List.mem_range.mpr lj, ?_⟩
    rw [dup_some (List.getElem?_eq_getElem lj)]
    refine decide_eq_true ?_
    rw [← e]
    exact List.mem_of_getElem? (i := i) (by rw [List.getElem?_take_of_lt lij]; exact List.getElem?_eq_getElem hi)
/-- bools of a list or a tuple -/
theorem lc_boolsA {K : PySem.W.Frag} {a : Addr} {xs : List V} {g : TG} {te : TE} {vs : List Nat} {σ : L2.St} {H1 : Hp} {Q : Addr → Hp → Prop} (h : SqA K H1 a xs) (bs : List Bool) (len : xs.length = bs.length) (short : bs.length < 100000)
    (turn : ∀ (i : Nat) (x : V) (b : Bool) (H : Hp) (C : V → Hp → Prop) (N : Hp → Prop), xs[i]? = some x → bs[i]? = some b → Same H1 H → (∀ H4, Same H H4 → C (.bl b) H4) → g x (wipe σ vs) H fun σ2 H2 => wipe σ2 vs = wipe σ vs ∧ tYes σ2 H2 fun b H3 => if b = true then te σ2 H3 C else N H3)
    (fin : ∀ H D, H1 D = none → H D = some (.lst (bs.map V.bl)) → Same H1 H → Q D H) :
    ∃ b ys, V.ref a = V.ref b ∧ ((SqL K H1 b ys ∧ LcW (Itl K b) g tYes te vs σ H1 Q) ∨ (SqT K H1 b ys ∧ LcW (Itt K b) g tYes te vs σ H1 Q)) := by
  rcases h with h | h
  · refine ⟨a, xs, rfl, .inl ⟨SqL.of h, lc_gen (bs.map V.bl) (by rw [List.length_map]; omega) (fun i H' s lt => ⟨_, _, SqL.of (s _ _ h), List.getElem?_eq_getElem (by rw [List.length_map] at lt; omega)⟩) (fun H' s => ⟨_, SqL.of (s _ _ h), by rw [List.length_map]; omega⟩) ?_ fin⟩⟩
    rintro i x v H H' C N ev s1 ⟨rfl, ex⟩ yes
    rw [List.getElem?_map] at ev
    obtain ⟨b, eb, rfl⟩ := Option.map_eq_some_iff.mp ev
    exact turn i x b H' C N (ex _ (SqL.of (s1 _ _ h))) eb s1 yes
  · refine ⟨a, xs, rfl, .inr ⟨SqT.of h, lc_gen (bs.map V.bl) (by rw [List.length_map]; omega) (fun i H' s lt => ⟨_, _, SqT.of (s _ _ h), List.getElem?_eq_getElem (by rw [List.length_map] at lt; omega)⟩) (fun H' s => ⟨_, SqT.of (s _ _ h), by rw [List.length_map]; omega⟩) ?_ fin⟩⟩
    rintro i x v H H' C N ev s1 ⟨rfl, ex⟩ yes
    rw [List.getElem?_map] at ev
    obtain ⟨b, eb, rfl⟩ := Option.map_eq_some_iff.mp ev
    exact turn i x b H' C N (ex _ (SqT.of (s1 _ _ h))) eb s1 yes
theorem lc_boolsE {K : PySem.W.Frag} {a : Addr} {xs : List V} {g : TG} {te : TE} {vs : List Nat} {σ : L2.St} {H1 : Hp} {Q : Addr → Hp → Prop} (h : SqA K H1 a xs) (bs : List Bool) (len : xs.length = bs.length) (short : bs.length < 100000)
    (turn : ∀ (i : Nat) (x : V) (b : Bool) (H : Hp) (T : Addr) (C : V → Hp → Prop) (N : Hp → Prop), xs[i]? = some x → bs[i]? = some b → Same H1 H → H T = some (.tup [.int (i : Nat), x]) → (∀ H4, Same H H4 → C (.bl b) H4) → g (.ref T) (wipe σ vs) H fun σ2 H2 => wipe σ2 vs = wipe σ vs ∧ tYes σ2 H2 fun b H3 => if b = true then te σ2 H3 C else N H3)
    (fin : ∀ H D, H1 D = none → H D = some (.lst (bs.map V.bl)) → Same H1 H → Q D H) :
    ∃ b ys, [V.ref a] = [V.ref b] ∧ ((SqL K H1 b ys ∧ LcW (Ite K b) g tYes te vs σ H1 Q) ∨ (SqT K H1 b ys ∧ LcW (IteT K b) g tYes te vs σ H1 Q)) := by
  rcases h with h | h
  · refine ⟨a, xs, rfl, .inl ⟨SqL.of h, lc_gen (bs.map V.bl) (by rw [List.length_map]; omega) (fun i H' s lt => ⟨_, _, SqL.of (s _ _ h), List.getElem?_eq_getElem (by rw [List.length_map] at lt; omega)⟩) (fun H' s => ⟨_, SqL.of (s _ _ h), by rw [List.length_map]; omega⟩) ?_ fin⟩⟩
    rintro i x v H H' C N ev s1 ⟨T, y, rfl, nT, rfl, ex⟩ yes
    rw [List.getElem?_map] at ev
    obtain ⟨b, eb, rfl⟩ := Option.map_eq_some_iff.mp ev
    have kT := same_new (o := .tup [.int (i : Nat), y]) nT
    exact turn i y b _ T C N (ex _ (SqL.of (s1 _ _ h))) eb (s1.trans kT) upd_same fun H4 s4 => yes H4 (kT.trans s4)
  · refine ⟨a, xs, rfl, .inr ⟨SqT.of h, lc_gen (bs.map V.bl) (by rw [List.length_map]; omega) (fun i H' s lt => ⟨_, _, SqT.of (s _ _ h), List.getElem?_eq_getElem (by rw [List.length_map] at lt; omega)⟩) (fun H' s => ⟨_, SqT.of (s _ _ h), by rw [List.length_map]; omega⟩) ?_ fin⟩⟩
    rintro i x v H H' C N ev s1 ⟨T, y, rfl, nT, rfl, ex⟩ yes
    rw [List.getElem?_map] at ev
    obtain ⟨b, eb, rfl⟩ := Option.map_eq_some_iff.mp ev
    have kT := same_new (o := .tup [.int (i : Nat), y]) nT
    exact turn i y b _ T C N (ex _ (SqT.of (s1 _ _ h))) eb (s1.trans kT) upd_same fun H4 s4 => yes H4 (kT.trans s4)
abbrev rSl2 (K : PySem.W.Frag) : V → Option Int → Option Int → Hp → VK → Prop := fun x lo hi H Q => rSlL K x lo hi H Q ∨ rSlT K x lo hi H Q
theorem out_cut {S : List Str} {e : Str × ArT} : (!decide (outZ S e = 0)) = cutB S e := by
  unfold outZ cutB
  by_cases h1 : e.2.1 ∈ S <;> by_cases h2 : e.2.2 ∈ S <;> simp [h1, h2]
section
variable {P : Program} {w : World} {K : PySem.W.Frag} {mg : Str → Option Value} {base : Heap} {f fN fL fS fO : Addr} {fd fdN fdL fdS fdO : FuncData}
theorem ok_isSide (F : Fun K "_law_c_is_side" "_law_c_is_side" sIsSide f fd) (FN : Fun K "_law_c_nodes" "_law_c_nodes" sNodesL fN fdN) (gN : mg "_law_c_nodes" = some (.ref fN)) (M : Sm mg) (nS : mg "str" = none) (nY : mg "any" = none) (nE : mg "enumerate" = none) : FnOk P w K mg base CX0 2 f fd ["arcs", "x"] (spIsSide K) := by
  have GN : FnOk P w K mg base CX0 1 fN fdN ["arcs"] spNodesOf := ok_nodesL FN M.nInt
  have bN := FN.binds (ps := ["arcs"]) fun _ _ _ _ _ _ us hl => match us, hl with | [_], _ => rfl
  refine F.ok scSd (fun vs H Q E h => by obtain ⟨D, th, arcs, A, o, e, _⟩ := h; rw [e]; rfl) fun cdv A outer s H vs Q E hr hsp => ?_
  obtain ⟨D, th, arcs, A0, o, rfl, at_, sh, ht, hq⟩ := hsp
  have nd := scSd.nd
  refine ⟨_, pss_cons (ps_set (i := 2) nd rfl (Or.inr rfl) (pe_call GN hr rfl gN FN.kp bN .nil pass0 (pa_cons (pv 0) pa_nil)))
    (pss_cons (ps_if (PW.pt (pw_or (pt_not (pt_val (pe_callB (r := rIsiT K) call_isiT rfl M.nI boot_isi (pa_cons (pv 1) (pa_cons (pe_tup (pa_cons (pe_bltn (v := .ty "list") rfl M.nL boot_list' rfl) (pa_cons (pe_bltn (v := .ty "tuple") rfl M.nT boot_tuple' rfl) pa_nil))) pa_nil)))))
        (pw_or1 (pt_not (pt_val (pe_callB (cr_all rfl) rfl M.nA boot_allN (pa_cons (pe_lc (own := [("y", 3)]) (tt := tYes) (g := gName 3) (te := tAndV (tCB (rIsi K) (tCons (tVar 3) (tCons (tC (.ty "str")) tNil))) (tOp (rIn K false) (tVar 3) (tVar 2))) rfl nd (pi_seq (pv 1)) (blkOk_by (N := NSd) (sc := defScope sIsSide) (by decide +kernel)) (fun _ _ _ _ _ => pg_name (i := 3) nd rfl (Or.inl rfl)) (fun _ _ _ _ _ => pts_nil)
          (fun _ _ _ _ _ => pe_and (pe_callB (r := rIsi K) call_isi rfl M.nI boot_isi (pa_cons (pv 3) (pa_cons (pe_bltn (v := .ty "str") rfl nS boot_str' rfl) pa_nil))) (pe_one (pe_cmpR op_in_seq (pv 3) (pv 2) rfl)))) pa_nil))))))) (pss_one (ps_ret pe_bl)) pss_nil)
    (pss_one (ps_ret (pe_not (pe_callB (cr_any rfl) rfl nY boot_anyN (pa_cons (pe_lc (own := [("at", 4), ("y", 3)]) (tt := tYes) (g := gTup K 2 (gCons (gName 4) (gCons (gName 3) gNil))) (te := tOp (rIn K false) (tVar 3) (tSl (rSl2 K) (tVar 1) tNoPart (tPart (tVar 4)))) rfl nd (pi_enumS rfl nE (pa_cons (pv 1) pa_nil)) (blkOk_by (N := NSd) (sc := defScope sIsSide) (by decide +kernel))
      (fun _ _ _ _ _ => pg_tup rfl (pgs_cons (pg_name (i := 4) nd rfl (Or.inl rfl)) (pgs_cons (pg_name (i := 3) nd rfl (Or.inl rfl)) pgs_nil))) (fun _ _ _ _ _ => pts_nil)
      (fun _ _ _ _ _ => pe_cmpR op_in_seq (pv 3) (pe_slice (r := rSl2 K) (SlR.or sl_list sl_tup) (pv 1) po_none (po_some (pv 4))) rfl)) pa_nil)))))), ?_⟩
  refine ⟨_, rfl, D, arcs, A0, rfl, at_, by omega, fun H1 q nq oq k1 => ?_⟩
  refine ⟨_, rfl, (by show 2 ≤ sizeLine; decide), fun t nt => ?_⟩
  have kt := same_new (o := .tup [.ty "list", .ty "tuple"]) nt
  have k2 := k1.trans kt
  have oq2 := kt _ _ oq
  have otl : upd H1 t (.tup [.ty "list", .ty "tuple"]) t = some (.tup [.ty "list", .ty "tuple"]) := upd_same
  generalize upd H1 t (.tup [.ty "list", .ty "tuple"]) = H2 at kt k2 oq2 otl
  have ht2 := ht.ext (ExtN.of k2)
  have hseq : ∀ {a : Addr} {xs : List V}, SqA K H2 a xs → ∃ ty : String, TyX K H2 (.ref a) (.type ty) ∧ PySem.W.kitAny K (.type ty) [.type "list", .type "tuple"] = some true := fun h => h.elim (fun h => ⟨_, .base (.lst h), kit_two_l⟩) fun h => ⟨_, .base (.tup h), kit_two_t⟩
  cases ht2 with
  | no h =>
    obtain ⟨ty, a1, a2, a3⟩ := h
    exact ⟨_, _, _, _, _, false, rfl, otl, .cons (.ty _) (.cons (.ty _) .nil), a1, kit_two_n a2 a3, _, rfl, iteT (iteT (hq H2 k2))⟩
  | @nn a h =>
    obtain ⟨ty, a1, a2⟩ := hseq h
    refine ⟨_, _, _, _, _, true, rfl, otl, .cons (.ty _) (.cons (.ty _) .nil), a1, a2, _, rfl, iteF ⟨_, rfl, lc_boolsA h [false] rfl (by show 1 < 100000; decide) (fun i x b H3 C N ex eb s3 yes => ?_) fun H3 DD nD oD s3 => ?_⟩⟩
    · match i, ex, eb with
      | 0, ex, eb =>
        obtain rfl := Option.some.inj ex
        obtain rfl := Option.some.inj eb
        exact ⟨rfl, _, rfl, _, _, _, _, false, rfl, .ty _, .base .non, kit_ty (by decide +kernel), false, rfl, iteF (yes _ (Same.refl _))⟩
      | i + 1, ex, eb => cases ex
    · exact ⟨DD, [false], rfl, SqL.of oD, _, rfl, iteT (hq H3 (k2.trans s3))⟩
  | @st a S h shS =>
    obtain ⟨ty, a1, a2⟩ := hseq h
    refine ⟨_, _, _, _, _, true, rfl, otl, .cons (.ty _) (.cons (.ty _) .nil), a1, a2, _, rfl, iteF ⟨_, rfl, lc_boolsA h (S.map fun n => decide (n ∈ nodesL arcs)) (by rw [List.length_map, List.length_map]) (by rw [List.length_map]; omega) (fun i x b H3 C N ex eb s3 yes => ?_) fun H3 DD nD oD s3 => ?_⟩⟩
    · rw [List.getElem?_map] at ex eb
      obtain ⟨n, en, rfl⟩ := Option.map_eq_some_iff.mp ex
      rw [en] at eb
      obtain rfl := Option.some.inj eb
      refine ⟨rfl, _, rfl, _, _, _, _, true, rfl, .ty _, .base (.str n), kit_ty (by decide +kernel), true, rfl, iteT ⟨_, rfl, _, rfl, q, _, rfl, .inl (SqL.of (s3 _ _ oq2)), rfl, flat_strs _, ?_⟩⟩
      rw [if_neg Bool.false_ne_true, inV_strs]
      exact yes _ (Same.refl _)
    · refine ⟨DD, _, rfl, SqL.of oD, ?_⟩
      have ea : (S.map fun n => decide (n ∈ nodesL arcs)).all id = decide (∀ n ∈ S, n ∈ nodesL arcs) := by
        rw [List.all_map]
        by_cases c : ∀ n ∈ S, n ∈ nodesL arcs
        · rw [decide_eq_true c]
          exact List.all_eq_true.mpr fun n hn => decide_eq_true (c n hn)
        · rw [decide_eq_false c]
          refine Bool.eq_false_iff.mpr fun z => c fun n hn => ?_
          exact of_decide_eq_true (List.all_eq_true.mp z n hn)
      rw [ea]
      by_cases c : ∀ n ∈ S, n ∈ nodesL arcs
      case neg =>
        rw [decide_eq_false c]
        have z := hq H3 (k2.trans s3)
        rw [if_neg (fun g => c g.1)] at z
        exact ⟨_, rfl, iteT z⟩
      rw [decide_eq_true c]
      refine ⟨_, rfl, iteF ?_⟩
      have h3 := h.same s3
      refine ⟨_, rfl, lc_boolsE h3 ((List.range S.length).map fun i => dupAt S i) (by rw [List.length_map, List.length_map, List.length_range]) (by rw [List.length_map, List.length_range]; omega) (fun i x b H4 T C N ex eb s4 oT yes => ?_) fun H4 D4 nD4 oD4 s4 => ?_⟩
      · rw [List.getElem?_map] at ex
        obtain ⟨n, en, rfl⟩ := Option.map_eq_some_iff.mp ex
        have li := (List.getElem?_eq_some_iff.mp en).1
        rw [List.getElem?_map, List.getElem?_range li] at eb
        obtain rfl := Option.some.inj eb
        have h4 := h3.same s4
        have eb2 := dup_some en
        refine ⟨T, _, rfl, SqT.of oT, rfl, _, _, rfl, _, _, rfl, rfl, rfl, ?_⟩
        refine ⟨_, rfl, _, rfl, _, rfl, _, rfl, ?_⟩
        have yes2 : ∀ H5, Same H4 H5 → C (.bl (decide (n ∈ S.take i))) H5 := fun H5 s5 => by rw [← eb2]; exact yes H5 s5
        rcases h4 with h4 | h4
        · refine .inl ⟨a, _, rfl, SqL.of h4, fun p np => ?_⟩
          rw [cut_toA _ _ (by omega), show ((i : Nat) : Int).toNat = i from rfl, ← List.map_take]
          refine ⟨p, _, rfl, .inl (SqL.of upd_same), rfl, flat_strs _, ?_⟩
          rw [if_neg Bool.false_ne_true, inV_strs]
          exact yes2 _ (same_new np)
        · refine .inr ⟨a, _, rfl, SqT.of h4, fun z => ?_, fun p np => ?_⟩
          · have z2 := z.2
            unfold HT.sIx at z2
            simp only [List.length_map] at z2
            rw [if_neg (show ¬ ((i : Nat) : Int) < 0 by omega)] at z2
            omega
          · rw [cut_toA _ _ (by omega), show ((i : Nat) : Int).toNat = i from rfl, ← List.map_take]
            refine ⟨p, _, rfl, .inr (SqT.of upd_same), rfl, flat_strs _, ?_⟩
            rw [if_neg Bool.false_ne_true, inV_strs]
            exact yes2 _ (same_new np)
      · refine ⟨D4, _, rfl, SqL.of oD4, _, rfl, ?_⟩
        have en : (((List.range S.length).map fun i => dupAt S i).any id) = !decide S.Nodup := by
          rw [List.any_map]
          exact not_nodup_take
        rw [en, Bool.not_not]
        have z := hq H4 ((k2.trans s3).trans s4)
        by_cases cn : S.Nodup
        · rw [if_pos ⟨c, cn⟩] at z
          rw [decide_eq_true cn]
          exact z
        · rw [if_neg (fun g => cn g.2)] at z
          rw [decide_eq_false cn]
          exact z
end
end L2.TB
/-! the law: whether a thing is a plan -/
namespace L2.TB
open PySem PySem.Spec PyProof.Rows LamX
def crsB (arcs : NtT) (S : List Str) (n : Str) : Bool := match lk arcs n with
  | some a => cutB S (n, a)
  | none => false
theorem crs_at {arcs : NtT} {S : List Str} (nd : (arcs.map (·.1)).Nodup) {e : Str × ArT} (h : e ∈ arcs) : crsB arcs S e.1 = cutB S e := by
  unfold crsB
  rw [lk_mem nd h]
theorem plan_crs {arcs : NtT} {ks : List Str} {e : Str × ArT} {S : List Str} (nok : NtOk arcs) (he : e ∈ arcs) (g : givB arcs ks e.1 = false) : (decide (e.1 ∈ (liveL arcs).filter fun n => crsB arcs S n) && (((liveL arcs).filter fun n => crsB arcs S n).map fun n => decide (n ∈ ks) || decide (n = e.1)).all id) = (cutB S e && (othE arcs ks e.1).all fun o => !cutB S o) := by
  unfold givB at g
  rw [Bool.or_eq_false_iff] at g
  have hl : e.1 ∈ liveL arcs := Classical.byContradiction fun c => by rw [decide_eq_true c] at g; cases g.2
  have h1 : decide (e.1 ∈ (liveL arcs).filter fun n => crsB arcs S n) = cutB S e := by
    cases c : cutB S e with
    | true => exact decide_eq_true (List.mem_filter.mpr ⟨hl, by rw [crs_at nok.nd he]; exact c⟩)
    | false =>
      refine decide_eq_false fun h => ?_
      have z := (List.mem_filter.mp h).2
      rw [crs_at nok.nd he, c] at z
      cases z
  rw [h1, List.all_map]
  congr 1
  cases q : (othE arcs ks e.1).all fun o => !cutB S o with
  | true =>
    refine (List.all_eq_true.mpr fun n hn => ?_)
    obtain ⟨h2, h3⟩ := List.mem_filter.mp hn
    obtain ⟨o, ho, rfl, hr⟩ := live_arc h2
    rw [crs_at nok.nd ho] at h3
    show (decide (o.1 ∈ ks) || decide (o.1 = e.1)) = true
    refine Classical.byContradiction fun c => ?_
    rw [Bool.or_eq_true, not_or] at c
    have c1 : o.1 ∉ ks := fun z => c.1 (decide_eq_true z)
    have c2 : o.1 ≠ e.1 := fun z => c.2 (decide_eq_true z)
    have z := List.all_eq_true.mp q o (List.mem_filter.mpr ⟨ho, by rw [liveB_iff.mpr hr, decide_eq_true c1, decide_eq_true c2]; rfl⟩)
    rw [h3] at z
    cases z
  | false =>
    obtain ⟨o, ho, hc⟩ := List.all_eq_false.mp q
    obtain ⟨h2, h3⟩ := List.mem_filter.mp ho
    rw [Bool.and_eq_true, Bool.and_eq_true] at h3
    have hcut : cutB S o = true := by
      cases z : cutB S o with
      | true => rfl
      | false => rw [z] at hc; exact absurd rfl hc
    refine Bool.eq_false_iff.mpr fun z => ?_
    have hm : o.1 ∈ (liveL arcs).filter fun n => crsB arcs S n := by
      refine List.mem_filter.mpr ⟨?_, by rw [crs_at nok.nd h2]; exact hcut⟩
      unfold liveL
      exact List.mem_map_of_mem (List.mem_filter.mpr ⟨h2, h3.1⟩)
    have z2 : (decide (o.1 ∈ ks) || decide (o.1 = e.1)) = true := List.all_eq_true.mp z o.1 hm
    rw [Bool.or_eq_true] at z2
    rcases z2 with z2 | z2
    · exact (of_decide_eq_true h3.2.1) (of_decide_eq_true z2)
    · exact (of_decide_eq_true h3.2.2) (of_decide_eq_true z2)
section
variable {P : Program} {w : World} {K : PySem.W.Frag} {mg : Str → Option Value} {base : Heap} {f fN fL fS fO : Addr} {fd fdN fdL fdS fdO : FuncData}
theorem ok_isPlanL (F : Fun K "_law_c_is_plan" "_law_c_is_plan" sIsPlanL f fd) (FL : Fun K "_law_c_live" "_law_c_live" sLiveL fL fdL) (gL : mg "_law_c_live" = some (.ref fL)) (GL : FnOk P w K mg base CX0 2 fL fdL ["arcs"] spLiveL) (FS : Fun K "_law_c_is_side" "_law_c_is_side" sIsSide fS fdS) (gS : mg "_law_c_is_side" = some (.ref fS)) (GS : FnOk P w K mg base CX0 2 fS fdS ["arcs", "x"] (spIsSide K))
    (FO : Fun K "_law_c_out" "_law_c_out" sOut fO fdO) (gO : mg "_law_c_out" = some (.ref fO)) (M : Sm mg) : FnOk P w K mg base CX0 3 f fd ["arcs", "known", "asked", "x"] (spIsPlanL K) := by
  have bL := FL.binds (ps := ["arcs"]) fun _ _ _ _ _ _ us hl => match us, hl with | [_], _ => rfl
  have bS := FS.binds (ps := ["arcs", "x"]) fun _ _ _ _ _ _ us hl => match us, hl with | [_, _], _ => rfl
  have GO : FnOk P w K mg base CX0 1 fO fdO ["arcs", "name", "side"] (spOut K) := ok_out FO M.nInt
  have bO := FO.binds (ps := ["arcs", "name", "side"]) fun _ _ _ _ _ _ us hl => match us, hl with | [_, _, _], _ => rfl
  refine F.ok scIq (fun vs H Q E h => by obtain ⟨D, kn, arcs, A, ks, e, th, o, e', _⟩ := h; rw [e']; rfl) fun cdv A outer s H vs Q E hr hsp => ?_
  obtain ⟨D, kn, arcs, A0, ks, e, th, o, rfl, at_, nok, ka, he, ht, hq⟩ := hsp
  have nd := scIq.nd
  refine ⟨_, pss_cons (ps_set (i := 4) nd rfl (Or.inl rfl) (pe_call GL hr rfl gL FL.kp bL .nil pass0 (pa_cons (pv 0) pa_nil)))
    (pss_cons (ps_if (pt_not (pt_val (pe_call GS hr rfl gS FS.kp bS .nil pass0 (pa_cons (pv 0) (pa_cons (pv 3) pa_nil))))) (pss_one (ps_ret pe_bl)) pss_nil)
    (pss_cons (ps_if (PW.pt (pw_or (pt_cmpR op_in_seq (pv 2) (pv 1) rfl) (pw_or1 (pt_cmpR op_notIn_seq (pv 2) (pv 4) rfl)))) (pss_one (ps_ret (pe_cmpR op_eq (pe_callB call_len rfl M.nN boot_len (pa_cons (pv 3) pa_nil)) pe_int (nomark _)))) pss_nil)
    (pss_cons (ps_setLc (i := 5) (own := [("name", 6)]) (tt := tTest (tOp rNe (tCall (spOut K) [] E0 (tCons (tVar 0) (tCons (tVar 6) (tCons (tVar 3) tNil)))) (tC (.int 0)))) (g := gName 6) (te := tVar 6) rfl nd rfl rfl (sw_true rfl rfl rfl rfl) (pi_list (pv 4)) (blkOk_by (N := NIq) (sc := defScope sIsPlanL) (by decide +kernel)) (fun _ _ _ _ _ => pg_name (i := 6) nd rfl (Or.inl rfl))
        (fun _ _ _ _ _ => pts_one (pt_cmpR op_ne (pe_call GO (hr.mono (by decide)) rfl gO FO.kp bO .nil pass0 (pa_cons (pv 0) (pa_cons (pv 6) (pa_cons (pv 3) pa_nil)))) pe_int (nomark _))) (fun _ _ _ _ _ => pv 6))
    (pss_one (ps_ret (pe_and (pe_cmpR op_in_seq (pv 2) (pv 5) rfl) (pe_one (pe_callB (cr_all rfl) rfl M.nA boot_allN (pa_cons (pe_lc (own := [("name", 6)]) (tt := tYes) (g := gName 6) (te := tOrV (tOp (rIn K false) (tVar 6) (tVar 1)) (tOp rEq (tVar 6) (tVar 2))) rfl nd (pi_list (pv 5)) (blkOk_by (N := NIq) (sc := defScope sIsPlanL) (by decide +kernel)) (fun _ _ _ _ _ => pg_name (i := 6) nd rfl (Or.inl rfl)) (fun _ _ _ _ _ => pts_nil)
        (fun _ _ _ _ _ => pe_or (pe_cmpR op_in_seq (pv 6) (pv 1) rfl) (pe_one (pe_cmpR op_eq (pv 6) (pv 2) (nomark _))))) pa_nil))))))))), ?_⟩
  have sh := nok.n1
  have ll := live_len arcs
  refine ⟨_, rfl, D, arcs, A0, rfl, at_, by omega, fun H1 q nq oq k1 => ?_⟩
  have at1 : PyD.at_ A0 H1 (.ref D) (Dc.mk arcs) := PyD.kp at_ fun b o a e => ⟨a, k1 _ _ e⟩
  refine ⟨_, rfl, _, rfl, D, th, arcs, A0, o, rfl, at1, sh, ht.ext (ExtN.of k1), fun H2 k2 => ⟨_, rfl, ?_⟩⟩
  have k12 := k1.trans k2
  cases o with
  | none => exact iteT (hq H2 k12)
  | some S =>
    refine iteF ?_
    obtain ⟨a, rfl, hs⟩ : ∃ a, th = .ref a ∧ SqA K H a (S.map V.str) := by
      generalize eo : some S = o' at ht
      cases ht with
      | no h => cases eo
      | nn h => cases eo
      | @st a S' h shS =>
        by_cases c : (∀ n ∈ S', n ∈ nodesL arcs) ∧ S'.Nodup
        · rw [if_pos c] at eo
          obtain rfl := Option.some.inj eo
          exact ⟨a, rfl, h⟩
        · rw [if_neg c] at eo
          cases eo
    have hq : ∀ H', Same H H' → Q (.bl (planB arcs ks e S)) H' := hq
    unfold planB at hq
    have hs2 := hs.same k12
    have okn2 := k12 _ _ ka.o
    have oq2 := k2 _ _ oq
    have at2 : PyD.at_ A0 H2 (.ref D) (Dc.mk arcs) := PyD.kp at1 fun b o a e => ⟨a, k2 _ _ e⟩
    have lenC : ∀ (R : VK), R (.bl (decide (S.length = 0))) H2 → ∃ v n, [V.ref a] = [v] ∧ LenV K v H2 n ∧ rEq (.int (n : Nat)) (.int 0) H2 R := fun R r => ⟨.ref a, S.length, rfl, hs2.seq.imp (fun h => ⟨_, h, by rw [List.length_map]⟩) (fun h => ⟨_, h, by rw [List.length_map]⟩), rfl, by
      have ed : decide (V.int (S.length : Nat) = V.int 0) = decide (S.length = 0) := decide_eq_decide.mpr ⟨fun h => by have := V.int.inj h; omega, fun h => by rw [h]; rfl⟩
      rw [ed]
      exact r⟩
    refine ⟨_, rfl, _, rfl, kn, _, rfl, .inl (SqL.of okn2), rfl, flat_strs ks, ?_⟩
    rw [if_neg Bool.false_ne_true, inV_strs]
    refine ⟨_, rfl, ?_⟩
    have gg : givB arcs ks e.1 = (decide (e.1 ∈ ks) || decide (e.1 ∉ liveL arcs)) := rfl
    by_cases c1 : e.1 ∈ ks
    · rw [decide_eq_true c1]
      rw [gg, decide_eq_true c1, Bool.true_or, if_pos rfl] at hq
      exact iteT (iteT ⟨_, rfl, lenC _ (hq H2 k12)⟩)
    rw [decide_eq_false c1]
    refine iteF ⟨_, rfl, _, rfl, q, _, rfl, .inl (SqL.of oq2), rfl, flat_strs _, ?_⟩
    rw [if_pos rfl, inV_strs]
    refine ⟨_, rfl, ?_⟩
    by_cases c2 : e.1 ∈ liveL arcs
    case neg =>
      rw [decide_eq_false c2]
      rw [gg, decide_eq_true c2, Bool.or_true, if_pos rfl] at hq
      exact iteT ⟨_, rfl, lenC _ (hq H2 k12)⟩
    rw [decide_eq_true c2]
    have g : givB arcs ks e.1 = false := by rw [gg, decide_eq_false c1, decide_eq_false (fun h => h c2)]; rfl
    rw [g, if_neg Bool.false_ne_true] at hq
    refine iteF ⟨_, rfl, q, rfl, ⟨_, SqL.of oq2⟩, ?_⟩
    refine lc_selN (fun n => crsB arcs S n) oq2 (by omega) (fun _ => rfl) (fun _ => rfl) (fun n H3 T hn s3 go => ?_) fun H3 r nr or k3 => ?_
    · obtain ⟨o, ho, rfl, _⟩ := live_arc hn
      refine ⟨_, rfl, _, rfl, _, rfl, D, a, arcs, A0, o, S, rfl, PyD.kp at2 (fun b o a e => ⟨a, s3 _ _ e⟩), ho, hs2.same s3, rfl, _, rfl, ?_⟩
      have z := go H3 (Same.refl _)
      rw [crs_at nok.nd ho, ← out_cut] at z
      rw [dec_int2]
      exact z
    have hr := plan_crs (S := S) nok he g
    rw [← hr] at hq
    refine ⟨_, rfl, _, rfl, r, _, rfl, .inl (SqL.of or), rfl, flat_strs _, ?_⟩
    rw [if_neg Bool.false_ne_true, inV_strs]
    cases c3 : decide (e.1 ∈ (liveL arcs).filter fun n => crsB arcs S n) with
    | false =>
      rw [c3, Bool.false_and] at hq
      exact ⟨_, rfl, iteF (hq H3 (k12.trans k3))⟩
    | true =>
      rw [c3, Bool.true_and] at hq
      refine ⟨_, rfl, iteT ⟨_, rfl, r, rfl, ⟨_, SqL.of or⟩, ?_⟩⟩
      generalize eC : ((liveL arcs).filter fun n => crsB arcs S n) = Cr at or hq
      have lC : Cr.length ≤ arcs.length := by rw [← eC]; exact Nat.le_trans (List.length_filter_le _ _) ll
      refine lc_gen ((Cr.map fun n => decide (n ∈ ks) || decide (n = e.1)).map V.bl) (by rw [List.length_map, List.length_map]; omega) (fun i H' s lt => ⟨_, _, SqL.of (s _ _ or), List.getElem?_eq_getElem (by rw [List.length_map, List.length_map] at lt; rw [List.length_map]; exact lt)⟩) (fun H' s => ⟨_, SqL.of (s _ _ or), by rw [List.length_map, List.length_map, List.length_map]; exact Nat.le_refl _⟩) ?_ ?_
      · rintro i v b0 H5 H6 Cn Nn eb s5 ⟨rfl, ev⟩ yes
        have ev := ev _ (SqL.of (s5 _ _ or))
        rw [List.getElem?_map] at ev
        obtain ⟨n, en, rfl⟩ := Option.map_eq_some_iff.mp ev
        rw [List.getElem?_map, List.getElem?_map, en] at eb
        obtain rfl := Option.some.inj eb
        refine ⟨rfl, _, rfl, _, rfl, kn, _, rfl, .inl (SqL.of ((k3.trans s5) _ _ okn2)), rfl, flat_strs ks, ?_⟩
        rw [if_neg Bool.false_ne_true, inV_strs]
        have z : Cn (V.bl (decide (n ∈ ks) || decide (n = e.1))) H6 := yes _ (Same.refl _)
        by_cases c : n ∈ ks
        · rw [decide_eq_true c, Bool.true_or] at z
          rw [decide_eq_true c]
          exact ⟨_, rfl, iteT z⟩
        · rw [decide_eq_false c, Bool.false_or] at z
          rw [decide_eq_false c]
          refine ⟨_, rfl, iteF ⟨_, rfl, _, rfl, rfl, ?_⟩⟩
          have ed : decide (V.str n = V.str e.1) = decide (n = e.1) := decide_eq_decide.mpr ⟨fun h => V.str.inj h, fun h => congrArg V.str h⟩
          rw [ed]
          exact z
      · intro H5 q2 nq2 oq2 s5
        exact ⟨q2, _, rfl, SqL.of oq2, hq H5 ((k12.trans k3).trans s5)⟩
end
end L2.TB
/-! the law: what a plan makes of answers; whether worlds are apart -/
namespace L2.TB
open PySem PySem.Spec PyProof.Rows LamX
theorem inw_sum (x : Str → Int) (S : List Str) : ∀ (L : NtT) (t : Int), L.foldl (fun t e => (t + if e.2.2 ∈ S ∧ e.2.1 ∉ S then x e.1 else 0) - if e.2.1 ∈ S ∧ e.2.2 ∉ S then x e.1 else 0) t = t - (L.map fun o => outZ S o * x o.1).sum
  | [], t => by rw [List.map_nil, List.sum_nil]; show t = t - 0; omega
  | e :: L, t => by
    rw [List.foldl_cons, inw_sum x S L, List.map_cons, List.sum_cons]
    unfold outZ
    by_cases h1 : e.2.1 ∈ S <;> by_cases h2 : e.2.2 ∈ S
    · rw [if_neg (fun z => z.2 h1), if_neg (fun z => z.2 h2), if_pos h1, if_pos h2]
      rw [show (1 : Int) - 1 = 0 from rfl, Int.zero_mul]
      omega
    · rw [if_neg (fun z => h2 z.1), if_pos ⟨h1, h2⟩, if_pos h1, if_neg h2]
      rw [show (1 : Int) - 0 = 1 from rfl, Int.one_mul]
      omega
    · rw [if_pos ⟨h2, h1⟩, if_neg (fun z => h1 z.1), if_neg h1, if_pos h2]
      rw [show (0 : Int) - 1 = -1 from rfl, Int.neg_one_mul]
      omega
    · rw [if_neg (fun z => h2 z.1), if_neg (fun z => h1 z.1), if_neg h1, if_neg h2]
      rw [show (0 : Int) - 0 = 0 from rfl, Int.zero_mul]
      omega
theorem inwL_out (x : Str → Int) (S : List Str) (L : NtT) : inwL x S L = 0 - (L.map fun o => outZ S o * x o.1).sum := inw_sum x S L 0
def spMade (K : PySem.W.Frag) : Sp := fun vs H Q _ => ∃ (D gv kn pl an : Addr) (arcs : NtT) (A : Addr → Prop) (ks : List Str) (e : Str × ArT) (S : List Str) (kvs : List (Key × V)) (z : Str → Int), vs = [.ref D, .ref gv, .ref an] ∧ H gv = some (.tup [.ref kn, .str e.1, .ref pl]) ∧ PyD.at_ A H (.ref D) (Dc.mk arcs) ∧ NtOk arcs ∧ KnA H kn arcs ks ∧ e ∈ arcs ∧ SqA K H pl (S.map V.str) ∧ planB arcs ks e S = true ∧ H an = some (.dK kvs) ∧ (∀ n ∈ ks, valV kvs (Sum.inr n) = some (.int (z n))) ∧
  ∀ H', Same H H' → Q (.int (foundZ arcs ks e S z)) H'
def spAreApL (K : PySem.W.Frag) : Sp := fun vs H Q _ => ∃ (D kn : Addr) (arcs : NtT) (A : Addr → Prop) (ks : List Str) (e : Str × ArT) (th : V) (o : Option ((Str → Int) × (Str → Int))), vs = [.ref D, .ref kn, .str e.1, th] ∧ PyD.at_ A H (.ref D) (Dc.mk arcs) ∧ NtOk arcs ∧ KnA H kn arcs ks ∧ e ∈ arcs ∧ PaTh K H arcs th o ∧ ∀ H', Same H H' → Q (.bl (apO ks e.1 o)) H'
abbrev NMd : List Str := ["arcs", "given", "answers", "known", "asked", "plan", "others", "name"]
theorem scMd : FnScope NMd ["arcs", "given", "answers"] (defScope sMade) := ⟨rfl, rfl, rfl, by decide +kernel, rfl, by decide +kernel, by decide +kernel⟩
abbrev NAq : List Str := ["arcs", "known", "asked", "x", "y", "name"]
theorem scAq : FnScope NAq ["arcs", "known", "asked", "x"] (defScope sAreApartL) := ⟨rfl, rfl, rfl, by decide +kernel, rfl, by decide +kernel, by decide +kernel⟩
section
variable {P : Program} {w : World} {K : PySem.W.Frag} {mg : Str → Option Value} {base : Heap} {f fL fO fW : Addr} {fd fdL fdO fdW : FuncData}
theorem ok_made (F : Fun K "_law_c_made" "_law_c_made" sMade f fd) (FL : Fun K "_law_c_live" "_law_c_live" sLiveL fL fdL) (gL : mg "_law_c_live" = some (.ref fL)) (GL : FnOk P w K mg base CX0 2 fL fdL ["arcs"] spLiveL) (FO : Fun K "_law_c_out" "_law_c_out" sOut fO fdO) (gO : mg "_law_c_out" = some (.ref fO)) (nI : mg "int" = none) (nS : mg "sum" = none) : FnOk P w K mg base CX0 3 f fd ["arcs", "given", "answers"] (spMade K) := by
  have bL := FL.binds (ps := ["arcs"]) fun _ _ _ _ _ _ us hl => match us, hl with | [_], _ => rfl
  have GO : FnOk P w K mg base CX0 1 fO fdO ["arcs", "name", "side"] (spOut K) := ok_out FO nI
  have bO := FO.binds (ps := ["arcs", "name", "side"]) fun _ _ _ _ _ _ us hl => match us, hl with | [_, _, _], _ => rfl
  refine F.ok scMd (fun vs H Q E h => by obtain ⟨D, gv, kn, pl, an, arcs, A, ks, e, S, kvs, z, e', _⟩ := h; rw [e']; rfl) fun cdv A outer s H vs Q E hr hsp => ?_
  obtain ⟨D, gv, kn, pl, an, arcs, A0, ks, e, S, kvs, z, rfl, og, at_, nok, ka, he, hs, pb, oa, va, hq⟩ := hsp
  have nd := scMd.nd
  have hu := hu_of (hr.mono (show 1 ≤ 2 by decide))
  refine ⟨_, pss_cons (ps_asg (pv 1) (pg_tup (n := 3) rfl (pgs_cons (pg_name (i := 3) nd rfl (Or.inr rfl)) (pgs_cons (pg_name (i := 4) nd rfl (Or.inr rfl)) (pgs_cons (pg_name (i := 5) nd rfl (Or.inr rfl)) pgs_nil)))))
    (pss_cons (ps_if (PW.pt (pw_or (pt_cmpR op_in_seq (pv 4) (pv 3) rfl) (pw_or1 (pt_cmpR op_notIn_seq (pv 4) (pe_call GL hr rfl gL FL.kp bL .nil pass0 (pa_cons (pv 0) pa_nil)) rfl)))) (pss_one (ps_ret (pe_ifExp (pt_cmpR op_in_seq (pv 4) (pv 3) rfl) (pe_dget hu (pv 2) (pv 4) (fun _ _ => rfl)) pe_int))) pss_nil)
    (pss_cons (ps_setLc (i := 6) (own := [("name", 7)]) (tt := tAnd (tTest (tOp (rIn K false) (tVar 7) (tVar 3))) (tTest (tOp rNe (tVar 7) (tVar 4)))) (g := gName 7) (te := tVar 7) rfl nd rfl rfl (sw_true rfl rfl rfl rfl) (pi_list (pe_call GL hr rfl gL FL.kp bL .nil pass0 (pa_cons (pv 0) pa_nil))) (blkOk_by (N := NMd) (sc := defScope sMade) (by decide +kernel)) (fun _ _ _ _ _ => pg_name (i := 7) nd rfl (Or.inl rfl))
        (fun _ _ _ _ _ => pts_one (PW.pt (pw_and (pt_cmpR op_in_seq (pv 7) (pv 3) rfl) (pw_and1 (pt_cmpR op_ne (pv 7) (pv 4) (nomark _)))))) (fun _ _ _ _ _ => pv 7))
    (pss_one (ps_ret (pe_op op_sub pe_int (pe_op op_mul (pe_call GO (hr.mono (by decide)) rfl gO FO.kp bO .nil pass0 (pa_cons (pv 0) (pa_cons (pv 4) (pa_cons (pv 5) pa_nil)))) (pe_callB (r := rSum K) (cr_sum rfl) rfl nS boot_sumN (pa_cons (pe_lc (own := [("name", 7)]) (tt := tYes) (g := gName 7) (te := tOp (rI CMul fun i j => .int (i * j)) (tCall (spOut K) [] E0 (tCons (tVar 0) (tCons (tVar 7) (tCons (tVar 5) tNil)))) (tDGet (tVar 2) (tVar 7))) rfl nd (pi_list (pv 6)) (blkOk_by (N := NMd) (sc := defScope sMade) (by decide +kernel)) (fun _ _ _ _ _ => pg_name (i := 7) nd rfl (Or.inl rfl)) (fun _ _ _ _ _ => pts_nil)
        (fun _ _ _ _ _ => pe_op op_mul (pe_call GO (hr.mono (by decide)) rfl gO FO.kp bO .nil pass0 (pa_cons (pv 0) (pa_cons (pv 7) (pa_cons (pv 5) pa_nil)))) (pe_dget hu (pv 2) (pv 7) (fun _ _ => rfl)))) pa_nil)))))))), ?_⟩
  have sh := nok.n1
  have ll := live_len arcs
  have hs' := hs.seq
  refine ⟨_, rfl, gv, _, rfl, SqT.of og, rfl, _, _, rfl, _, _, rfl, _, _, rfl, rfl, ?_⟩
  unfold foundZ at hq
  refine ⟨_, rfl, _, rfl, kn, _, rfl, .inl (SqL.of ka.o), rfl, flat_strs ks, ?_⟩
  rw [if_neg Bool.false_ne_true, inV_strs]
  refine ⟨_, rfl, ?_⟩
  by_cases c1 : e.1 ∈ ks
  · rw [decide_eq_true c1]
    rw [if_pos c1] at hq
    refine iteT (iteT ⟨_, rfl, _, rfl, kn, _, rfl, .inl (SqL.of ka.o), rfl, flat_strs ks, ?_⟩)
    rw [if_neg Bool.false_ne_true, inV_strs, decide_eq_true c1]
    exact ⟨_, rfl, iteT ⟨_, rfl, _, rfl, an, _, rfl, .inl ⟨kvs, Sum.inr e.1, .inl oa, rfl, (va e.1 c1).symm⟩, hq H (Same.refl _)⟩⟩
  rw [decide_eq_false c1]
  rw [if_neg c1] at hq
  refine iteF ⟨_, rfl, _, rfl, D, arcs, A0, rfl, at_, by omega, fun H1 q nq oq k1 => ⟨q, _, rfl, .inl (SqL.of oq), rfl, flat_strs _, ?_⟩⟩
  rw [if_pos rfl, inV_strs]
  refine ⟨_, rfl, ?_⟩
  by_cases c2 : e.1 ∈ liveL arcs
  case neg =>
    rw [decide_eq_false c2]
    rw [if_pos c2] at hq
    refine iteT ⟨_, rfl, _, rfl, kn, _, rfl, .inl (SqL.of (k1 _ _ ka.o)), rfl, flat_strs ks, ?_⟩
    rw [if_neg Bool.false_ne_true, inV_strs, decide_eq_false c1]
    exact ⟨_, rfl, iteF (hq H1 k1)⟩
  rw [decide_eq_true c2]
  rw [if_neg (fun h => h c2)] at hq
  have at1 : PyD.at_ A0 H1 (.ref D) (Dc.mk arcs) := PyD.kp at_ fun b o a e => ⟨a, k1 _ _ e⟩
  refine iteF ⟨_, rfl, D, arcs, A0, rfl, at1, by omega, fun H2 q2 nq2 oq2 k2 => ⟨q2, rfl, ⟨_, SqL.of oq2⟩, ?_⟩⟩
  have k12 := k1.trans k2
  refine lc_selN (fun n => decide (n ∈ ks)) oq2 (by omega) (fun _ => rfl) (fun _ => rfl) (fun n H3 T hn s3 go => ?_) fun H3 r nr or k3 => ?_
  · refine ⟨_, rfl, _, rfl, kn, _, rfl, .inl (SqL.of ((k12.trans s3) _ _ ka.o)), rfl, flat_strs ks, ?_⟩
    rw [if_neg Bool.false_ne_true, inV_strs]
    have z := go H3 (Same.refl _)
    by_cases c : n ∈ ks
    · rw [decide_eq_true c] at z ⊢
      refine ⟨_, rfl, iteT ⟨_, rfl, _, rfl, rfl, ?_⟩⟩
      have ne : n ≠ e.1 := fun h => c1 (h ▸ c)
      rw [decide_eq_false (fun h => ne (V.str.inj h))]
      exact ⟨_, rfl, z⟩
    · rw [decide_eq_false c] at z ⊢
      exact ⟨_, rfl, iteF z⟩
  have k13 := k12.trans k3
  rw [← knL_names] at or
  have at3 : PyD.at_ A0 H3 (.ref D) (Dc.mk arcs) := PyD.kp at_ fun b o a e => ⟨a, k13 _ _ e⟩
  refine ⟨_, rfl, _, rfl, _, rfl, D, pl, arcs, A0, e, S, rfl, at3, he, hs.same k13, _, rfl, r, rfl, ⟨_, SqL.of or⟩, ?_⟩
  have subK : ∀ e ∈ knL arcs ks, e ∈ arcs ∧ e.1 ∈ ks := fun e h => by
    obtain ⟨h1, h2⟩ := List.mem_filter.mp h
    rw [Bool.and_eq_true] at h2
    exact ⟨h1, of_decide_eq_true h2.2⟩
  have lK : (knL arcs ks).length ≤ arcs.length := List.length_filter_le _ _
  have cm : ∀ (o : Str × ArT) (i : Int), CMul (outZ S o) i := fun o i => .inl (by unfold outZ; split <;> split <;> decide)
  refine lc_gen (((knL arcs ks).map fun o => outZ S o * z o.1).map V.int) (by rw [List.length_map, List.length_map]; omega) (fun i H' s lt => ⟨_, _, SqL.of (s _ _ or), List.getElem?_eq_getElem (by rw [List.length_map, List.length_map] at lt; rw [List.length_map, List.length_map]; exact lt)⟩) (fun H' s => ⟨_, SqL.of (s _ _ or), by rw [List.length_map, List.length_map, List.length_map, List.length_map]; exact Nat.le_refl _⟩) ?_ ?_
  · rintro i v b0 H5 H6 Cn Nn eb s5 ⟨rfl, ev⟩ yes
    have ev := ev _ (SqL.of (s5 _ _ or))
    rw [List.getElem?_map, List.getElem?_map] at ev
    obtain ⟨n, en, rfl⟩ := Option.map_eq_some_iff.mp ev
    obtain ⟨o, eo, rfl⟩ := Option.map_eq_some_iff.mp en
    rw [List.getElem?_map, List.getElem?_map, eo] at eb
    obtain rfl := Option.some.inj eb
    obtain ⟨ho, hk⟩ := subK o (List.mem_of_getElem? eo)
    have k16 := k13.trans s5
    exact ⟨rfl, _, rfl, _, rfl, _, rfl, D, pl, arcs, A0, o, S, rfl, PyD.kp at3 (fun b o a e => ⟨a, s5 _ _ e⟩), ho, hs.same k16, _, rfl, _, rfl, an, _, rfl, .inl ⟨kvs, Sum.inr o.1, .inl (k16 _ _ oa), rfl, (va o.1 hk).symm⟩, _, _, rfl, rfl, cm o _, yes _ (Same.refl _)⟩
  · intro H5 q5 nq5 oq5 s5
    refine ⟨q5, _, rfl, SqL.of oq5, _, _, rfl, rfl, cm e _, _, _, rfl, rfl, ?_⟩
    have zz := hq H5 (k13.trans s5)
    have g : givB arcs ks e.1 = false := by unfold givB; rw [decide_eq_false c1, decide_eq_false (fun h => h c2)]; rfl
    unfold planB at pb
    rw [g, if_neg Bool.false_ne_true, Bool.and_eq_true] at pb
    have cut := pb.1
    have eq : (if e.2.1 ∈ S then inwL z S (knL arcs ks) else - inwL z S (knL arcs ks)) = 0 - outZ S e * ((knL arcs ks).map fun o => outZ S o * z o.1).sum := by
      rw [inwL_out]
      unfold cutB at cut
      rw [Bool.not_eq_true', decide_eq_false_iff_not] at cut
      unfold outZ
      by_cases h1 : e.2.1 ∈ S <;> by_cases h2 : e.2.2 ∈ S
      · rw [decide_eq_true h1, decide_eq_true h2] at cut; exact absurd rfl cut
      · rw [if_pos h1, if_pos h1, if_neg h2, show (1 : Int) - 0 = 1 from rfl, Int.one_mul]
      · rw [if_neg h1, if_neg h1, if_pos h2, show (0 : Int) - 1 = -1 from rfl, Int.neg_one_mul]
        show _ = 0 - - List.sum _
        omega
      · rw [decide_eq_false h1, decide_eq_false h2] at cut; exact absurd rfl cut
    rw [eq] at zz
    exact zz
theorem ok_areApL (F : Fun K "_law_c_are_apart" "_law_c_are_apart" sAreApartL f fd) (FW : Fun K "_law_c_is_world" "_law_c_is_world" sIsWorldL fW fdW) (gW : mg "_law_c_is_world" = some (.ref fW)) (GW : FnOk P w K mg base CX0 2 fW fdW ["arcs", "x"] (spIsWorldL K)) (M : Sm mg) : FnOk P w K mg base CX0 3 f fd ["arcs", "known", "asked", "x"] (spAreApL K) := by
  have bW := FW.binds (ps := ["arcs", "x"]) fun _ _ _ _ _ _ us hl => match us, hl with | [_, _], _ => rfl
  refine F.ok scAq (fun vs H Q E h => by obtain ⟨D, kn, arcs, A, ks, e, th, o, e', _⟩ := h; rw [e']; rfl) fun cdv A outer s H vs Q E hr hsp => ?_
  obtain ⟨D, kn, arcs, A0, ks, e, th, o, rfl, at_, nok, ka, he, pt, hq⟩ := hsp
  have nd := scAq.nd
  have hu := hu_of (hr.mono (show 1 ≤ 2 by decide))
  refine ⟨_, pss_cons (ps_if (PW.pt (pw_or (pt_not (pt_val (pe_callB (r := rIsiT K) call_isiT rfl M.nI boot_isi (pa_cons (pv 3) (pa_cons (pe_tup (pa_cons (pe_bltn (v := .ty "list") rfl M.nL boot_list' rfl) (pa_cons (pe_bltn (v := .ty "tuple") rfl M.nT boot_tuple' rfl) pa_nil))) pa_nil)))))
      (pw_or (pt_cmpR op_ne (pe_callB call_len rfl M.nN boot_len (pa_cons (pv 3) pa_nil)) pe_int (nomark _)) (pw_or1 (pt_not (pt_val (pe_callB (cr_all rfl) rfl M.nA boot_allN (pa_cons (pe_lc (own := [("y", 4)]) (tt := tYes) (g := gName 4) (te := tCall (spIsWorldL K) [] E0 (tCons (tVar 0) (tCons (tVar 4) tNil))) rfl nd (pi_seq (pv 3)) (blkOk_by (N := NAq) (sc := defScope sAreApartL) (by decide +kernel)) (fun _ _ _ _ _ => pg_name (i := 4) nd rfl (Or.inl rfl)) (fun _ _ _ _ _ => pts_nil)
        (fun _ _ _ _ _ => pe_call GW hr rfl gW FW.kp bW .nil pass0 (pa_cons (pv 0) (pa_cons (pv 4) pa_nil)))) pa_nil)))))))) (pss_one (ps_ret pe_bl)) pss_nil)
    (pss_one (ps_ret (pe_and (pe_callB (cr_all rfl) rfl M.nA boot_allN (pa_cons (pe_lc (own := [("name", 5)]) (tt := tYes) (g := gName 5) (te := tOp rEq (tDGet (tOp (rIx K) (tVar 3) (tC (.int 0))) (tVar 5)) (tDGet (tOp (rIx K) (tVar 3) (tC (.int 1))) (tVar 5))) rfl nd (pi_list (pv 1)) (blkOk_by (N := NAq) (sc := defScope sAreApartL) (by decide +kernel)) (fun _ _ _ _ _ => pg_name (i := 5) nd rfl (Or.inl rfl)) (fun _ _ _ _ _ => pts_nil)
        (fun _ _ _ _ _ => pe_cmpR op_eq (pe_dget hu (pe_ix (r := rIx K) ix_seq (pv 3) pe_int (fun _ _ => rfl)) (pv 5) (fun _ _ => rfl)) (pe_dget hu (pe_ix (r := rIx K) ix_seq (pv 3) pe_int (fun _ _ => rfl)) (pv 5) (fun _ _ => rfl)) (nomark _))) pa_nil))
      (pe_one (pe_cmpR op_ne (pe_dget hu (pe_ix (r := rIx K) ix_seq (pv 3) pe_int (fun _ _ => rfl)) (pv 2) (fun _ _ => rfl)) (pe_dget hu (pe_ix (r := rIx K) ix_seq (pv 3) pe_int (fun _ _ => rfl)) (pv 2) (fun _ _ => rfl)) (nomark _)))))), ?_⟩
  have sh := nok.n1
  have n0 := nok.n0
  have lk := ka.len
  refine ⟨_, rfl, (by show 2 ≤ sizeLine; decide), fun t nt => ?_⟩
  have kt := same_new (o := .tup [.ty "list", .ty "tuple"]) nt
  have otl : upd H t (.tup [.ty "list", .ty "tuple"]) t = some (.tup [.ty "list", .ty "tuple"]) := upd_same
  generalize upd H t (.tup [.ty "list", .ty "tuple"]) = H1 at kt otl
  have pt1 := pt.ext (ExtN.of kt)
  have at1 : PyD.at_ A0 H1 (.ref D) (Dc.mk arcs) := PyD.kp at_ fun b o a e => ⟨a, kt _ _ e⟩
  have hseq : ∀ {a : Addr} {xs : List V}, SqA K H1 a xs → ∃ ty : String, TyX K H1 (.ref a) (.type ty) ∧ PySem.W.kitAny K (.type ty) [.type "list", .type "tuple"] = some true := fun h => h.elim (fun h => ⟨_, .base (.lst h), kit_two_l⟩) fun h => ⟨_, .base (.tup h), kit_two_t⟩
  cases pt1 with
  | no h =>
    obtain ⟨ty, a1, a2, a3⟩ := h
    exact ⟨_, _, _, _, _, false, rfl, otl, .cons (.ty _) (.cons (.ty _) .nil), a1, kit_two_n a2 a3, _, rfl, iteT (iteT (hq H1 kt))⟩
  | @len a xs h n sh2 =>
    obtain ⟨ty, a1, a2⟩ := hseq h
    refine ⟨_, _, _, _, _, true, rfl, otl, .cons (.ty _) (.cons (.ty _) .nil), a1, a2, _, rfl, iteF ⟨_, rfl, .ref a, xs.length, rfl, h.seq.imp (fun h => ⟨_, h, rfl⟩) (fun h => ⟨_, h, rfl⟩), rfl, ?_⟩⟩
    rw [decide_eq_false (fun z => n (by have := V.int.inj z; omega) : ¬ V.int (xs.length : Nat) = V.int 2)]
    exact ⟨_, rfl, iteT (iteT (hq H1 kt))⟩
  | @two a u v o1 o2 h w1 w2 =>
    obtain ⟨ty, a1, a2⟩ := hseq h
    refine ⟨_, _, _, _, _, true, rfl, otl, .cons (.ty _) (.cons (.ty _) .nil), a1, a2, _, rfl, iteF ⟨_, rfl, .ref a, 2, rfl, h.seq.imp (fun h => ⟨_, h, rfl⟩) (fun h => ⟨_, h, rfl⟩), rfl, ?_⟩⟩
    have l1 : decide (V.int ((2 : Nat) : Int) = V.int 2) = true := decide_eq_true (by rfl)
    have l2 : (!decide (V.int ((2 : Nat) : Int) = V.int 2)) = false := by rw [l1]; rfl
    rw [l2]
    refine ⟨_, rfl, iteF ⟨_, rfl, lc_boolsA h [o1.isSome, o2.isSome] rfl (by show 2 < 100000; decide) (fun i x b H3 C N ex eb s3 yes => ?_) fun H3 DD nD oD s3 => ?_⟩⟩
    · have at3 : PyD.at_ A0 H3 (.ref D) (Dc.mk arcs) := PyD.kp at1 fun b o a e => ⟨a, s3 _ _ e⟩
      match i, ex, eb with
      | 0, ex, eb =>
        obtain rfl := Option.some.inj ex
        obtain rfl := Option.some.inj eb
        exact ⟨rfl, _, rfl, _, rfl, D, arcs, A0, _, _, rfl, at3, n0, sh, w1.wth.ext (ExtN.of s3), yes⟩
      | 1, ex, eb =>
        obtain rfl := Option.some.inj ex
        obtain rfl := Option.some.inj eb
        exact ⟨rfl, _, rfl, _, rfl, D, arcs, A0, _, _, rfl, at3, n0, sh, w2.wth.ext (ExtN.of s3), yes⟩
      | i + 2, ex, eb => cases ex
    · refine ⟨DD, _, rfl, SqL.of oD, _, rfl, ?_⟩
      have k3 := kt.trans s3
      cases o1 with
      | none => exact iteT (hq H3 k3)
      | some x1 =>
        cases o2 with
        | none => exact iteT (hq H3 k3)
        | some x2 =>
          refine iteF ?_
          have hq : ∀ H', Same H H' → Q (.bl (partB ks e.1 x1 x2)) H' := hq
          have h3 := h.same s3
          cases w1 with
          | @good d1 kv1 _ od1 _ _ hv1 _ =>
            cases w2 with
            | @good d2 kv2 _ od2 _ _ hv2 _ =>
              have od1 := s3 _ _ od1
              have od2 := s3 _ _ od2
              have hin : ∀ {n : Str}, n ∈ ks ∨ n = e.1 → ∃ e' ∈ arcs, e'.1 = n := fun {n} hn => by
                rcases hn with hn | rfl
                · obtain ⟨e', he', z⟩ := List.mem_map.mp (ka.sub n hn)
                  exact ⟨e', he', z⟩
                · exact ⟨e, he, rfl⟩
              have dg1 : ∀ {G : Hp} {n : Str}, Same H3 G → n ∈ ks ∨ n = e.1 → DGet G d1 (.str n) (some (.int (x1 n))) := fun {G n} s h => by
                obtain ⟨e', he', rfl⟩ := hin h
                exact .inl ⟨kv1, Sum.inr e'.1, .inl (s _ _ od1), rfl, (hv1 e' he').symm⟩
              have dg2 : ∀ {G : Hp} {n : Str}, Same H3 G → n ∈ ks ∨ n = e.1 → DGet G d2 (.str n) (some (.int (x2 n))) := fun {G n} s h => by
                obtain ⟨e', he', rfl⟩ := hin h
                exact .inl ⟨kv2, Sum.inr e'.1, .inl (s _ _ od2), rfl, (hv2 e' he').symm⟩
              have ix0 : ∀ {G : Hp}, Same H3 G → ∀ (R : VK), R (.ref d1) G → rIx K (.ref a) (.int 0) G R := fun {G} s R r => (h3.same s).elim (fun h => .inl ⟨a, _, _, _, rfl, rfl, SqL.of h, rfl, r⟩) fun h => .inr (.inl ⟨a, _, _, _, rfl, rfl, SqT.of h, rfl, r⟩)
              have ix1 : ∀ {G : Hp}, Same H3 G → ∀ (R : VK), R (.ref d2) G → rIx K (.ref a) (.int 1) G R := fun {G} s R r => (h3.same s).elim (fun h => .inl ⟨a, _, _, _, rfl, rfl, SqL.of h, rfl, r⟩) fun h => .inr (.inl ⟨a, _, _, _, rfl, rfl, SqT.of h, rfl, r⟩)
              have ok3 := k3 _ _ ka.o
              refine ⟨_, rfl, kn, rfl, ⟨_, SqL.of ok3⟩, ?_⟩
              refine lc_gen ((ks.map fun n => decide (x1 n = x2 n)).map V.bl) (by rw [List.length_map, List.length_map]; omega) (fun i H' s lt => ⟨_, _, SqL.of (s _ _ ok3), List.getElem?_eq_getElem (by rw [List.length_map, List.length_map] at lt; rw [List.length_map]; exact lt)⟩) (fun H' s => ⟨_, SqL.of (s _ _ ok3), by rw [List.length_map, List.length_map, List.length_map]; exact Nat.le_refl _⟩) ?_ ?_
              · rintro i v b0 H5 H6 Cn Nn eb s5 ⟨rfl, ev⟩ yes
                have ev := ev _ (SqL.of (s5 _ _ ok3))
                rw [List.getElem?_map] at ev
                obtain ⟨n, en, rfl⟩ := Option.map_eq_some_iff.mp ev
                rw [List.getElem?_map, List.getElem?_map, en] at eb
                obtain rfl := Option.some.inj eb
                have hn := List.mem_of_getElem? en
                refine ⟨rfl, _, rfl, ix0 s5 _ ⟨_, rfl, d1, _, rfl, dg1 s5 (.inl hn), _, rfl, ix1 s5 _ ⟨_, rfl, d2, _, rfl, dg2 s5 (.inl hn), rfl, ?_⟩⟩⟩
                have z : Cn (V.bl (decide (x1 n = x2 n))) H6 := yes _ (Same.refl _)
                rw [← dec_int2] at z
                exact z
              · intro H5 q2 nq2 oq2 s5
                refine ⟨q2, _, rfl, SqL.of oq2, ?_⟩
                have e' : ((ks.map fun n => decide (x1 n = x2 n)).all id) = ks.all fun n => decide (x1 n = x2 n) := by rw [List.all_map]; rfl
                rw [e']
                have z := hq H5 (k3.trans s5)
                unfold partB at z
                cases c : ks.all fun n => decide (x1 n = x2 n) with
                | false =>
                  rw [c, Bool.false_and] at z
                  exact ⟨_, rfl, iteF z⟩
                | true =>
                  rw [c, Bool.true_and] at z
                  refine ⟨_, rfl, iteT ⟨_, rfl, ix0 s5 _ ⟨_, rfl, d1, _, rfl, dg1 s5 (.inr rfl), _, rfl, ix1 s5 _ ⟨_, rfl, d2, _, rfl, dg2 s5 (.inr rfl), rfl, ?_⟩⟩⟩⟩
                  have e2 : (!decide (V.int (x1 e.1) = V.int (x2 e.1))) = decide (x1 e.1 ≠ x2 e.1) := by
                    rw [dec_int2]
                    by_cases h : x1 e.1 = x2 e.1
                    · rw [decide_eq_true h, decide_eq_false (fun g => g h)]; rfl
                    · rw [decide_eq_false h, decide_eq_true h]; rfl
                  rw [e2]
                  exact z
end
end L2.TB
/-! a thing that an expression makes is locked for good (it is walked, and not used again) -/
namespace L2.TB
open PySem PySem.Spec PyProof.Rows
section
variable {X : Cx}
def tLocked (t : TE) : TE := fun σ H Q => t σ H fun x H1 => ∃ d u, H1 d = some u ∧ Mut (some u) ∧ ∀ od, Q x (upd H1 d (.frz od u))
theorem pe_locked {e : Expr} {t : TE} (h : PE X e t) : PE X e (tLocked t) := ⟨fun pins s σ H Q I hw => wpAny_mono (h.run pins s σ H _ I hw) (fun v s1 z => by
  obtain ⟨x, H1, I1, r, d, u, hd, mu, q⟩ := z
  obtain ⟨od, I2⟩ := I1.lock hd mu
  exact ⟨x, _, I2, r, q od⟩) fun _ _ z => z⟩
end
end L2.TB
/-! what holds in all later heaps -/
namespace L2.TB
open PySem PySem.Spec PyProof.Rows LamX
/-- in all later heaps -/
def Rob (l ls : Addr) (H : Hp) (P : Hp → Prop) : Prop := ∀ H', BE l ls H H' → P H'
theorem BE.refl (l ls : Addr) (H : Hp) : BE l ls H H := fun _ _ _ _ e _ => e
theorem Rob.go {l ls : Addr} {H H1 : Hp} {P : Hp → Prop} (h : Rob l ls H P) (b : BE l ls H H1) : Rob l ls H1 P := fun H' b' => h H' (b.trans b')
theorem Rob.now {l ls : Addr} {H : Hp} {P : Hp → Prop} (h : Rob l ls H P) : P H := h H (BE.refl l ls H)
/-- all but the spring -/
def del2 (l ls : Addr) (H : Hp) : Hp := fun b => if b = l ∨ b = ls then none else H b
theorem BE.x {l ls : Addr} {H H' : Hp} (B : BE l ls H H') : ExtN (del2 l ls H) H' := fun b o e no => by
  unfold del2 at e
  by_cases c : b = l ∨ b = ls
  · rw [if_pos c] at e; cases e
  · rw [if_neg c] at e
    exact B b o (fun z => c (.inl z)) (fun z => c (.inr z)) e no
theorem del2_at {l ls : Addr} {H : Hp} {b : Addr} {o : HO} (h : b ≠ l ∧ b ≠ ls) (e : H b = some o) : del2 l ls H b = some o := by
  unfold del2
  rw [if_neg (fun z => z.elim h.1 h.2)]
  exact e
theorem rob_at {l ls : Addr} {H : Hp} {b : Addr} {o : HO} (h : b ≠ l ∧ b ≠ ls) (e : H b = some o) (no : ∀ ps, o ≠ .tbl ps) : Rob l ls H (fun H' => H' b = some o) := fun H' B => B b o h.1 h.2 e no
theorem rob_net {A : Addr → Prop} {l ls C x : Addr} {H : Hp} {arcs : NtT} (h : NetA A H C x arcs) (hA : ∀ c, A c → c ≠ l ∧ c ≠ ls) (hx : x ≠ l ∧ x ≠ ls) : Rob l ls H (fun H' => NetA A H' C x arcs) := fun H' B =>
  NetA.ext (h.keep (H' := del2 l ls H) (fun o e => del2_at hx e) fun b o a e => ⟨a, del2_at (hA b a) e⟩) B.x
theorem rob_arcs {A : Addr → Prop} {l ls D : Addr} {H : Hp} {arcs : NtT} (h : PyD.at_ A H (.ref D) (Dc.mk arcs)) (hA : ∀ c, A c → c ≠ l ∧ c ≠ ls) : Rob l ls H (fun H' => PyD.at_ A H' (.ref D) (Dc.mk arcs)) := fun H' B =>
  arcs_ext (PyD.kp h (H' := del2 l ls H) fun b o a e => ⟨a, del2_at (hA b a) e⟩) B.x
theorem cut_fromN (xs : List V) (r : Nat) (h1 : r ≤ xs.length) : cutV xs (some (r : Nat)) none = xs.drop r := by
  have e1 : HT.sIx xs.length 0 (some ((r : Nat) : Int)) = r := by
    unfold HT.sIx
    simp only []
    rw [if_neg (show ¬ ((r : Nat) : Int) < 0 by omega)]; omega
  unfold cutV
  rw [e1, show HT.sIx xs.length xs.length none = xs.length from rfl]
  exact (List.take_of_length_le (by rw [List.length_drop]; omega))
theorem cut_from1 (xs : List V) (h : 1 ≤ xs.length) : cutV xs (some 1) none = xs.drop 1 := cut_fromN xs 1 h
end L2.TB
/-! the law: things that may be plans -/
namespace L2.TB
open PySem PySem.Spec PyProof.Rows LamX
theorem cut_fromA (xs : List V) : cutV xs (some 1) none = xs.drop 1 := by
  cases xs with
  | nil => rfl
  | cons a r => exact cut_from1 (a :: r) (Nat.succ_le_succ (Nat.zero_le _))
/-- a thing that may be a plan, in all later heaps -/
def ThG (K : PySem.W.Frag) (l ls : Addr) (ns : List Str) (H : Hp) (v : V) : Prop := ∃ o, Rob l ls H (fun G => ThP K G ns v o ∧ AlkF G 1 v v)
theorem ThG.go {K : PySem.W.Frag} {l ls : Addr} {ns : List Str} {H H' : Hp} {v : V} (h : ThG K l ls ns H v) (b : BE l ls H H') : ThG K l ls ns H' v := let ⟨o, r⟩ := h; ⟨o, r.go b⟩
theorem alk_self {K : PySem.W.Frag} {H : Hp} {a : Addr} {xs : List V} (h : SqA K H a xs) (at_ : ∀ x ∈ xs, Atom x) (sh : xs.length < 1000) : AlkF H 1 (.ref a) (.ref a) := by
  have al : ∀ (i : Nat) (x y : V), xs[i]? = some x → xs[i]? = some y → AlkF H 0 x y := fun i x y ex ey => by
    rw [ex] at ey
    obtain rfl := Option.some.inj ey
    exact .one (at_ x (List.mem_of_getElem? ex))
  rcases h with h | h
  · exact .lst h h rfl sh al
  · exact .tup h h rfl sh al
theorem thg_strs {K : PySem.W.Frag} {l ls : Addr} {ns : List Str} {H : Hp} {a : Addr} {S : List Str} (h : SqA K H a (S.map V.str)) (aa : a ≠ l ∧ a ≠ ls) (sh : S.length < 500) : ThG K l ls ns H (.ref a) := by
  refine ⟨if (∀ n ∈ S, n ∈ ns) ∧ S.Nodup then some S else none, fun G B => ?_⟩
  have hg : SqA K G a (S.map V.str) := h.elim (fun h => .inl (B _ _ aa.1 aa.2 h (fun _ z => by cases z))) fun h => .inr (B _ _ aa.1 aa.2 h (fun _ z => by cases z))
  exact ⟨.st hg sh, alk_self hg (fun x hx => by obtain ⟨s, _, rfl⟩ := List.mem_map.mp hx; exact .str s) (by rw [List.length_map]; omega)⟩
theorem thg_none {K : PySem.W.Frag} {l ls : Addr} {ns : List Str} {H : Hp} {a : Addr} (h : H a = some (.lst [.non])) (aa : a ≠ l ∧ a ≠ ls) : ThG K l ls ns H (.ref a) := by
  refine ⟨none, fun G B => ?_⟩
  have hg : SqA K G a [.non] := .inl (B _ _ aa.1 aa.2 h (fun _ z => by cases z))
  exact ⟨.nn hg, alk_self hg (fun x hx => by rw [List.mem_singleton.mp hx]; exact .non) (by show 1 < 1000; decide)⟩
theorem thg_dict {K : PySem.W.Frag} {l ls : Addr} {ns : List Str} {H : Hp} {a : Addr} (h : H a = some (.dK [])) (aa : a ≠ l ∧ a ≠ ls) : ThG K l ls ns H (.ref a) := by
  refine ⟨none, fun G B => ?_⟩
  have hg := B _ _ aa.1 aa.2 h (fun _ z => by cases z)
  exact ⟨.no ⟨_, .base (.dK hg), by decide +kernel, by decide +kernel⟩, .up (.dic hg hg (by simp) (fun kv h => by cases h))⟩
theorem thg_atom {K : PySem.W.Frag} {l ls : Addr} {ns : List Str} {H : Hp} {v : V} (a : Atom v) : ThG K l ls ns H v := by
  refine ⟨none, fun G B => ⟨.no ?_, .up (.one a)⟩⟩
  cases a with
  | str x => exact ⟨_, .base (.str x), by decide +kernel, by decide +kernel⟩
  | int i => exact ⟨_, .base (.int i), by decide +kernel, by decide +kernel⟩
  | bl b => exact ⟨_, .base (.bl b), by decide +kernel, by decide +kernel⟩
  | non => exact ⟨_, .base .non, by decide +kernel, by decide +kernel⟩
def spPlansL (K : PySem.W.Frag) : Sp := fun vs H Q _ => ∃ (l ls D : Addr) (pv : V) (arcs : NtT) (A : Addr → Prop) (N : Int), vs = [.ref l, .ref D, pv] ∧ Strm H l ls N ∧ N ≤ 600000 ∧ PyD.at_ A H (.ref D) (Dc.mk arcs) ∧ 0 < arcs.length ∧ arcs.length ≤ 8 ∧ (pv = .non ∨ ∃ (p : Addr) (S : List Str), pv = .ref p ∧ H p = some (.lst (S.map V.str)) ∧ (p ≠ l ∧ p ≠ ls) ∧ S.length ≤ 16) ∧
  ∀ H' q ys, H' q = some (.lst ys) → (q ≠ l ∧ q ≠ ls) → ys.length < 30 → (∀ v ∈ ys, ThG K l ls (nodesL arcs) H' v) → Strm H' l ls (N + 200) → But l ls H H' → Q (.ref q) H'
abbrev NPs : List Str := ["stream", "arcs", "plan", "nodes", "found", "node", "rest", "k", "x"]
theorem scPs : FnScope NPs ["stream", "arcs", "plan"] (defScope sPlansL) := ⟨rfl, rfl, rfl, by decide +kernel, rfl, by decide +kernel, by decide +kernel⟩
section
variable {P : Program} {w : World} {K : PySem.W.Frag} {mg : Str → Option Value} {base : Heap} {f fN fS fP : Addr} {fd fdN fdS fdP : FuncData}
theorem ok_plansL (F : Fun K "_law_c_plans" "_law_c_plans" sPlansL f fd) (FN : Fun K "_law_c_nodes" "_law_c_nodes" sNodesL fN fdN) (gN : mg "_law_c_nodes" = some (.ref fN)) (FS : Fun K "_law_c_some" "_law_c_some" sSome fS fdS) (gS : mg "_law_c_some" = some (.ref fS)) (GS : FnOk P w K mg base CX0 3 fS fdS ["stream", "names"] (spSome K)) (FP : Fun K "_law_pick" "_law_pick" sPick fP fdP) (gP : mg "_law_pick" = some (.ref fP)) (GP : FnOk P w K mg base CX0 2 fP fdP ["stream", "some"] (spPick K)) (M : Sm mg) (nR : mg "range" = none) : FnOk P w K mg base CX0 4 f fd ["stream", "arcs", "plan"] (spPlansL K) := by
  have GN : FnOk P w K mg base CX0 1 fN fdN ["arcs"] spNodesOf := ok_nodesL FN M.nInt
  have bN := FN.binds (ps := ["arcs"]) fun _ _ _ _ _ _ us hl => match us, hl with | [_], _ => rfl
  have bS := FS.binds (ps := ["stream", "names"]) fun _ _ _ _ _ _ us hl => match us, hl with | [_, _], _ => rfl
  have bP := FP.binds (ps := ["stream", "some"]) fun _ _ _ _ _ _ us hl => match us, hl with | [_, _], _ => rfl
  refine F.ok scPs (fun vs H Q E h => by obtain ⟨l, ls, D, pv, arcs, A, N, e, _⟩ := h; rw [e]; rfl) fun cdv A outer s H vs Q E hr hsp => ?_
  obtain ⟨l, ls, D, pv0, arcs, A0, N, rfl, S, hN, at_, n0, l8, hp, hq⟩ := hsp
  have nd := scPs.nd
  refine ⟨_, pss_cons (ps_set (i := 3) nd rfl (Or.inr rfl) (pe_call GN (hr.mono (by decide)) rfl gN FN.kp bN .nil pass0 (pa_cons (pv 1) pa_nil)))
    (pss_cons (ps_set (i := 4) nd rfl (Or.inl rfl) (pe_op op_cat (pe_lc (own := [("k", 7)]) (tt := tYes) (g := gName 7) (te := tCall (spSome K) [] E0 (tCons (tVar 0) (tCons (tVar 3) tNil))) rfl nd (pi_range1 rfl nR (pa_cons pe_int pa_nil)) (blkOk_by (N := NPs) (sc := defScope sPlansL) (by decide +kernel)) (fun _ _ _ _ _ => pg_name (i := 7) nd rfl (Or.inl rfl)) (fun _ _ _ _ _ => pts_nil) (fun _ _ _ _ _ => pe_call GS (hr.mono (by decide)) rfl gS FS.kp bS .nil pass0 (pa_cons (pv 0) (pa_cons (pv 3) pa_nil)))) (pe_lst (pa_cons (pe_lst pa_nil) (pa_cons (pe_tup pa_nil) (pa_cons pe_non (pa_cons pe_int (pa_cons pe_str (pa_cons pe_dnewK (pa_cons (pe_lst (pa_cons pe_non pa_nil)) (pa_cons (pe_op op_rep (pe_lst (pa_cons (pe_ix (r := rIxL K) ix_list (pv 3) pe_int (fun _ _ => rfl)) pa_nil)) pe_int) (pa_cons (pv 3) pa_nil))))))))))))
    (pss_cons (ps_if (pt_cmp (pc_notN (pv 2))) (pss_cons (ps_set (i := 5) nd rfl (Or.inr rfl) (pe_call GP (hr.mono (by decide)) rfl gP FP.kp bP .nil pass0 (pa_cons (pv 0) (pa_cons (pv 3) pa_nil))))
      (pss_cons (ps_setLc (i := 6) (own := [("x", 8)]) (tt := tTest (tOp (rIn K true) (tVar 8) (tVar 2))) (g := gName 8) (te := tVar 8) rfl nd rfl rfl (sw_true rfl rfl rfl rfl) (pi_list (pv 3)) (blkOk_by (N := NPs) (sc := defScope sPlansL) (by decide +kernel)) (fun _ _ _ _ _ => pg_name (i := 8) nd rfl (Or.inl rfl)) (fun _ _ _ _ _ => pts_one (pt_cmpR op_notIn_seq (pv 8) (pv 2) rfl)) (fun _ _ _ _ _ => pv 8))
      (pss_one (ps_set (i := 4) nd rfl (Or.inl rfl) (pe_op op_cat (pv 4) (pe_lst (pa_cons (pv 2) (pa_cons (pe_callTy call_tuple_of rfl M.nT boot_tuple' (pa_cons (pv 2) pa_nil)) (pa_cons (pe_slice (r := rSlL K) sl_list (pv 2) (po_some pe_int) po_none) (pa_cons (pe_op op_cat (pv 2) (pe_lst (pa_cons (pv 5) pa_nil))) (pa_cons (pe_revL (pv 2)) (pa_cons (pv 6) (pa_cons (pe_lc (own := [("x", 8)]) (tt := tTest (tOp rNe (tVar 8) (tVar 5))) (g := gName 8) (te := tVar 8) rfl nd (pi_list (pv 2)) (blkOk_by (N := NPs) (sc := defScope sPlansL) (by decide +kernel)) (fun _ _ _ _ _ => pg_name (i := 8) nd rfl (Or.inl rfl)) (fun _ _ _ _ _ => pts_one (pt_cmpR op_ne (pv 8) (pv 5) (nomark _))) (fun _ _ _ _ _ => pv 8)) pa_nil))))))))))))) pss_nil)
    (pss_one (ps_ret (pv 4))))), ?_⟩
  have ln := nodes_len arcs
  refine ⟨_, rfl, D, arcs, A0, rfl, at_, by omega, fun H1 nq nnq onq k1 => ?_⟩
  have anq := S.apart (Same.refl _) nnq
  have S1 := S.same k1
  obtain ⟨n0', rn, ens⟩ : ∃ a r, nodesL arcs = a :: r := by
    cases h : nodesL arcs with
    | nil =>
      obtain ⟨e, he⟩ : ∃ e, e ∈ arcs := ⟨_, List.getElem_mem n0⟩
      have z : e.2.1 ∈ nodesL arcs := (nodesF_in arcs [] e.2.1).mpr (.inr ⟨e, he, .inl rfl⟩)
      rw [h] at z
      cases z
    | cons a r => exact ⟨a, r, rfl⟩
  refine ⟨6, rfl, by decide, by decide, fun L nL => ?_⟩
  have aL := S1.apart (Same.refl _) nL
  have Lnq : nq ≠ L := fun z => by rw [z, nL] at onq; cases onq
  refine lc_range (n := 6) (fun j H' => ∃ (ts : List Addr) (Ss : List (List Str)), H' L = some (.lst (ts.map V.ref)) ∧ ts.length = j ∧ Paired (fun t S => H' t = some (.lst (S.map V.str)) ∧ (t ≠ l ∧ t ≠ ls) ∧ t ≠ L ∧ S.length ≤ 16) ts Ss ∧ Strm H' l ls (N + 17 * (j : Int)) ∧ But l ls H1 H')
    ⟨[], [], upd_same, rfl, .nil, by simpa using S1.same (same_new nL), .of (same_new nL)⟩ ?_ ?_
  · rintro j H3 hj ⟨ts, Ss, oL, lt, pt, S3, B3⟩
    have onq3 := B3 _ _ anq.1 anq.2 onq
    refine ⟨rfl, _, rfl, _, rfl, l, ls, nq, nodesL arcs, _, rfl, S3, by omega, onq3, anq, by omega, fun H4 r ys nr ar or sub ndy ly S4 B4 => ?_⟩
    have oL4 := B4 _ _ aL.1 aL.2 oL
    have rL : r ≠ L := fun z => by rw [z, oL] at nr; cases nr
    refine ⟨_, oL4, by rw [sizeLine_eq, List.length_map]; omega, ts ++ [r], Ss ++ [ys], by rw [upd_same, List.map_append]; rfl, by simp [lt], ?_, (strm_upd S4 aL).mono (by omega), fun b o h1 h2 e => ?_⟩
    · refine paired_appR (Paired.mapP pt fun t S h => ⟨?_, h.2⟩) (.cons ⟨by rw [upd_ne rL]; exact or, ar, rL, by omega⟩ .nil)
      rw [upd_ne h.2.2.1]
      exact B4 _ _ h.2.1.1 h.2.1.2 h.1
    · rw [upd_ne (ne_of_none e nL)]
      exact B4 _ _ h1 h2 (B3 _ _ h1 h2 e)
  rintro H2 ⟨ts, Ss, oL, lt, pt, S2, B2⟩
  have onq2 := B2 _ _ anq.1 anq.2 onq
  have ix0 : ((nodesL arcs).map V.str)[0]? = some (.str n0') := by rw [ens]; rfl
  have k : Same H2 H2 := Same.refl _
  refine ⟨Nat.zero_le _, fun p1 np1 => ?_⟩
  have kk := same_new (o := .lst []) np1
  have ap1 := S2.apart k np1
  have op1 : upd H2 p1 (.lst []) p1 = some (.lst []) := upd_same
  have k := k.trans kk
  generalize upd H2 p1 (.lst []) = G1 at k op1
  clear kk
  refine ⟨Nat.zero_le _, fun p2 np2 => ?_⟩
  have kk := same_new (o := .tup []) np2
  have ap2 := S2.apart k np2
  have op2 : upd G1 p2 (.tup []) p2 = some (.tup []) := upd_same
  have k := k.trans kk
  have op1 := kk _ _ op1
  generalize upd G1 p2 (.tup []) = G2 at k op1 op2
  clear kk
  refine fun p3 np3 => ?_
  have kk := same_new (o := .dK []) np3
  have ap3 := S2.apart k np3
  have op3 : upd G2 p3 (.dK []) p3 = some (.dK []) := upd_same
  have k := k.trans kk
  have op1 := kk _ _ op1
  have op2 := kk _ _ op2
  generalize upd G2 p3 (.dK []) = G3 at k op1 op2 op3
  clear kk
  refine ⟨(by show 1 ≤ sizeLine; decide), fun p4 np4 => ?_⟩
  have kk := same_new (o := .lst [.non]) np4
  have ap4 := S2.apart k np4
  have op4 : upd G3 p4 (.lst [.non]) p4 = some (.lst [.non]) := upd_same
  have k := k.trans kk
  have op1 := kk _ _ op1
  have op2 := kk _ _ op2
  have op3 := kk _ _ op3
  generalize upd G3 p4 (.lst [.non]) = G4 at k op1 op2 op3 op4
  clear kk
  refine ⟨_, rfl, nq, _, ((0 : Nat) : Int), .str n0', rfl, rfl, SqL.of (k _ _ onq2), atI_nat ix0, (by show 1 ≤ sizeLine; decide), fun p5 np5 => ?_⟩
  have kk := same_new (o := .lst [.str n0']) np5
  have ap5 := S2.apart k np5
  have op5 : upd G4 p5 (.lst [.str n0']) p5 = some (.lst [.str n0']) := upd_same
  have k := k.trans kk
  have op1 := kk _ _ op1
  have op2 := kk _ _ op2
  have op3 := kk _ _ op3
  have op4 := kk _ _ op4
  generalize upd G4 p5 (.lst [.str n0']) = G5 at k op1 op2 op3 op4 op5
  clear kk
  refine ⟨p5, 2, [.str n0'], rfl, rfl, op5, by decide, by decide, (by show 1 * 2 ≤ sizeLine; rw [sizeLine_eq]; omega), fun p6 np6 => ?_⟩
  have kk := same_new (o := .lst ((List.replicate (Int.toNat 2) [V.str n0']).flatten)) np6
  have ap6 := S2.apart k np6
  have op6 : upd G5 p6 (.lst ((List.replicate (Int.toNat 2) [V.str n0']).flatten)) p6 = some (.lst ((List.replicate (Int.toNat 2) [V.str n0']).flatten)) := upd_same
  have k := k.trans kk
  have op1 := kk _ _ op1
  have op2 := kk _ _ op2
  have op3 := kk _ _ op3
  have op4 := kk _ _ op4
  have op5 := kk _ _ op5
  generalize upd G5 p6 (.lst ((List.replicate (Int.toNat 2) [V.str n0']).flatten)) = G6 at k op1 op2 op3 op4 op5 op6
  clear kk
  refine ⟨_, rfl, (by show 9 ≤ sizeLine; decide), fun p7 np7 => ?_⟩
  have kk := same_new (o := .lst [V.ref p1, .ref p2, .non, .int 5, .str "a", .ref p3, .ref p4, .ref p6, .ref nq]) np7
  have op7 : upd G6 p7 (.lst [V.ref p1, .ref p2, .non, .int 5, .str "a", .ref p3, .ref p4, .ref p6, .ref nq]) p7 = some (.lst [V.ref p1, .ref p2, .non, .int 5, .str "a", .ref p3, .ref p4, .ref p6, .ref nq]) := upd_same
  have k := k.trans kk
  have op1 := kk _ _ op1
  have op2 := kk _ _ op2
  have op3 := kk _ _ op3
  have op4 := kk _ _ op4
  have op5 := kk _ _ op5
  have op6 := kk _ _ op6
  generalize upd G6 p7 (.lst [V.ref p1, .ref p2, .non, .int 5, .str "a", .ref p3, .ref p4, .ref p6, .ref nq]) = G7 at k op1 op2 op3 op4 op5 op6 op7
  clear kk
  refine ⟨L, p7, _, _, rfl, rfl, k _ _ oL, op7, by rw [sizeLine_eq, List.length_map, lt]; show 6 + 9 ≤ _; omega, fun f1 nf1 => ?_⟩
  have kf := same_new (o := .lst (ts.map V.ref ++ [V.ref p1, .ref p2, .non, .int 5, .str "a", .ref p3, .ref p4, .ref p6, .ref nq])) nf1
  have of1 : upd G7 f1 (.lst (ts.map V.ref ++ [V.ref p1, .ref p2, .non, .int 5, .str "a", .ref p3, .ref p4, .ref p6, .ref nq])) f1 = some (.lst (ts.map V.ref ++ [V.ref p1, .ref p2, .non, .int 5, .str "a", .ref p3, .ref p4, .ref p6, .ref nq])) := upd_same
  have af1 := S2.apart k nf1
  have k8 := k.trans kf
  have lf1 : (ts.map V.ref ++ [V.ref p1, .ref p2, .non, .int 5, .str "a", .ref p3, .ref p4, .ref p6, .ref nq]).length = 15 := by rw [List.length_append, List.length_map, lt]; rfl
  have thA : ∀ v ∈ ts.map V.ref ++ [V.ref p1, .ref p2, .non, .int 5, .str "a", .ref p3, .ref p4, .ref p6, .ref nq], ThG K l ls (nodesL arcs) (upd G7 f1 (.lst (ts.map V.ref ++ [V.ref p1, .ref p2, .non, .int 5, .str "a", .ref p3, .ref p4, .ref p6, .ref nq]))) v := fun v hv => by
    rcases List.mem_append.mp hv with h | h
    · obtain ⟨t, ht, rfl⟩ := List.mem_map.mp h
      obtain ⟨i, hi⟩ := List.getElem?_of_mem ht
      obtain ⟨S', _, h1, h2, _, h4⟩ := paired_get pt hi
      exact thg_strs (.inl (k8 _ _ h1)) h2 (by omega)
    · simp only [List.mem_cons, List.not_mem_nil, or_false] at h
      rcases h with rfl | rfl | rfl | rfl | rfl | rfl | rfl | rfl | rfl
      · exact thg_strs (S := []) (.inl (kf _ _ op1)) ap1 (by show 0 < 500; decide)
      · exact thg_strs (S := []) (.inr (kf _ _ op2)) ap2 (by show 0 < 500; decide)
      · exact thg_atom .non
      · exact thg_atom (.int _)
      · exact thg_atom (.str _)
      · exact thg_dict (kf _ _ op3) ap3
      · exact thg_none (kf _ _ op4) ap4
      · exact thg_strs (S := [n0', n0']) (.inl (kf _ _ op6)) ap6 (by show 2 < 500; decide)
      · exact thg_strs (.inl (k8 _ _ onq2)) anq (by omega)
  have S8 := S2.same k8
  have B08 : But l ls H (upd G7 f1 (.lst (ts.map V.ref ++ [V.ref p1, .ref p2, .non, .int 5, .str "a", .ref p3, .ref p4, .ref p6, .ref nq]))) := ((But.of k1).trans B2).trans (.of k8)
  have onq8 := k8 _ _ onq2
  generalize eV : (ts.map V.ref ++ [V.ref p1, .ref p2, .non, .int 5, .str "a", .ref p3, .ref p4, .ref p6, .ref nq]) = V1 at of1 lf1 thA S8 B08 onq8 k8 kf
  generalize upd G7 f1 (.lst V1) = G8 at of1 thA S8 B08 onq8 k8 kf ⊢
  clear op1 op2 op3 op4 op5 op6 op7
  rcases hp with rfl | ⟨pn, Sp, rfl, opn, apn, lSp⟩
  · exact ⟨_, rfl, _, rfl, iteF ⟨_, rfl, hq G8 f1 V1 of1 af1 (by omega) thA (S8.mono (by omega)) B08⟩⟩
  have opn8 := B08 _ _ apn.1 apn.2 opn
  refine ⟨_, rfl, _, rfl, iteT ?_⟩
  refine ⟨_, rfl, _, rfl, l, ls, nq, _, _, rfl, S8, by omega, anq.1, anq.2, onq8, (by rw [List.length_map, ens]; exact Nat.succ_pos _), (by rw [List.length_map]; omega), fun H9 v9 hv9 S9 B9 => ?_⟩
  obtain ⟨nd9, _, rfl⟩ := List.mem_map.mp hv9
  have onq9 := B9 _ _ anq.1 anq.2 onq8
  have opn9 := B9 _ _ apn.1 apn.2 opn8
  have of9 := B9 _ _ af1.1 af1.2 of1
  refine ⟨_, rfl, nq, rfl, ⟨_, SqL.of onq9⟩, ?_⟩
  refine lc_selN (fun n => decide (n ∉ Sp)) onq9 (by omega) (fun _ => rfl) (fun _ => rfl) (fun n G T _ s3 go => ?_) fun H10 rs nrs ors k10 => ?_
  · refine ⟨_, rfl, _, rfl, pn, _, rfl, .inl (SqL.of (s3 _ _ opn9)), rfl, flat_strs Sp, _, rfl, ?_⟩
    have z := go G (Same.refl _)
    rw [if_pos rfl, inV_strs]
    have e : (!decide (n ∈ Sp)) = decide (n ∉ Sp) := by
      by_cases c : n ∈ Sp
      · rw [decide_eq_true c, decide_eq_false (fun h => h c)]; rfl
      · rw [decide_eq_false c, decide_eq_true c]; rfl
    rw [e]
    exact z
  have ars := S9.apart (Same.refl _) nrs
  have lrs : ((nodesL arcs).filter fun n => decide (n ∉ Sp)).length ≤ (nodesL arcs).length := List.length_filter_le _ _
  have opn10 := k10 _ _ opn9
  -- the seven
  refine ⟨_, rfl, _, rfl, _, rfl, pn, _, rfl, .inl ⟨SqL.of opn10, fun q1 nq1 => ?_⟩⟩
  have k := Same.refl H10
  have kk := same_new (o := .tup (Sp.map V.str)) nq1
  have aq1 := S9.apart (k10.trans k) nq1
  have oq1 : upd H10 q1 (.tup (Sp.map V.str)) q1 = some (.tup (Sp.map V.str)) := upd_same
  have k := k.trans kk
  generalize upd H10 q1 (.tup (Sp.map V.str)) = J1 at k oq1
  clear kk
  refine ⟨_, rfl, _, rfl, pn, _, rfl, SqL.of (k _ _ opn10), fun q2 nq2 => ?_⟩
  rw [cut_fromA, ← List.map_drop]
  have kk := same_new (o := .lst ((Sp.drop 1).map V.str)) nq2
  have aq2 := S9.apart (k10.trans k) nq2
  have oq2 : upd J1 q2 (.lst ((Sp.drop 1).map V.str)) q2 = some (.lst ((Sp.drop 1).map V.str)) := upd_same
  have k := k.trans kk
  have oq1 := kk _ _ oq1
  generalize upd J1 q2 (.lst ((Sp.drop 1).map V.str)) = J2 at k oq1 oq2
  clear kk
  refine ⟨_, rfl, _, rfl, (by show 1 ≤ sizeLine; decide), fun q3 nq3 => ?_⟩
  have kk := same_new (o := .lst [.str nd9]) nq3
  have aq3 := S9.apart (k10.trans k) nq3
  have oq3 : upd J2 q3 (.lst [.str nd9]) q3 = some (.lst [.str nd9]) := upd_same
  have k := k.trans kk
  have oq1 := kk _ _ oq1
  have oq2 := kk _ _ oq2
  generalize upd J2 q3 (.lst [.str nd9]) = J3 at k oq1 oq2 oq3
  clear kk
  refine ⟨pn, q3, _, _, rfl, rfl, k _ _ opn10, oq3, by rw [sizeLine_eq, List.length_map]; show Sp.length + 1 ≤ _; omega, fun q4 nq4 => ?_⟩
  have kk := same_new (o := .lst (Sp.map V.str ++ [.str nd9])) nq4
  have aq4 := S9.apart (k10.trans k) nq4
  have oq4 : upd J3 q4 (.lst (Sp.map V.str ++ [.str nd9])) q4 = some (.lst (Sp.map V.str ++ [.str nd9])) := upd_same
  have k := k.trans kk
  have oq1 := kk _ _ oq1
  have oq2 := kk _ _ oq2
  have oq3 := kk _ _ oq3
  generalize upd J3 q4 (.lst (Sp.map V.str ++ [.str nd9])) = J4 at k oq1 oq2 oq3 oq4
  clear kk
  refine ⟨_, rfl, pn, _, rfl, SqL.of (k _ _ opn10), fun q5 nq5 => ?_⟩
  rw [← List.map_reverse]
  have kk := same_new (o := .lst (Sp.reverse.map V.str)) nq5
  have aq5 := S9.apart (k10.trans k) nq5
  have oq5 : upd J4 q5 (.lst (Sp.reverse.map V.str)) q5 = some (.lst (Sp.reverse.map V.str)) := upd_same
  have k := k.trans kk
  have oq1 := kk _ _ oq1
  have oq2 := kk _ _ oq2
  have oq3 := kk _ _ oq3
  have oq4 := kk _ _ oq4
  generalize upd J4 q5 (.lst (Sp.reverse.map V.str)) = J5 at k oq1 oq2 oq3 oq4 oq5
  clear kk
  refine ⟨_, rfl, _, rfl, pn, rfl, ⟨_, SqL.of (k _ _ opn10)⟩, ?_⟩
  refine lc_selN (fun n => decide (n ≠ nd9)) (k _ _ opn10) (by omega) (fun _ => rfl) (fun _ => rfl) (fun n G T _ s3 go => ?_) fun H11 q6 nq6 oq6 k11 => ?_
  · refine ⟨_, rfl, _, rfl, rfl, _, rfl, ?_⟩
    have z := go G (Same.refl _)
    have e : (!decide (V.str n = V.str nd9)) = decide (n ≠ nd9) := by
      by_cases c : n = nd9
      · rw [decide_eq_true (by rw [c]), decide_eq_false (fun h => h c)]; rfl
      · rw [decide_eq_false (fun h => c (V.str.inj h)), decide_eq_true c]; rfl
    rw [e]
    exact z
  have aq6 := S9.apart (k10.trans k) nq6
  have l6 : (Sp.filter fun n => decide (n ≠ nd9)).length ≤ Sp.length := List.length_filter_le _ _
  refine ⟨(by show 7 ≤ sizeLine; decide), fun q7 nq7 => ?_⟩
  have k7 := same_new (o := .lst [V.ref pn, .ref q1, .ref q2, .ref q4, .ref q5, .ref rs, .ref q6]) nq7
  have k10q := (k10.trans k).trans (k11.trans k7)
  refine ⟨f1, q7, _, _, rfl, rfl, k10q _ _ of9, upd_same, by rw [sizeLine_eq, lf1]; show 15 + 7 ≤ _; omega, fun f2 nf2 => ⟨_, rfl, ?_⟩⟩
  have k8 := same_new (o := .lst (V1 ++ [V.ref pn, .ref q1, .ref q2, .ref q4, .ref q5, .ref rs, .ref q6])) nf2
  have kA := (k11.trans k7).trans k8
  have kB := (k10.trans k).trans kA
  have af2 := S9.apart ((k10.trans k).trans (k11.trans k7)) nf2
  have B012 := (B08.trans B9).trans (.of kB)
  refine hq _ f2 (V1 ++ [V.ref pn, .ref q1, .ref q2, .ref q4, .ref q5, .ref rs, .ref q6]) upd_same af2 (by rw [List.length_append, lf1]; show 15 + 7 < 30; omega) (fun v hv => ?_) ((S9.same kB).mono (by omega)) B012
  rcases List.mem_append.mp hv with h | h
  · exact (thA v h).go (BE.of (B9.trans (.of kB)))
  · simp only [List.mem_cons, List.not_mem_nil, or_false] at h
    rcases h with rfl | rfl | rfl | rfl | rfl | rfl | rfl
    · exact thg_strs (.inl (kB _ _ opn9)) apn (by omega)
    · exact thg_strs (.inr (kA _ _ oq1)) aq1 (by omega)
    · exact thg_strs (.inl (kA _ _ oq2)) aq2 (by rw [List.length_drop]; omega)
    · exact thg_strs (S := Sp ++ [nd9]) (.inl (by rw [kA _ _ oq4, List.map_append]; rfl)) aq4 (by rw [List.length_append]; show Sp.length + 1 < 500; omega)
    · exact thg_strs (.inl (kA _ _ oq5)) aq5 (by rw [List.length_reverse]; omega)
    · exact thg_strs (.inl ((k.trans kA) _ _ ors)) ars (by omega)
    · exact thg_strs (.inl ((k7.trans k8) _ _ oq6)) aq6 (by omega)
end
end L2.TB
/-! t[::-1] of a pair -/
namespace L2.TB
open PySem PySem.Spec PySem.Calls PyProof.Rows HT
section
variable {prog : Program} {w : World} {A : Around} {E : Value → Shared → Prop} {s : Shared}
theorem pair_ix {sl : Addr} {a b c : Value} {Q : Int × Int × Nat → Shared → Prop} (hs : s.heap.IsSliceOf sl a b c) (pa : IsPart a none) (pb : IsPart b none) (pc : IsPart c (some (-1))) (h : Q (1, -1, 2) s) :
    wpAny (model prog w) A (Builtin.Slice.sliceApplied (.ref sl) (pure ((2 : Nat) : Int))) Q E s := by
  obtain ⟨_, at_, _, dat⟩ := hs
  delta Builtin.Slice.sliceApplied Builtin.Slice.sliceFields
  have three : wpAny (model prog w) A (pure ((1 : Int), (-1 : Int), 2)) Q E s := wpAny_pure h
  refine wpAny_bind (wpAny_bind (wpAny_field at_ dat (x := a) rfl (wpAny_bind (wpAny_field at_ dat (x := b) rfl (wpAny_bind (wpAny_field at_ dat (x := c) rfl (wpAny_pure (wpAny_bind (slicePart_ pc ?_)))))))))
  exact wpAny_bind (slicePart_ pa (wpAny_bind (slicePart_ pb (wpAny_bind (wpAny_pure three)))))
theorem pair_back {t sl : Addr} {x y a b c : Value} {Q : Value → Shared → Prop} (ht : IsTup s.heap t #[x, y]) (hs : s.heap.IsSliceOf sl a b c) (pa : IsPart a none) (pb : IsPart b none) (pc : IsPart c (some (-1)))
    (h : Q (.ref s.heap.objs.size) { s with heap := s.heap.push { cls := .type "tuple", data := .seq #[y, x] } }) : wpAny (model prog w) A (getItem (.ref t) (.ref sl)) Q E s := by
  have room : sizeOk (.seq #[y, x]) := show 2 ≤ sizeLine by decide
  unfold getItem
  with_reducible refine wpAny_holding ?_
  refine wpAny_bind (wpAny_sequenceKey ht.typeIs (by decide) (wpAny_bind (wpAny_callSpecial?_slot (name := Str.ofString "__getitem__") ht.typeIs PyProof.Rows.slot_tuple_getitem
    (wpAny_call_entry PyProof.Rows.slot_tuple_getitem ht.typeIs entry_tuple_getitem ?_ (args_tuple_getitem _ _)))))
  change wpAny _ _ (Builtin.Tuple.tupleItemsOf (Value.ref t) >>= _) _ _ s
  have kind : s.TypeIs (.ref sl) "slice" := let ⟨o, h0, h1, _⟩ := hs; ⟨o, h0, h1⟩
  refine wpAny_bind (tupleItemsOf_ ht (wpAny_bind (wpAny_typeOf kind ?_)))
  refine wpAny_bind (pair_ix hs pa pb pc ?_)
  refine wpAny_bind (m := Builtin.Tuple.tupleExact _) (wpAny_newObj_type (wpAny_pure ⟨_, rfl, wpAny_pure h⟩) room)
end
section
variable {X : Cx}
def tRevP (K : PySem.W.Frag) (te : TE) : TE := fun σ H Q => te σ H fun x H1 => ∃ a u v, x = .ref a ∧ SqT K H1 a [u, v] ∧ ∀ p, H1 p = none → Q (.ref p) (upd H1 p (.tup [v, u]))
theorem pe_revP {e : Expr} {te : TE} {k : Nat} {p1 p2 p3 pos : Pos} (he : PE X e te) : PE X (.Subscript e (.Slice none none (some (.UnaryOp .USub (.Constant (.int 1) k p1) p2)) p3) pos) (tRevP X.K te) := by
  refine ⟨fun pins s σ H Q I h => Subscript_ (thn (he.run pins s σ H _ I h) fun v s1 z => ?_)⟩
  obtain ⟨_, H1, I1, r1, a, b1, b2, rfl, hx, q⟩ := z
  cases r1
  refine wpAny_Slice (thn (po_none.run pins s1 σ H1 (fun o G => o = none ∧ G = H1) I1 ⟨rfl, rfl⟩) fun vl s2 z2 => thn (po_none.run pins s2 σ _ (fun o G => o = none ∧ G = H1) (show Inv X pins σ H1 s2 from ?_) ⟨rfl, rfl⟩) fun vu s3 z3 =>
    thn ((po_some (pe_un un_neg pe_int)).run pins s3 σ _ (fun o G => o = some (-1) ∧ G = H1) (show Inv X pins σ H1 s3 from ?_) ⟨1, rfl, -1, rfl, rfl, rfl⟩) fun vs s4 z4 => ?_)
  · obtain ⟨_, _, I2, _, _, e2⟩ := z2
    exact e2 ▸ I2
  · obtain ⟨_, _, I3, _, _, e3⟩ := z3
    exact e3 ▸ I3
  obtain ⟨_, H2, _, pl, rfl, _⟩ := z2
  obtain ⟨_, H3, _, pu, rfl, _⟩ := z3
  obtain ⟨_, H4, I4, ps, rfl, rfl⟩ := z4
  have J := I4.kept (t' := s4.toks) (h' := s4.heap.push { cls := .type "slice", data := .fields #[vl, vu, vs] }) fun b ob q => Heap.get?_push_of_some _ q
  obtain ⟨its, r, ht, _⟩ := J.tuple hx
  obtain ⟨y1, y2, rfl, ry1, ry2⟩ : ∃ y1 y2, its = [y1, y2] ∧ RelV b1 y1 ∧ RelV b2 y2 := vals2 r
  have fin := pair_back (prog := X.prog) (w := X.w) (A := X.A) (E := X.xe) (Q := EP X pins σ Q) ht (Heap.IsSliceOf.new _ vl vu vs) pl pu ps
    ⟨.ref _, _, J.laid (t' := s4.toks) (o := .tup [b2, b1]) (fun b ob q => Heap.get?_push_of_some _ q) (Nat.le_refl _) ⟨by show 2 ≤ sizeLine; decide, _, .cons ry2 (.cons ry1 .nil), IsTup.new _ _⟩, rfl, q _ (J.hok.fresh (Nat.le_refl _))⟩
  exact tail_any (ops := [.ref a, .ref s4.heap.objs.size]) ht.typeIs PyProof.Rows.slot_tuple_getitem.lookup fin (by with_unfolding_all rfl)
end
end L2.TB
/-! the law: pairs of worlds, and what is none -/
namespace L2.TB
open PySem PySem.Spec PyProof.Rows LamX
abbrev rLoP (K : PySem.W.Frag) : List V → Hp → VK → Prop := fun xs H Q => ∃ p ys, xs = [V.ref p] ∧ (SqL K H p ys ∨ SqT K H p ys) ∧ ∀ l, H l = none → Q (.ref l) (upd H l (.lst ys))
theorem just_valD {vv : Str → V} {arcs : NtT} (nd : (arcs.map (·.1)).Nodup) : justB (valD vv arcs) (arcs.map (·.1)) = true := by
  unfold justB
  rw [decide_eq_true (by unfold valD; rw [List.length_map, List.length_map]), Bool.true_and]
  refine (List.all_eq_true.mpr fun n hn => ?_)
  obtain ⟨e, he, rfl⟩ := List.mem_map.mp hn
  rw [valD_getI nd he]
  rfl
/-- a thing that may be a world, a pair of worlds, in all later heaps -/
def WtG (K : PySem.W.Frag) (l ls : Addr) (arcs : NtT) (H : Hp) (v : V) : Prop := ∃ o, Rob l ls H (fun G => WT2 K G arcs v o)
def PaG (K : PySem.W.Frag) (l ls : Addr) (arcs : NtT) (H : Hp) (v : V) : Prop := ∃ o, Rob l ls H (fun G => PaTh K G arcs v o)
theorem WtG.go {K : PySem.W.Frag} {l ls : Addr} {arcs : NtT} {H H' : Hp} {v : V} (h : WtG K l ls arcs H v) (b : BE l ls H H') : WtG K l ls arcs H' v := let ⟨o, r⟩ := h; ⟨o, r.go b⟩
theorem PaG.go {K : PySem.W.Frag} {l ls : Addr} {arcs : NtT} {H H' : Hp} {v : V} (h : PaG K l ls arcs H v) (b : BE l ls H H') : PaG K l ls arcs H' v := let ⟨o, r⟩ := h; ⟨o, r.go b⟩
theorem wtg_valD {K : PySem.W.Frag} {l ls : Addr} {arcs : NtT} {H : Hp} {d : Addr} {y : Str → Int} (nok : NtOk arcs) (h : H d = some (.dK (valD (fun n => .int (y n)) arcs))) (ad : d ≠ l ∧ d ≠ ls) : WtG K l ls arcs H (.ref d) := by
  have sh := nok.n1
  have lv : (valD (fun n => V.int (y n)) arcs).length = arcs.length := List.length_map _
  cases bal : valsB (fun n => .int (y n)) arcs with
  | true => exact ⟨some y, fun G B => .good _ y (B _ _ ad.1 ad.2 h (fun _ z => by cases z)) (by omega) (just_valD nok.nd) (fun e he => valD_getI nok.nd he) bal⟩
  | false =>
    refine ⟨none, fun G B => .bad ?_⟩
    have z : WTh K G arcs (.ref d) (valsB (fun n => .int (y n)) arcs) := .val (B _ _ ad.1 ad.2 h (fun _ z => by cases z)) (by omega) (just_valD nok.nd) (fun n => .int (y n)) fun e he => ⟨valD_getI nok.nd he, .int _⟩
    rwa [bal] at z
theorem wtg_put {K : PySem.W.Frag} {l ls : Addr} {arcs : NtT} {H : Hp} {d : Addr} {y : Str → Int} {e0 : Str × ArT} {v : V} (nok : NtOk arcs) (he0 : e0 ∈ arcs) (av : Atom v) (h : H d = some (.dK (putK (valD (fun n => .int (y n)) arcs) (Sum.inr e0.1) v))) (ad : d ≠ l ∧ d ≠ ls) : WtG K l ls arcs H (.ref d) := by
  have sh := nok.n1
  have hin : e0.1 ∈ arcs.map (·.1) := List.mem_map_of_mem he0
  have lv : (valD (fun n => V.int (y n)) arcs).length = arcs.length := List.length_map _
  have key : (∃ k : Int, v = .int k) ∨ cntB v = false := by
    cases av with
    | int i => exact .inl ⟨i, rfl⟩
    | str x => exact .inr rfl
    | bl b => exact .inr rfl
    | non => exact .inr rfl
  rcases key with ⟨k, rfl⟩ | cv
  · have e : putK (valD (fun n => V.int (y n)) arcs) (Sum.inr e0.1) (.int k) = valD (fun n => .int (putI y e0.1 (k - y e0.1) n)) arcs := by
      have z := valD_put (x := y) (m := k - y e0.1) hin
      rw [show y e0.1 + (k - y e0.1) = k by omega] at z
      exact z
    rw [e] at h
    exact wtg_valD nok h ad
  · refine ⟨none, fun G B => .bad ?_⟩
    have hg := B _ _ ad.1 ad.2 h (fun _ z => by cases z)
    have lp := length_putK (valD (fun n => V.int (y n)) arcs) (Sum.inr e0.1) v
    have va : ∀ e ∈ arcs, valV (putK (valD (fun n => V.int (y n)) arcs) (Sum.inr e0.1) v) (Sum.inr e.1) = some (if e.1 = e0.1 then v else .int (y e.1)) := fun e he => by
      rw [valV_put]
      by_cases c : e.1 = e0.1
      · rw [if_pos (congrArg Sum.inr c), if_pos c]
      · rw [if_neg (fun z => c (Sum.inr.inj z)), if_neg c]
        exact valD_getI nok.nd he
    have hk : (Sum.inr e0.1 : Key) ∈ (valD (fun n => V.int (y n)) arcs).map (·.1) := by
      unfold valD
      rw [List.map_map]
      exact List.mem_map_of_mem (f := (fun x => x.1) ∘ fun e : Str × ArT => ((Sum.inr e.1 : Key), V.int (y e.1))) he0
    have lp2 : (putK (valD (fun n => V.int (y n)) arcs) (Sum.inr e0.1) v).length = arcs.length := by rw [put_has hk, List.length_map]; exact lv
    have j : justB (putK (valD (fun n => V.int (y n)) arcs) (Sum.inr e0.1) v) (arcs.map (·.1)) = true := by
      unfold justB
      rw [lp2, decide_eq_true (by rw [List.length_map]), Bool.true_and]
      refine (List.all_eq_true.mpr fun n hn => ?_)
      obtain ⟨e, he, rfl⟩ := List.mem_map.mp hn
      rw [va e he]
      rfl
    have z : WTh K G arcs (.ref d) (valsB (fun n => if n = e0.1 then v else .int (y n)) arcs) := .val hg (by omega) j _ fun e he => ⟨va e he, by split; exact av; exact .int _⟩
    have f : valsB (fun n => if n = e0.1 then v else .int (y n)) arcs = false := by
      unfold valsB
      have f2 : (arcs.all fun e => cntB (if e.1 = e0.1 then v else .int (y e.1))) = false := by
        refine List.all_eq_false.mpr ⟨e0, he0, ?_⟩
        rw [if_pos rfl, cv]
        exact Bool.false_ne_true
      rw [f2]
      rfl
    rwa [f] at z
theorem wtg_atom {K : PySem.W.Frag} {l ls : Addr} {arcs : NtT} {H : Hp} {v : V} (a : Atom v) : WtG K l ls arcs H v := by
  refine ⟨none, fun G B => .bad (.no ?_)⟩
  cases a with
  | str x => exact ⟨_, .base (.str x), by decide +kernel⟩
  | int i => exact ⟨_, .base (.int i), by decide +kernel⟩
  | bl b => exact ⟨_, .base (.bl b), by decide +kernel⟩
  | non => exact ⟨_, .base .non, by decide +kernel⟩
theorem sqa_be {K : PySem.W.Frag} {l ls : Addr} {H G : Hp} {a : Addr} {xs : List V} (h : SqA K H a xs) (aa : a ≠ l ∧ a ≠ ls) (B : BE l ls H G) : SqA K G a xs := h.elim (fun h => .inl (B _ _ aa.1 aa.2 h (fun _ z => by cases z))) fun h => .inr (B _ _ aa.1 aa.2 h (fun _ z => by cases z))
theorem pag_two {K : PySem.W.Frag} {l ls : Addr} {arcs : NtT} {H : Hp} {a : Addr} {u v : V} (h : SqA K H a [u, v]) (aa : a ≠ l ∧ a ≠ ls) (h1 : WtG K l ls arcs H u) (h2 : WtG K l ls arcs H v) : PaG K l ls arcs H (.ref a) := by
  obtain ⟨o1, r1⟩ := h1
  obtain ⟨o2, r2⟩ := h2
  exact ⟨both o1 o2, fun G B => .two (sqa_be h aa B) (r1 G B) (r2 G B)⟩
theorem pag_len {K : PySem.W.Frag} {l ls : Addr} {arcs : NtT} {H : Hp} {a : Addr} {xs : List V} (h : SqA K H a xs) (aa : a ≠ l ∧ a ≠ ls) (n : xs.length ≠ 2) (sh : xs.length < 1000) : PaG K l ls arcs H (.ref a) := ⟨none, fun G B => .len (sqa_be h aa B) n sh⟩
theorem pag_atom {K : PySem.W.Frag} {l ls : Addr} {arcs : NtT} {H : Hp} {v : V} (a : Atom v) : PaG K l ls arcs H v := by
  refine ⟨none, fun G B => .no ?_⟩
  cases a with
  | str x => exact ⟨_, .base (.str x), by decide +kernel, by decide +kernel⟩
  | int i => exact ⟨_, .base (.int i), by decide +kernel, by decide +kernel⟩
  | bl b => exact ⟨_, .base (.bl b), by decide +kernel, by decide +kernel⟩
  | non => exact ⟨_, .base .non, by decide +kernel, by decide +kernel⟩
theorem pag_dict {K : PySem.W.Frag} {l ls : Addr} {arcs : NtT} {H : Hp} {a : Addr} (h : H a = some (.dK [])) (aa : a ≠ l ∧ a ≠ ls) : PaG K l ls arcs H (.ref a) :=
  ⟨none, fun G B => .no ⟨_, .base (.dK (B _ _ aa.1 aa.2 h (fun _ z => by cases z))), by decide +kernel, by decide +kernel⟩⟩
def spPairs (K : PySem.W.Frag) : Sp := fun vs H Q _ => ∃ (l ls D : Addr) (pv : V) (arcs : NtT) (A : Addr → Prop) (N : Int), vs = [.ref l, .ref D, pv] ∧ Strm H l ls N ∧ N ≤ 600000 ∧ PyD.at_ A H (.ref D) (Dc.mk arcs) ∧ (∀ c, A c → c ≠ l ∧ c ≠ ls) ∧ NtOk arcs ∧ arcs.length ≤ 8 ∧
  (pv = .non ∨ ∃ (p f g : Addr) (y1 y2 : Str → Int), pv = .ref p ∧ H p = some (.tup [.ref f, .ref g]) ∧ H f = some (.dK (valD (fun n => .int (y1 n)) arcs)) ∧ H g = some (.dK (valD (fun n => .int (y2 n)) arcs)) ∧ (p ≠ l ∧ p ≠ ls) ∧ (f ≠ l ∧ f ≠ ls) ∧ (g ≠ l ∧ g ≠ ls)) ∧
  ∀ H' q ys, H' q = some (.lst ys) → (q ≠ l ∧ q ≠ ls) → ys.length < 100 → (∀ v ∈ ys, PaG K l ls arcs H' v) → Strm H' l ls (N + 2010) → But l ls H H' → Q (.ref q) H'
abbrev NPr : List Str := ["stream", "arcs", "pair", "one", "other", "found", "bent", "name"]
theorem scPr : FnScope NPr ["stream", "arcs", "pair"] (defScope sPairs) := ⟨rfl, rfl, rfl, by decide +kernel, rfl, by decide +kernel, by decide +kernel⟩
section
variable {P : Program} {w : World} {K : PySem.W.Frag} {mg : Str → Option Value} {base : Heap} {f fW fP : Addr} {fd fdW fdP : FuncData}
theorem ok_pairs (F : Fun K "_law_c_pairs" "_law_c_pairs" sPairs f fd) (FW : Fun K "_law_c_world" "_law_c_world" sWorldL fW fdW) (gW : mg "_law_c_world" = some (.ref fW)) (GW : FnOk P w K mg base CX0 4 fW fdW ["stream", "arcs"] spWorldL) (FP : Fun K "_law_pick" "_law_pick" sPick fP fdP) (gP : mg "_law_pick" = some (.ref fP)) (GP : FnOk P w K mg base CX0 2 fP fdP ["stream", "some"] (spPick K)) (M : Sm mg) (nD : mg "dict" = none) : FnOk P w K mg base CX0 5 f fd ["stream", "arcs", "pair"] (spPairs K) := by
  have bW := FW.binds (ps := ["stream", "arcs"]) fun _ _ _ _ _ _ us hl => match us, hl with | [_, _], _ => rfl
  have bP := FP.binds (ps := ["stream", "some"]) fun _ _ _ _ _ _ us hl => match us, hl with | [_, _], _ => rfl
  refine F.ok scPr (fun vs H Q E h => by obtain ⟨l, ls, D, pv, arcs, A, N, e, _⟩ := h; rw [e]; rfl) fun cdv A outer s H vs Q E hr hsp => ?_
  obtain ⟨l, ls, D, pv0, arcs, A0, N, rfl, S, hN, at_, hA, nok, l8, hp, hq⟩ := hsp
  have nd := scPr.nd
  have hu := hu_of (hr.mono (show 1 ≤ 4 by decide))
  refine ⟨_, pss_cons (ps_par (i := 3) (j := 4) rfl nd rfl rfl (by decide) rfl rfl (pa_cons (pe_call GW hr rfl gW FW.kp bW .nil pass0 (pa_cons (pv 0) (pa_cons (pv 1) pa_nil))) (pa_cons (pe_call GW hr rfl gW FW.kp bW .nil pass0 (pa_cons (pv 0) (pa_cons (pv 1) pa_nil))) pa_nil)) (by rfl))
    (pss_cons (ps_set (i := 5) nd rfl (Or.inl rfl) (pe_lst (pa_cons (pe_tup (pa_cons (pv 3) (pa_cons (pv 4) pa_nil))) (pa_cons (pe_lst (pa_cons (pv 3) (pa_cons (pv 4) pa_nil))) (pa_cons (pe_tup (pa_cons (pv 3) (pa_cons (pv 3) pa_nil))) (pa_cons (pe_tup (pa_cons (pv 3) pa_nil)) (pa_cons (pe_tup (pa_cons (pv 3) (pa_cons (pv 4) (pa_cons (pv 3) pa_nil)))) (pa_cons pe_non (pa_cons pe_int (pa_cons pe_dnewK (pa_cons (pe_tup (pa_cons (pv 3) (pa_cons pe_non pa_nil))) (pa_cons (pe_tup (pa_cons pe_int (pa_cons (pv 4) pa_nil))) pa_nil))))))))))))
    (pss_cons (ps_if (pt_cmp (pc_notN (pv 2))) (pss_cons (ps_set (i := 6) nd rfl (Or.inl rfl) (pe_callTy call_dictD rfl nD boot_dict' (pa_cons (pe_ix (r := rIx K) ix_seq (pv 2) pe_int (fun _ _ => rfl)) pa_nil)))
      (pss_cons (ps_set (i := 7) nd rfl (Or.inl rfl) (pe_call GP (hr.mono (by decide)) rfl gP FP.kp bP .nil pass0 (pa_cons (pv 0) (pa_cons (pe_callTy (call_listD rfl) rfl M.nL boot_list' (pa_cons (pv 1) pa_nil)) pa_nil))))
      (pss_cons (ps_dput hu (pv 6) (pv 7) (pe_call GP (hr.mono (by decide)) rfl gP FP.kp bP .nil pass0 (pa_cons (pv 0) (pa_cons (pe_lst (pa_cons (pe_op op_add (pe_dget hu (pv 6) (pv 7) (fun _ _ => rfl)) pe_int) (pa_cons (pe_un un_neg pe_int) (pa_cons pe_non (pa_cons pe_bl pa_nil))))) pa_nil))) rfl)
      (pss_one (ps_set (i := 5) nd rfl (Or.inl rfl) (pe_op op_cat (pv 5) (pe_lst (pa_cons (pv 2) (pa_cons (pe_callTy (r := rLoP K) call_list_of rfl M.nL boot_list' (pa_cons (pv 2) pa_nil)) (pa_cons (pe_revP (pv 2)) (pa_cons (pe_tup (pa_cons (pe_ix (r := rIx K) ix_seq (pv 2) pe_int (fun _ _ => rfl)) (pa_cons (pv 6) pa_nil))) (pa_cons (pe_tup (pa_cons (pe_ix (r := rIx K) ix_seq (pv 2) pe_int (fun _ _ => rfl)) (pa_cons (pe_ix (r := rIx K) ix_seq (pv 2) pe_int (fun _ _ => rfl)) pa_nil))) (pa_cons (pe_tup (pa_cons (pv 3) (pa_cons (pe_ix (r := rIx K) ix_seq (pv 2) pe_int (fun _ _ => rfl)) pa_nil))) pa_nil))))))))))))) pss_nil)
    (pss_one (ps_ret (pv 5))))), ?_⟩
  have n0 := nok.n0
  refine ⟨_, rfl, _, rfl, l, ls, D, arcs, A0, N, rfl, S, by omega, at_, hA, l8, fun H1 w1 x1 nw1 aw1 ow1 bal1 S1 B1 => ?_⟩
  have keep : ∀ {G : Hp}, But l ls H G → PyD.at_ A0 G (.ref D) (Dc.mk arcs) := fun B => PyD.kp at_ fun b o a e => ⟨a, B _ _ (hA b a).1 (hA b a).2 e⟩
  refine ⟨_, rfl, _, rfl, l, ls, D, arcs, A0, _, rfl, S1, by omega, keep B1, hA, l8, fun H2 w2 x2 nw2 aw2 ow2 bal2 S2 B2 => ⟨_, _, rfl, ?_⟩⟩
  have ow1 := B2 _ _ aw1.1 aw1.2 ow1
  have B02 := B1.trans B2
  have k : Same H2 H2 := Same.refl _
  refine ⟨_, rfl, _, rfl, (by show 2 ≤ sizeLine; decide), fun p1 np1 => ?_⟩
  have kk := same_new (o := .tup [.ref w1, .ref w2]) np1
  have ap1 := S2.apart k np1
  have op1 : upd H2 p1 (.tup [.ref w1, .ref w2]) p1 = some (.tup [.ref w1, .ref w2]) := upd_same
  have k := k.trans kk
  generalize upd H2 p1 (.tup [.ref w1, .ref w2]) = G1 at k op1
  clear kk
  refine ⟨_, rfl, _, rfl, (by show 2 ≤ sizeLine; decide), fun p2 np2 => ?_⟩
  have kk := same_new (o := .lst [.ref w1, .ref w2]) np2
  have ap2 := S2.apart k np2
  have op2 : upd G1 p2 (.lst [.ref w1, .ref w2]) p2 = some (.lst [.ref w1, .ref w2]) := upd_same
  have k := k.trans kk
  have op1 := kk _ _ op1
  generalize upd G1 p2 (.lst [.ref w1, .ref w2]) = G2 at k op1 op2
  clear kk
  refine ⟨_, rfl, _, rfl, (by show 2 ≤ sizeLine; decide), fun p3 np3 => ?_⟩
  have kk := same_new (o := .tup [.ref w1, .ref w1]) np3
  have ap3 := S2.apart k np3
  have op3 : upd G2 p3 (.tup [.ref w1, .ref w1]) p3 = some (.tup [.ref w1, .ref w1]) := upd_same
  have k := k.trans kk
  have op1 := kk _ _ op1
  have op2 := kk _ _ op2
  generalize upd G2 p3 (.tup [.ref w1, .ref w1]) = G3 at k op1 op2 op3
  clear kk
  refine ⟨_, rfl, (by show 1 ≤ sizeLine; decide), fun p4 np4 => ?_⟩
  have kk := same_new (o := .tup [.ref w1]) np4
  have ap4 := S2.apart k np4
  have op4 : upd G3 p4 (.tup [.ref w1]) p4 = some (.tup [.ref w1]) := upd_same
  have k := k.trans kk
  have op1 := kk _ _ op1
  have op2 := kk _ _ op2
  have op3 := kk _ _ op3
  generalize upd G3 p4 (.tup [.ref w1]) = G4 at k op1 op2 op3 op4
  clear kk
  refine ⟨_, rfl, _, rfl, _, rfl, (by show 3 ≤ sizeLine; decide), fun p5 np5 => ?_⟩
  have kk := same_new (o := .tup [.ref w1, .ref w2, .ref w1]) np5
  have ap5 := S2.apart k np5
  have op5 : upd G4 p5 (.tup [.ref w1, .ref w2, .ref w1]) p5 = some (.tup [.ref w1, .ref w2, .ref w1]) := upd_same
  have k := k.trans kk
  have op1 := kk _ _ op1
  have op2 := kk _ _ op2
  have op3 := kk _ _ op3
  have op4 := kk _ _ op4
  generalize upd G4 p5 (.tup [.ref w1, .ref w2, .ref w1]) = G5 at k op1 op2 op3 op4 op5
  clear kk
  refine fun p6 np6 => ?_
  have kk := same_new (o := .dK []) np6
  have ap6 := S2.apart k np6
  have op6 : upd G5 p6 (.dK []) p6 = some (.dK []) := upd_same
  have k := k.trans kk
  have op1 := kk _ _ op1
  have op2 := kk _ _ op2
  have op3 := kk _ _ op3
  have op4 := kk _ _ op4
  have op5 := kk _ _ op5
  generalize upd G5 p6 (.dK []) = G6 at k op1 op2 op3 op4 op5 op6
  clear kk
  refine ⟨_, rfl, (by show 2 ≤ sizeLine; decide), fun p7 np7 => ?_⟩
  have kk := same_new (o := .tup [.ref w1, .non]) np7
  have ap7 := S2.apart k np7
  have op7 : upd G6 p7 (.tup [.ref w1, .non]) p7 = some (.tup [.ref w1, .non]) := upd_same
  have k := k.trans kk
  have op1 := kk _ _ op1
  have op2 := kk _ _ op2
  have op3 := kk _ _ op3
  have op4 := kk _ _ op4
  have op5 := kk _ _ op5
  have op6 := kk _ _ op6
  generalize upd G6 p7 (.tup [.ref w1, .non]) = G7 at k op1 op2 op3 op4 op5 op6 op7
  clear kk
  refine ⟨_, rfl, (by show 2 ≤ sizeLine; decide), fun p8 np8 => ?_⟩
  have kk := same_new (o := .tup [.int 5, .ref w2]) np8
  have ap8 := S2.apart k np8
  have op8 : upd G7 p8 (.tup [.int 5, .ref w2]) p8 = some (.tup [.int 5, .ref w2]) := upd_same
  have k := k.trans kk
  have op1 := kk _ _ op1
  have op2 := kk _ _ op2
  have op3 := kk _ _ op3
  have op4 := kk _ _ op4
  have op5 := kk _ _ op5
  have op6 := kk _ _ op6
  have op7 := kk _ _ op7
  generalize upd G7 p8 (.tup [.int 5, .ref w2]) = G8 at k op1 op2 op3 op4 op5 op6 op7 op8
  clear kk
  refine ⟨(by show 10 ≤ sizeLine; decide), fun f1 nf1 => ?_⟩
  have kf := same_new (o := .lst [V.ref p1, .ref p2, .ref p3, .ref p4, .ref p5, .non, .int 5, .ref p6, .ref p7, .ref p8]) nf1
  have of1 : upd G8 f1 (.lst [V.ref p1, .ref p2, .ref p3, .ref p4, .ref p5, .non, .int 5, .ref p6, .ref p7, .ref p8]) f1 = some (.lst [V.ref p1, .ref p2, .ref p3, .ref p4, .ref p5, .non, .int 5, .ref p6, .ref p7, .ref p8]) := upd_same
  have af1 := S2.apart k nf1
  have k8 := k.trans kf
  have W1 : WtG K l ls arcs (upd G8 f1 (.lst [V.ref p1, .ref p2, .ref p3, .ref p4, .ref p5, .non, .int 5, .ref p6, .ref p7, .ref p8])) (.ref w1) := wtg_valD nok (k8 _ _ ow1) aw1
  have W2 : WtG K l ls arcs (upd G8 f1 (.lst [V.ref p1, .ref p2, .ref p3, .ref p4, .ref p5, .non, .int 5, .ref p6, .ref p7, .ref p8])) (.ref w2) := wtg_valD nok (k8 _ _ ow2) aw2
  have thA : ∀ v ∈ [V.ref p1, .ref p2, .ref p3, .ref p4, .ref p5, .non, .int 5, .ref p6, .ref p7, .ref p8], PaG K l ls arcs (upd G8 f1 (.lst [V.ref p1, .ref p2, .ref p3, .ref p4, .ref p5, .non, .int 5, .ref p6, .ref p7, .ref p8])) v := fun v h => by
    simp only [List.mem_cons, List.not_mem_nil, or_false] at h
    rcases h with rfl | rfl | rfl | rfl | rfl | rfl | rfl | rfl | rfl | rfl
    · exact pag_two (.inr (kf _ _ op1)) ap1 W1 W2
    · exact pag_two (.inl (kf _ _ op2)) ap2 W1 W2
    · exact pag_two (.inr (kf _ _ op3)) ap3 W1 W1
    · exact pag_len (.inr (kf _ _ op4)) ap4 (by show 1 ≠ 2; decide) (by show 1 < 1000; decide)
    · exact pag_len (.inr (kf _ _ op5)) ap5 (by show 3 ≠ 2; decide) (by show 3 < 1000; decide)
    · exact pag_atom .non
    · exact pag_atom (.int _)
    · exact pag_dict (kf _ _ op6) ap6
    · exact pag_two (.inr (kf _ _ op7)) ap7 W1 (wtg_atom .non)
    · exact pag_two (.inr (kf _ _ op8)) ap8 (wtg_atom (.int _)) W2
  have S8 := S2.same k8
  have B08 : But l ls H (upd G8 f1 (.lst [V.ref p1, .ref p2, .ref p3, .ref p4, .ref p5, .non, .int 5, .ref p6, .ref p7, .ref p8])) := B02.trans (.of k8)
  have ow18 := k8 _ _ ow1
  generalize eV : [V.ref p1, .ref p2, .ref p3, .ref p4, .ref p5, .non, .int 5, .ref p6, .ref p7, .ref p8] = V1 at of1 thA S8 B08 k8 kf W1 W2 ow18
  have lf1 : V1.length = 10 := by rw [← eV]; rfl
  generalize upd G8 f1 (.lst V1) = H8 at of1 thA S8 B08 k8 kf W1 W2 ow18 ⊢
  clear op1 op2 op3 op4 op5 op6 op7 op8
  rcases hp with rfl | ⟨pn, pf, pg, y1, y2, rfl, opn, opf, opg, apn, apf, apg⟩
  · exact ⟨_, rfl, _, rfl, iteF ⟨_, rfl, hq H8 f1 V1 of1 af1 (by omega) thA (S8.mono (by omega)) B08⟩⟩
  have opn8 := B08 _ _ apn.1 apn.2 opn
  have opf8 := B08 _ _ apf.1 apf.2 opf
  have opg8 := B08 _ _ apg.1 apg.2 opg
  refine ⟨_, rfl, _, rfl, iteT ?_⟩
  refine ⟨_, rfl, .inr (.inl ⟨pn, _, _, _, rfl, rfl, SqT.of opn8, rfl, ?_⟩)⟩
  refine ⟨pg, _, rfl, .inl opg8, fun be nbe => ?_⟩
  have abe := S8.apart (Same.refl _) nbe
  have kb := same_new (o := .dK (valD (fun n => .int (y2 n)) arcs)) nbe
  have obe : upd H8 be (.dK (valD (fun n => .int (y2 n)) arcs)) be = some (.dK (valD (fun n => .int (y2 n)) arcs)) := upd_same
  have S9 := S8.same kb
  have lowbe : H8 be = none := nbe
  generalize upd H8 be (.dK (valD (fun n => .int (y2 n)) arcs)) = H9 at kb obe S9
  obtain ⟨D', es, e1, aD, oD, rnd, pr⟩ := keep (B08.trans (.of kb))
  obtain rfl := V.ref.inj e1
  have les : es.length = arcs.length := Paired.length pr
  refine ⟨_, rfl, _, rfl, D, es, rfl, .inl oD, fun p np => ?_⟩
  have ap := S9.apart (Same.refl _) np
  have kp := same_new (o := .lst (es.map fun kv => kV kv.1)) np
  refine ⟨l, ls, p, _, _, rfl, S9.same kp, by omega, ap.1, ap.2, upd_same, by rw [List.length_map]; omega, by rw [List.length_map]; omega, fun H10 v hv S10 B10 => ?_⟩
  have eys : (es.map fun kv => kV kv.1) = arcs.map fun e => V.str e.1 := by rw [keys_L pr, List.map_map]; rfl
  rw [eys] at hv
  obtain ⟨e0, ein0, rfl⟩ := List.mem_map.mp hv
  have B910 : But l ls H9 H10 := (But.of kp).trans B10
  have obe10 := B910 _ _ abe.1 abe.2 obe
  refine ⟨_, rfl, _, rfl, _, rfl, be, _, rfl, .inl ⟨_, Sum.inr e0.1, .inl obe10, rfl, (valD_getI nok.nd ein0).symm⟩, _, _, rfl, rfl, _, rfl, (by show 4 ≤ sizeLine; decide), fun q nq => ?_⟩
  have aq := S10.apart (Same.refl _) nq
  have kq := same_new (o := .lst [.int (y2 e0.1 + 1), .int (-1), .non, .bl true]) nq
  refine ⟨l, ls, q, _, _, rfl, S10.same kq, by omega, aq.1, aq.2, upd_same, by show 0 < 4; decide, by show 4 < 1000; decide, fun H11 u hu S11 B11 => ?_⟩
  have au : Atom u := by
    simp only [List.mem_cons, List.not_mem_nil, or_false] at hu
    rcases hu with rfl | rfl | rfl | rfl
    · exact .int _
    · exact .int _
    · exact .non
    · exact .bl _
  have B911 : But l ls H9 H11 := (B910.trans (.of kq)).trans B11
  have obe11 := B911 _ _ abe.1 abe.2 obe
  have lv : (valD (fun n => V.int (y2 n)) arcs).length = arcs.length := List.length_map _
  refine ⟨_, rfl, _, rfl, be, _, rfl, DPut.k (k := Sum.inr e0.1) obe11 (by rw [lv, sizeLine_eq]; omega), ?_⟩
  have ob12 : upd H11 be (.dK (putK (valD (fun n => .int (y2 n)) arcs) (Sum.inr e0.1) u)) be = some (.dK (putK (valD (fun n => .int (y2 n)) arcs) (Sum.inr e0.1) u)) := upd_same
  have B811 : But l ls H8 H11 := (But.of kb).trans B911
  have B812 : But l ls H8 (upd H11 be (.dK (putK (valD (fun n => .int (y2 n)) arcs) (Sum.inr e0.1) u))) := fun b o h1 h2 e => by
    rw [upd_ne (ne_of_none e lowbe)]
    exact B811 _ _ h1 h2 e
  have S12 : Strm (upd H11 be (.dK (putK (valD (fun n => .int (y2 n)) arcs) (Sum.inr e0.1) u))) l ls (N + 2005) := strm_upd (S11.mono (by omega)) abe
  generalize upd H11 be (.dK (putK (valD (fun n => .int (y2 n)) arcs) (Sum.inr e0.1) u)) = H12 at ob12 B812 S12
  have opn12 := B812 _ _ apn.1 apn.2 opn8
  have opf12 := B812 _ _ apf.1 apf.2 opf8
  have opg12 := B812 _ _ apg.1 apg.2 opg8
  have of12 := B812 _ _ af1.1 af1.2 of1
  have B012 := B08.trans B812
  have k : Same H12 H12 := Same.refl _
  have ixn : ∀ {G : Hp}, Same H12 G → ∀ (R : VK), R (.ref pf) G → rIx K (.ref pn) (.int 0) G R := fun s R r => .inr (.inl ⟨pn, _, _, _, rfl, rfl, SqT.of (s _ _ opn12), rfl, r⟩)
  have ixm : ∀ {G : Hp}, Same H12 G → ∀ (R : VK), R (.ref pg) G → rIx K (.ref pn) (.int 1) G R := fun s R r => .inr (.inl ⟨pn, _, _, _, rfl, rfl, SqT.of (s _ _ opn12), rfl, r⟩)
  refine ⟨_, rfl, _, rfl, ?_⟩
  refine ⟨_, rfl, pn, _, rfl, .inr (SqT.of opn12), fun q1 nq1 => ?_⟩
  have kk := same_new (o := .lst [.ref pf, .ref pg]) nq1
  have aq1 := S12.apart k nq1
  have oq1 : upd H12 q1 (.lst [.ref pf, .ref pg]) q1 = some (.lst [.ref pf, .ref pg]) := upd_same
  have k := k.trans kk
  generalize upd H12 q1 (.lst [.ref pf, .ref pg]) = J1 at k oq1
  clear kk
  refine ⟨_, rfl, pn, _, _, rfl, SqT.of (k _ _ opn12), fun q2 nq2 => ?_⟩
  have kk := same_new (o := .tup [.ref pg, .ref pf]) nq2
  have aq2 := S12.apart k nq2
  have oq2 : upd J1 q2 (.tup [.ref pg, .ref pf]) q2 = some (.tup [.ref pg, .ref pf]) := upd_same
  have k := k.trans kk
  have oq1 := kk _ _ oq1
  generalize upd J1 q2 (.tup [.ref pg, .ref pf]) = J2 at k oq1 oq2
  clear kk
  refine ⟨_, rfl, ixn k _ ⟨_, rfl, (by show 2 ≤ sizeLine; decide), fun q3 nq3 => ?_⟩⟩
  have kk := same_new (o := .tup [.ref pf, .ref be]) nq3
  have aq3 := S12.apart k nq3
  have oq3 : upd J2 q3 (.tup [.ref pf, .ref be]) q3 = some (.tup [.ref pf, .ref be]) := upd_same
  have k := k.trans kk
  have oq1 := kk _ _ oq1
  have oq2 := kk _ _ oq2
  generalize upd J2 q3 (.tup [.ref pf, .ref be]) = J3 at k oq1 oq2 oq3
  clear kk
  refine ⟨_, rfl, ixn k _ ⟨_, rfl, ixn k _ ⟨(by show 2 ≤ sizeLine; decide), fun q4 nq4 => ?_⟩⟩⟩
  have kk := same_new (o := .tup [.ref pf, .ref pf]) nq4
  have aq4 := S12.apart k nq4
  have oq4 : upd J3 q4 (.tup [.ref pf, .ref pf]) q4 = some (.tup [.ref pf, .ref pf]) := upd_same
  have k := k.trans kk
  have oq1 := kk _ _ oq1
  have oq2 := kk _ _ oq2
  have oq3 := kk _ _ oq3
  generalize upd J3 q4 (.tup [.ref pf, .ref pf]) = J4 at k oq1 oq2 oq3 oq4
  clear kk
  refine ⟨_, rfl, _, rfl, ixm k _ ⟨(by show 2 ≤ sizeLine; decide), fun q5 nq5 => ?_⟩⟩
  have kk := same_new (o := .tup [.ref w1, .ref pg]) nq5
  have aq5 := S12.apart k nq5
  have oq5 : upd J4 q5 (.tup [.ref w1, .ref pg]) q5 = some (.tup [.ref w1, .ref pg]) := upd_same
  have k := k.trans kk
  have oq1 := kk _ _ oq1
  have oq2 := kk _ _ oq2
  have oq3 := kk _ _ oq3
  have oq4 := kk _ _ oq4
  generalize upd J4 q5 (.tup [.ref w1, .ref pg]) = J5 at k oq1 oq2 oq3 oq4 oq5
  clear kk
  refine ⟨(by show 6 ≤ sizeLine; decide), fun q6 nq6 => ?_⟩
  have k6 := same_new (o := .lst [V.ref pn, .ref q1, .ref q2, .ref q3, .ref q4, .ref q5]) nq6
  refine ⟨f1, q6, _, _, rfl, rfl, (k.trans k6) _ _ of12, upd_same, by rw [sizeLine_eq, lf1]; show 10 + 6 ≤ _; omega, fun f2 nf2 => ⟨_, rfl, ?_⟩⟩
  have k7 := same_new (o := .lst (V1 ++ [V.ref pn, .ref q1, .ref q2, .ref q3, .ref q4, .ref q5])) nf2
  have kA := k6.trans k7
  have kB := k.trans kA
  have af2 := S12.apart (k.trans k6) nf2
  have bB := BE.of (l := l) (ls := ls) (B812.trans (.of kB))
  refine hq _ f2 (V1 ++ [V.ref pn, .ref q1, .ref q2, .ref q3, .ref q4, .ref q5]) upd_same af2 (by rw [List.length_append, lf1]; show 10 + 6 < 100; omega) (fun v hv => ?_) ((S12.same kB).mono (by omega)) (B012.trans (.of kB))
  have WF := wtg_valD (K := K) nok (kB _ _ opf12) apf
  have WG := wtg_valD (K := K) nok (kB _ _ opg12) apg
  have WB := wtg_put (K := K) nok ein0 au (kB _ _ ob12) abe
  rcases List.mem_append.mp hv with h | h
  · exact (thA v h).go bB
  · simp only [List.mem_cons, List.not_mem_nil, or_false] at h
    rcases h with rfl | rfl | rfl | rfl | rfl | rfl
    · exact pag_two (.inr (kB _ _ opn12)) apn WF WG
    · exact pag_two (.inl (kA _ _ oq1)) aq1 WF WG
    · exact pag_two (.inr (kA _ _ oq2)) aq2 WG WF
    · exact pag_two (.inr (kA _ _ oq3)) aq3 WF WB
    · exact pag_two (.inr (kA _ _ oq4)) aq4 WF WF
    · exact pag_two (.inr (kA _ _ oq5)) aq5 (W1.go bB) WG
end
end L2.TB
/-! what goes over a cut: a plan finds the answer in each world -/
namespace L2.TB
open PySem PySem.Spec PyProof.Rows LamX
theorem outZ_cons {a : Str} {S : List Str} {e : Str × ArT} (h : a ∉ S) : outZ (a :: S) e = outZ S e + ((if e.2.1 = a then 1 else 0) - (if e.2.2 = a then 1 else 0)) := by
  unfold outZ
  by_cases h1 : e.2.1 = a <;> by_cases h2 : e.2.2 = a
  · have c1 : e.2.1 ∉ S := fun z => h (h1 ▸ z)
    have c2 : e.2.2 ∉ S := fun z => h (h2 ▸ z)
    simp [h1, h2, h]
  · have c1 : e.2.1 ∉ S := fun z => h (h1 ▸ z)
    simp [h1, h2, h]
    by_cases c : e.2.2 ∈ S <;> simp [c]
  · simp [h1, h2, h]
    by_cases c : e.2.1 ∈ S <;> simp [c]
  · simp [h1, h2]
/-- over the arcs, what leads out of a set of nodes sums to nothing -/
theorem out_bal {arcs : NtT} {x : Str → Int} (b : ∀ n, netI x n arcs = 0) : ∀ S : List Str, S.Nodup → (arcs.map fun e => outZ S e * x e.1).sum = 0
  | [], _ => by
    have z : ∀ l : NtT, (l.map fun e => outZ [] e * x e.1).sum = 0 := fun l => by
      induction l with
      | nil => rfl
      | cons e r ih =>
        rw [List.map_cons, List.sum_cons, ih]
        have : outZ [] e = 0 := by unfold outZ; simp
        rw [this, Int.zero_mul]
        rfl
    exact z arcs
  | a :: S, nd => by
    have h := (List.nodup_cons.mp nd).1
    have ih := out_bal b S (List.nodup_cons.mp nd).2
    have z : ∀ l : NtT, (l.map fun e => outZ (a :: S) e * x e.1).sum = (l.map fun e => outZ S e * x e.1).sum - netI x a l := fun l => by
      induction l with
      | nil => rfl
      | cons e r ih2 =>
        rw [List.map_cons, List.sum_cons, ih2, List.map_cons, List.sum_cons, outZ_cons h, Int.add_mul]
        have q : netI x a (e :: r) = (if e.2.2 = a then x e.1 else 0) - (if e.2.1 = a then x e.1 else 0) + netI x a r := by
          first | rfl | (unfold netI; omega) | (show _ = _; simp only [netI]; omega)
        rw [q]
        have q2 : ((if e.2.1 = a then (1 : Int) else 0) - (if e.2.2 = a then 1 else 0)) * x e.1 = (if e.2.1 = a then x e.1 else 0) - (if e.2.2 = a then x e.1 else 0) := by
          split <;> split <;> simp
        rw [q2]
        omega
    rw [z arcs, ih, b a]
    rfl
theorem sum_zero_nn : ∀ {l : List Int}, (∀ z ∈ l, 0 ≤ z) → l.sum = 0 → ∀ z ∈ l, z = 0
  | [], _, _, z, h => by cases h
  | a :: l, h, e, z, hz => by
    have ha := h a List.mem_cons_self
    have hl : 0 ≤ l.sum := by
      have q : ∀ m : List Int, (∀ z ∈ m, 0 ≤ z) → 0 ≤ m.sum := fun m => by
        induction m with
        | nil => intro _; exact Int.le_refl _
        | cons b m ih =>
          intro hm
          rw [List.sum_cons]
          have := hm b List.mem_cons_self
          have := ih fun z hz => hm z (List.mem_cons_of_mem _ hz)
          omega
      exact q l fun z hz => h z (List.mem_cons_of_mem _ hz)
    rw [List.sum_cons] at e
    rcases (List.mem_cons.mp hz) with rfl | hz
    · omega
    · exact sum_zero_nn (fun z hz => h z (List.mem_cons_of_mem _ hz)) (by omega) z hz
theorem dead_zero {arcs : NtT} {x : Str → Int} (nn : ∀ o ∈ arcs, 0 ≤ x o.1) (b : ∀ n, netI x n arcs = 0) {e : Str × ArT} (he : e ∈ arcs) (nr : ¬ Reach (edgesOf arcs) e.2.2 e.2.1) : x e.1 = 0 := by
  classical
  let R : List Str := (nodesL arcs).filter fun n => decide (Reach (edgesOf arcs) e.2.2 n)
  have ndR : R.Nodup := (nodes_nd arcs).sublist List.filter_sublist
  have inR : ∀ n, (∃ o ∈ arcs, n = o.2.1 ∨ n = o.2.2) → (n ∈ R ↔ Reach (edgesOf arcs) e.2.2 n) := fun n hn => by
    have hm : n ∈ nodesL arcs := (nodesF_in arcs [] n).mpr (.inr hn)
    constructor
    · intro h; exact of_decide_eq_true (List.mem_filter.mp h).2
    · intro h; exact List.mem_filter.mpr ⟨hm, decide_eq_true h⟩
  have z := out_bal b R ndR
  have z2 : (arcs.map fun o => - (outZ R o * x o.1)).sum = 0 := by
    have q : ∀ l : NtT, (l.map fun o => - (outZ R o * x o.1)).sum = - (l.map fun o => outZ R o * x o.1).sum := fun l => by
      induction l with
      | nil => rfl
      | cons o r ih => rw [List.map_cons, List.sum_cons, ih, List.map_cons, List.sum_cons]; omega
    rw [q arcs, z]
    rfl
  have nn2 : ∀ t ∈ arcs.map fun o => - (outZ R o * x o.1), 0 ≤ t := fun t ht => by
    obtain ⟨o, ho, rfl⟩ := List.mem_map.mp ht
    have h1 := inR o.2.1 ⟨o, ho, .inl rfl⟩
    have h2 := inR o.2.2 ⟨o, ho, .inr rfl⟩
    have cl : o.2.1 ∈ R → o.2.2 ∈ R := fun h => h2.mpr (.step (h1.mp h) (show (o.2.1, o.2.2) ∈ edgesOf arcs from List.mem_map_of_mem (f := fun q : Str × ArT => q.2) ho))
    have xo := nn o ho
    unfold outZ
    by_cases c1 : o.2.1 ∈ R
    · have c2 := cl c1
      simp [c1, c2]
    · by_cases c2 : o.2.2 ∈ R
      · simp [c1, c2]; exact xo
      · simp [c1, c2]
  have q := sum_zero_nn nn2 z2 _ (List.mem_map_of_mem he)
  have hs : e.2.1 ∉ R := fun h => nr ((inR e.2.1 ⟨e, he, .inl rfl⟩).mp h)
  have ht : e.2.2 ∈ R := (inR e.2.2 ⟨e, he, .inr rfl⟩).mpr .base
  have q : - (outZ R e * x e.1) = 0 := q
  have o1 : outZ R e = -1 := by unfold outZ; rw [if_neg hs, if_pos ht]; rfl
  rw [o1] at q
  omega
/-- the sum of all is the sum of what counts -/
theorem sum_part {α : Type} (f : α → Int) (p : α → Bool) : ∀ l : List α, (∀ o ∈ l, p o = false → f o = 0) → (l.map f).sum = ((l.filter p).map f).sum
  | [], _ => rfl
  | a :: l, h => by
    have ih := sum_part f p l fun o ho => h o (List.mem_cons_of_mem _ ho)
    rw [List.map_cons, List.sum_cons, List.filter_cons]
    cases c : p a with
    | true => rw [if_pos rfl, List.map_cons, List.sum_cons, ih]
    | false => rw [if_neg Bool.false_ne_true, h a List.mem_cons_self c, ih]; omega
theorem sum_one {f : Str × ArT → Int} {e : Str × ArT} : ∀ {l : NtT}, (l.map (·.1)).Nodup → e ∈ l → (l.map f).sum = f e + ((l.filter fun o => decide (o.1 ≠ e.1)).map f).sum
  | a :: l, nd, h => by
    rw [List.map_cons, List.nodup_cons] at nd
    rw [List.map_cons, List.sum_cons, List.filter_cons]
    rcases List.mem_cons.mp h with rfl | h
    · rw [if_neg (by simp)]
      have q : (l.filter fun o => decide (o.1 ≠ e.1)) = l := List.filter_eq_self.mpr fun o ho => decide_eq_true fun z => nd.1 (z ▸ List.mem_map_of_mem ho)
      rw [q]
    · have ne : a.1 ≠ e.1 := fun z => nd.1 (z ▸ List.mem_map_of_mem h)
      rw [if_pos (decide_eq_true ne), List.map_cons, List.sum_cons, sum_one nd.2 h]
      omega
theorem found_world {arcs : NtT} {ks : List Str} {e : Str × ArT} {S : List Str} {x : Str → Int} (nok : NtOk arcs) (he : e ∈ arcs) (ndS : S.Nodup) (pb : planB arcs ks e S = true) (nn : ∀ o ∈ arcs, 0 ≤ x o.1) (b : ∀ n, netI x n arcs = 0) : foundZ arcs ks e S x = x e.1 := by
  unfold foundZ
  by_cases c1 : e.1 ∈ ks
  · rw [if_pos c1]
  rw [if_neg c1]
  have liveM : ∀ o ∈ arcs, o.1 ∈ liveL arcs ↔ liveB arcs o = true := fun o ho => by
    constructor
    · intro h
      obtain ⟨o', ho', en, hr⟩ := live_arc h
      have : o' = o := by
        have h1 := lk_mem nok.nd ho'
        have h2 := lk_mem nok.nd ho
        rw [en] at h1
        rw [h1] at h2
        exact Prod.ext en (Option.some.inj h2)
      rw [← this]
      exact liveB_iff.mpr hr
    · intro h
      unfold liveL
      exact List.mem_map_of_mem (List.mem_filter.mpr ⟨ho, h⟩)
  have dead : ∀ o ∈ arcs, liveB arcs o = false → x o.1 = 0 := fun o ho h => dead_zero nn b ho fun r => by
    rw [liveB_iff.mpr r] at h
    cases h
  by_cases c2 : e.1 ∈ liveL arcs
  case neg =>
    rw [if_pos c2]
    refine (dead e he ?_).symm
    cases q : liveB arcs e with
    | false => rfl
    | true => exact absurd ((liveM e he).mpr q) c2
  rw [if_neg (fun h => h c2)]
  have g : givB arcs ks e.1 = false := by unfold givB; rw [decide_eq_false c1, decide_eq_false (fun h => h c2)]; rfl
  unfold planB at pb
  rw [g, if_neg Bool.false_ne_true, Bool.and_eq_true] at pb
  obtain ⟨cut, oth⟩ := pb
  have bal := out_bal b S ndS
  rw [sum_one (f := fun o => outZ S o * x o.1) nok.nd he] at bal
  have part := sum_part (fun o : Str × ArT => outZ S o * x o.1) (fun o => liveB arcs o && decide (o.1 ∈ ks)) (arcs.filter fun o => decide (o.1 ≠ e.1)) fun o ho hp => by
    obtain ⟨ho1, ho2⟩ := List.mem_filter.mp ho
    have ne := of_decide_eq_true ho2
    cases lb : liveB arcs o with
    | false => show outZ S o * x o.1 = 0; rw [dead o ho1 lb, Int.mul_zero]
    | true =>
      rw [lb, Bool.true_and] at hp
      have nk : o.1 ∉ ks := of_decide_eq_false hp
      have m : o ∈ othE arcs ks e.1 := List.mem_filter.mpr ⟨ho1, by rw [lb, decide_eq_true nk, decide_eq_true ne]; rfl⟩
      have nc := List.all_eq_true.mp oth o m
      have nc2 : cutB S o = false := by cases q : cutB S o with
        | false => rfl
        | true => rw [q] at nc; cases nc
      rw [← out_cut, Bool.not_eq_false'] at nc2
      show outZ S o * x o.1 = 0
      rw [of_decide_eq_true nc2, Int.zero_mul]
  have fe : ((arcs.filter fun o => decide (o.1 ≠ e.1)).filter fun o => liveB arcs o && decide (o.1 ∈ ks)) = knL arcs ks := by
    unfold knL
    rw [List.filter_filter]
    refine List.filter_congr fun o _ => ?_
    cases q : liveB arcs o && decide (o.1 ∈ ks) with
    | false => rfl
    | true =>
      rw [Bool.and_eq_true] at q
      have : o.1 ≠ e.1 := fun z => c1 (z ▸ of_decide_eq_true q.2)
      rw [decide_eq_true this]
      rfl
  rw [part, fe] at bal
  rw [inwL_out]
  have bal : outZ S e * x e.1 + ((knL arcs ks).map fun o => outZ S o * x o.1).sum = 0 := bal
  unfold cutB at cut
  rw [Bool.not_eq_true', decide_eq_false_iff_not] at cut
  have oz : outZ S e = (if e.2.1 ∈ S then 1 else 0) - (if e.2.2 ∈ S then 1 else 0) := rfl
  by_cases h1 : e.2.1 ∈ S <;> by_cases h2 : e.2.2 ∈ S
  · rw [decide_eq_true h1, decide_eq_true h2] at cut; exact absurd rfl cut
  · rw [if_pos h1]
    rw [oz, if_pos h1, if_neg h2, show (1 : Int) - 0 = 1 from rfl, Int.one_mul] at bal
    omega
  · rw [if_neg h1]
    rw [oz, if_neg h1, if_pos h2, show (0 : Int) - 1 = -1 from rfl, Int.neg_one_mul] at bal
    omega
  · rw [decide_eq_false h1, decide_eq_false h2] at cut; exact absurd rfl cut
end L2.TB
/-! what is told is not apart -/
namespace L2.TB
open PySem PySem.Spec PyProof.Rows LamX
theorem bal_of {arcs : NtT} {x : Str → Int} (h : valsB (fun n => .int (x n)) arcs = true) : BalX arcs x := by
  unfold valsB at h
  rw [Bool.and_eq_true] at h
  refine ⟨fun e he => of_decide_eq_true (List.all_eq_true.mp h.1 e he), fun n => ?_⟩
  by_cases c : n ∈ nodesL arcs
  · have z := of_decide_eq_true (List.all_eq_true.mp h.2 n c)
    rw [inwL_net] at z
    exact z
  · have q : ∀ l : NtT, (∀ e ∈ l, e.2.1 ≠ n ∧ e.2.2 ≠ n) → netI x n l = 0 := fun l => by
      induction l with
      | nil => intro _; rfl
      | cons e r ih =>
        intro hl
        have h1 := hl e List.mem_cons_self
        have h2 := ih fun o ho => hl o (List.mem_cons_of_mem _ ho)
        show (if e.2.2 = n then x e.1 else 0) - (if e.2.1 = n then x e.1 else 0) + netI x n r = 0
        rw [h2, if_neg h1.2, if_neg h1.1]
        rfl
    exact q arcs fun e he => ⟨fun z => c ((nodesF_in arcs [] n).mpr (.inr ⟨e, he, .inl z.symm⟩)), fun z => c ((nodesF_in arcs [] n).mpr (.inr ⟨e, he, .inr z.symm⟩))⟩
theorem inwL_congr {x y : Str → Int} {S : List Str} {L : NtT} (h : ∀ o ∈ L, x o.1 = y o.1) : inwL x S L = inwL y S L := by
  rw [inwL_out, inwL_out]
  have z : (L.map fun o => outZ S o * x o.1) = L.map fun o => outZ S o * y o.1 := List.map_congr_left fun o ho => by rw [h o ho]
  rw [z]
theorem found_congr {arcs : NtT} {ks : List Str} {e : Str × ArT} {S : List Str} {x y : Str → Int} (h : ∀ n ∈ ks, x n = y n) : foundZ arcs ks e S x = foundZ arcs ks e S y := by
  have hk : inwL x S (knL arcs ks) = inwL y S (knL arcs ks) := inwL_congr fun o ho => by
    have := (List.mem_filter.mp ho).2
    rw [Bool.and_eq_true] at this
    exact h _ (of_decide_eq_true this.2)
  unfold foundZ
  rw [hk]
  by_cases c : e.1 ∈ ks
  · rw [if_pos c, if_pos c, h _ c]
  · rw [if_neg c, if_neg c]
theorem told_plan {arcs : NtT} {ks : List Str} {e : Str × ArT} (he : e ∈ arcs) (t : Told arcs ks e) : ∃ S : List Str, S.Nodup ∧ planB arcs ks e S = true := by
  classical
  cases g : givB arcs ks e.1 with
  | true => exact ⟨[], List.nodup_nil, by unfold planB; rw [if_pos g]; rfl⟩
  | false =>
    have nr : ¬ Reach (eithE (othE arcs ks e.1)) e.2.2 e.2.1 := t.resolve_left fun z => by rw [g] at z; cases z
    refine ⟨(nodesL arcs).filter fun n => decide (Reach (eithE (othE arcs ks e.1)) e.2.2 n), (nodes_nd arcs).sublist List.filter_sublist, ?_⟩
    have inR : ∀ n, (∃ o ∈ arcs, n = o.2.1 ∨ n = o.2.2) → (n ∈ ((nodesL arcs).filter fun n => decide (Reach (eithE (othE arcs ks e.1)) e.2.2 n)) ↔ Reach (eithE (othE arcs ks e.1)) e.2.2 n) := fun n hn => by
      have hm : n ∈ nodesL arcs := (nodesF_in arcs [] n).mpr (.inr hn)
      constructor
      · intro h; exact of_decide_eq_true (List.mem_filter.mp h).2
      · intro h; exact List.mem_filter.mpr ⟨hm, decide_eq_true h⟩
    generalize hS : ((nodesL arcs).filter fun n => decide (Reach (eithE (othE arcs ks e.1)) e.2.2 n)) = S at inR ⊢
    unfold planB
    rw [if_neg (by rw [g]; exact Bool.false_ne_true), Bool.and_eq_true]
    constructor
    · unfold cutB
      have h1 : e.2.1 ∉ S := fun z => nr ((inR _ ⟨e, he, .inl rfl⟩).mp z)
      have h2 : e.2.2 ∈ S := (inR _ ⟨e, he, .inr rfl⟩).mpr .base
      rw [decide_eq_false h1, decide_eq_true h2]
      rfl
    · refine List.all_eq_true.mpr fun o ho => ?_
      have ho1 := oth_sub o ho
      have i1 := inR o.2.1 ⟨o, ho1, .inl rfl⟩
      have i2 := inR o.2.2 ⟨o, ho1, .inr rfl⟩
      have m1 : (o.2.1, o.2.2) ∈ eithE (othE arcs ks e.1) := List.mem_map.mpr ⟨onS o, List.mem_append_left _ (List.mem_map_of_mem ho), rfl⟩
      have m2 : (o.2.2, o.2.1) ∈ eithE (othE arcs ks e.1) := List.mem_map.mpr ⟨bkS o, List.mem_append_right _ (List.mem_map_of_mem ho), rfl⟩
      have iff : o.2.1 ∈ S ↔ o.2.2 ∈ S := by
        rw [i1, i2]
        exact ⟨fun h => .step h m1, fun h => .step h m2⟩
      unfold cutB
      by_cases h : o.2.1 ∈ S
      · rw [decide_eq_true h, decide_eq_true (iff.mp h)]
        rfl
      · rw [decide_eq_false h, decide_eq_false (fun z => h (iff.mpr z))]
        rfl
theorem told_same {arcs : NtT} {ks : List Str} {e : Str × ArT} {x y : Str → Int} (nok : NtOk arcs) (he : e ∈ arcs) (t : Told arcs ks e) (bx : BalX arcs x) (by' : BalX arcs y) (h : ∀ n ∈ ks, x n = y n) : x e.1 = y e.1 := by
  obtain ⟨S, ndS, pb⟩ := told_plan he t
  rw [← found_world nok he ndS pb bx.pos bx.bal, ← found_world nok he ndS pb by'.pos by'.bal]
  exact found_congr h
/-- what is judged a pair of worlds -/
theorem path_bal {K : PySem.W.Frag} {H : Hp} {arcs : NtT} {v : V} {p : (Str → Int) × (Str → Int)} (h : PaTh K H arcs v (some p)) : BalX arcs p.1 ∧ BalX arcs p.2 := by
  generalize eo : some p = o at h
  cases h with
  | no h => cases eo
  | len h n sh => cases eo
  | two h h1 h2 =>
    cases h1 with
    | bad h1 => cases eo
    | good k1 x o1 sh1 j1 hv1 b1 =>
      cases h2 with
      | bad h2 => cases eo
      | good k2 y o2 sh2 j2 hv2 b2 =>
        obtain rfl := Option.some.inj eo
        exact ⟨bal_of b1, bal_of b2⟩
theorem told_apO {K : PySem.W.Frag} {H : Hp} {arcs : NtT} {ks : List Str} {e : Str × ArT} {v : V} {o : Option ((Str → Int) × (Str → Int))} (nok : NtOk arcs) (he : e ∈ arcs) (t : Told arcs ks e) (h : PaTh K H arcs v o) : apO ks e.1 o = false := by
  cases o with
  | none => rfl
  | some p =>
    obtain ⟨b1, b2⟩ := path_bal h
    show partB ks e.1 p.1 p.2 = false
    unfold partB
    cases c : (ks.all fun n => decide (p.1 n = p.2 n)) with
    | false => rfl
    | true =>
      have q := told_same nok he t b1 b2 fun n hn => of_decide_eq_true (List.all_eq_true.mp c n hn)
      rw [decide_eq_false (fun z => z q)]
      rfl
end L2.TB
/-! dicts of names and numbers; a drawn one -/
namespace L2.TB
open PySem PySem.Spec PyProof.Rows LamX
def kvI (ks : List Str) (x : Str → Int) : List (Key × V) := ks.map fun n => (Sum.inr n, V.int (x n))
theorem kvI_keys (ks : List Str) (x : Str → Int) : (kvI ks x).map (·.1) = ks.map Sum.inr := by
  unfold kvI
  rw [List.map_map]
  rfl
theorem kvI_merge {ks : List Str} {x : Str → Int} (nd : ks.Nodup) : mergeK [] (kvI ks x) = kvI ks x := merge_nd (by rw [kvI_keys]; exact nd_inr nd)
theorem kvI_len (ks : List Str) (x : Str → Int) : (kvI ks x).length = ks.length := List.length_map _
theorem kvI_get {n : Str} {x : Str → Int} : ∀ {ks : List Str}, n ∈ ks → valV (kvI ks x) (Sum.inr n) = some (.int (x n))
  | m :: r, h => by
    show valV ((Sum.inr m, V.int (x m)) :: kvI r x) (Sum.inr n) = _
    by_cases c : m = n
    · subst c
      exact valV_pos rfl
    · rw [valV_neg (fun z => c (Sum.inr.inj z))]
      exact kvI_get ((List.mem_cons.mp h).resolve_left fun z => c z.symm)
theorem kvI_no {n : Str} {ks : List Str} {x : Str → Int} (h : n ∉ ks) : valV (kvI ks x) (Sum.inr n) = none := (val_inS (kvI_keys ks x) n).2 h
theorem kvI_atoms {ks : List Str} {x : Str → Int} : ∀ kv ∈ kvI ks x, Atom kv.2 := fun kv h => by
  obtain ⟨m, _, rfl⟩ := List.mem_map.mp h
  exact .int _
theorem fm_kvI (x : Str → Int) : ∀ ks : List Str, ks.filterMap (fun n => some ((Sum.inr n : Key), V.int (x n))) = kvI ks x
  | [] => rfl
  | n :: r => by
    rw [List.filterMap_cons]
    show (Sum.inr n, V.int (x n)) :: List.filterMap _ r = (Sum.inr n, V.int (x n)) :: kvI r x
    rw [fm_kvI x r]
theorem fm_kvF (x : Str → Int) (a : Str) : ∀ ks : List Str, ks.filterMap (fun n => if n ≠ a then some ((Sum.inr n : Key), V.int (x n)) else none) = kvI (ks.filter fun n => decide (n ≠ a)) x
  | [] => rfl
  | n :: r => by
    rw [List.filterMap_cons, List.filter_cons]
    by_cases c : n = a
    · rw [if_neg (fun z => z c), decide_eq_false (fun z => z c), if_neg Bool.false_ne_true]
      exact fm_kvF x a r
    · rw [if_pos c, decide_eq_true c, if_pos rfl]
      show (Sum.inr n, V.int (x n)) :: List.filterMap _ r = (Sum.inr n, V.int (x n)) :: kvI _ x
      rw [fm_kvF x a r]
theorem cnt_less {K : PySem.W.Frag} {H : Hp} {d : Addr} {ks os : List Str} {x : Str → Int} {a : Str} (o : H d = some (.dK (kvI os x))) (ha : a ∈ ks) (na : a ∉ os) : CnTh K H ks (.ref d) false := by
  have z : CnTh K H ks (.ref d) (cntsB (kvI os x) ks) := .val o fun n _ v h => by
    by_cases c : n ∈ os
    · rw [kvI_get c] at h; cases h; exact .int _
    · rw [kvI_no c] at h; cases h
  have f : cntsB (kvI os x) ks = false := by
    refine List.all_eq_false.mpr ⟨a, ha, ?_⟩
    rw [kvI_no na]
    exact Bool.false_ne_true
  rwa [f] at z
theorem cnt_bent {K : PySem.W.Frag} {H : Hp} {d : Addr} {ks os : List Str} {x : Str → Int} {a : Str} {v : V} (o : H d = some (.dK (putK (kvI os x) (Sum.inr a) v))) (ha : a ∈ ks) (av : Atom v) (bv : cntB v = false) : CnTh K H ks (.ref d) false := by
  have z : CnTh K H ks (.ref d) (cntsB (putK (kvI os x) (Sum.inr a) v) ks) := .val o fun n _ u h => by
    rw [valV_put] at h
    by_cases c : (Sum.inr n : Key) = Sum.inr a
    · rw [if_pos c] at h; cases h; exact av
    · rw [if_neg c] at h
      by_cases c2 : n ∈ os
      · rw [kvI_get c2] at h; cases h; exact .int _
      · rw [kvI_no c2] at h; cases h
  have f : cntsB (putK (kvI os x) (Sum.inr a) v) ks = false := by
    refine List.all_eq_false.mpr ⟨a, ha, ?_⟩
    rw [valV_put, if_pos rfl]
    show ¬ cntB v = true
    rw [bv]
    exact Bool.false_ne_true
  rwa [f] at z
theorem alk_kvI {H : Hp} {d : Addr} {os : List Str} {x : Str → Int} (o : H d = some (.dK (kvI os x))) (nd : os.Nodup) : AlkF H 1 (.ref d) (.ref d) := .up (.dic o o (by rw [kvI_keys]; exact nd_inr nd) kvI_atoms)
theorem put_keysM {kvs : List (Key × V)} {k : Key} {v : V} (h : k ∈ kvs.map (·.1)) : (putK kvs k v).map (·.1) = kvs.map (·.1) := by
  rw [put_has h, List.map_map]
  refine List.map_congr_left fun e _ => ?_
  show (if e.1 = k then (e.1, v) else e).1 = e.1
  split <;> rfl
theorem put_atoms {kvs : List (Key × V)} {k : Key} {v : V} (h : k ∈ kvs.map (·.1)) (av : Atom v) (at_ : ∀ kv ∈ kvs, Atom kv.2) : ∀ kv ∈ putK kvs k v, Atom kv.2 := fun kv hk => by
  rw [put_has h] at hk
  obtain ⟨e, he, rfl⟩ := List.mem_map.mp hk
  by_cases c : e.1 = k
  · simp [c, av]
  · simp [c, at_ e he]
theorem alk_bent {H : Hp} {d : Addr} {os : List Str} {x : Str → Int} {a : Str} {v : V} (o : H d = some (.dK (putK (kvI os x) (Sum.inr a) v))) (nd : os.Nodup) (ha : a ∈ os) (av : Atom v) : AlkF H 1 (.ref d) (.ref d) := by
  have hk : (Sum.inr a : Key) ∈ (kvI os x).map (·.1) := by rw [kvI_keys]; exact List.mem_map_of_mem ha
  exact .up (.dic o o (by rw [put_keysM hk, kvI_keys]; exact nd_inr nd) (put_atoms hk av kvI_atoms))
/-- drawn numbers for names -/
def zipI (ks : List Str) (zs : List Int) : List (Key × V) := (ks.zip zs).map fun p => (Sum.inr p.1, V.int p.2)
theorem zipI_kv : ∀ (ks : List Str) (zs : List Int), ks.Nodup → zs.length = ks.length → (∀ z ∈ zs, 0 ≤ z) → ∃ x : Str → Int, zipI ks zs = kvI ks x ∧ ∀ n, 0 ≤ x n
  | [], zs, _, _, _ => ⟨fun _ => 0, rfl, fun _ => Int.le_refl _⟩
  | k :: ks, [], _, h, _ => by cases h
  | k :: ks, z :: zs, nd, h, hz => by
    have nd2 := List.nodup_cons.mp nd
    obtain ⟨x, e, hx⟩ := zipI_kv ks zs nd2.2 (by simpa using h) fun y hy => hz y (List.mem_cons_of_mem _ hy)
    refine ⟨fun n => if n = k then z else x n, ?_, fun n => ?_⟩
    · show (Sum.inr k, V.int z) :: zipI ks zs = (Sum.inr k, V.int (if k = k then z else x k)) :: kvI ks _
      rw [if_pos rfl, e]
      congr 1
      refine List.map_congr_left fun n hn => ?_
      show (Sum.inr n, V.int (x n)) = (Sum.inr n, V.int (if n = k then z else x n))
      rw [if_neg (fun q : n = k => nd2.1 (q ▸ hn))]
    · show 0 ≤ if n = k then z else x n
      split
      · exact hz z List.mem_cons_self
      · exact hx n
theorem lc_drawn {l ls : Addr} {J : It} {g : TG} {tt : TT} {te : TE} {vs : List Nat} {σ : St} {H1 : Hp} {N : Int} {Q : Addr → Hp → Prop} (ks : List Str) (S1 : Strm H1 l ls N) (short : ks.length < 1000) (go : ∀ i H, But l ls H1 H → i < ks.length → J.go i H) (stop : ∀ H, But l ls H1 H → J.stop ks.length H)
    (turn : ∀ (i : Nat) (v : V) (n : Str) (H H' : Hp) (C : V → Hp → Prop) (Nn : Hp → Prop), ks[i]? = some n → But l ls H1 H → Strm H l ls (N + i) → J.yld i H v H' → (∀ t z H4, H t = none → H4 t = some (.tup [.str n, .int z]) → 0 ≤ z → Strm H4 l ls (N + i + 1) → But l ls H H4 → C (.ref t) H4) →
      g v (wipe σ vs) H' fun σ2 H2 => wipe σ2 vs = wipe σ vs ∧ tt σ2 H2 fun b H3 => if b = true then te σ2 H3 C else Nn H3)
    (fin : ∀ H D ps zs, H1 D = none → H D = some (.lst ((ps : List Addr).map V.ref)) → Paired (fun p (kv : Key × V) => H p = some (.tup [kV kv.1, kv.2])) ps (zipI ks zs) → zs.length = ks.length → (∀ z ∈ zs, 0 ≤ z) → Strm H l ls (N + ks.length) → But l ls H1 H → Q D H) : LcW J g tt te vs σ H1 Q := by
  intro D nD
  have aD := S1.apart (Same.refl _) nD
  refine ⟨fun i m H => m = ks.length - i ∧ i ≤ ks.length ∧ (∃ (ps : List Addr) (zs : List Int), H D = some (.lst (ps.map V.ref)) ∧ ps.length = i ∧ zs.length = i ∧ (∀ z ∈ zs, 0 ≤ z) ∧ Paired (fun p (kv : Key × V) => H p = some (.tup [kV kv.1, kv.2]) ∧ p ≠ D ∧ p ≠ l ∧ p ≠ ls) ps (zipI (ks.take i) zs)) ∧ Strm H l ls (N + i) ∧ But l ls H1 H,
    ⟨_, rfl, Nat.zero_le _, ⟨[], [], upd_same, rfl, rfl, (fun z h => by cases h), .nil⟩, by simpa using S1.same (same_new nD), .of (same_new nD)⟩, ?_⟩
  rintro i m H ⟨rfl, le, ⟨ps, zs, oD, lp, lz, nz, pr⟩, Si, Bi⟩
  by_cases lt : i < ks.length
  · refine .inr ⟨go i H Bi lt, fun H' => (∃ (ps : List Addr) (zs : List Int), H' D = some (.lst (ps.map V.ref)) ∧ ps.length = i + 1 ∧ zs.length = i + 1 ∧ (∀ z ∈ zs, 0 ≤ z) ∧ Paired (fun p (kv : Key × V) => H' p = some (.tup [kV kv.1, kv.2]) ∧ p ≠ D ∧ p ≠ l ∧ p ≠ ls) ps (zipI (ks.take (i + 1)) zs)) ∧ Strm H' l ls (N + (i + 1 : Nat)) ∧ But l ls H1 H', fun H' h => ⟨ks.length - (i + 1), by omega, rfl, lt, h⟩, fun x H' yl => ?_⟩
    have ea : ks[i]? = some ks[i] := List.getElem?_eq_getElem lt
    refine turn i x ks[i] H H' _ _ ea Bi Si yl (fun t z H4 nt ot z0 S4 B4 => ?_)
    have oD4 := B4 _ _ aD.1 aD.2 oD
    have tD : t ≠ D := fun q => by rw [q, oD] at nt; cases nt
    have at_ := Si.apart (Same.refl _) nt
    refine ⟨_, oD4, by rw [sizeLine_eq, List.length_map]; omega, ⟨ps ++ [t], zs ++ [z], by rw [upd_same, List.map_append]; rfl, by simp [lp], by simp [lz], fun y hy => ?_, ?_⟩, ?_, fun b u h1 h2 e => ?_⟩
    · rcases List.mem_append.mp hy with hy | hy
      · exact nz y hy
      · rw [List.mem_singleton.mp hy]; exact z0
    · have et : zipI (ks.take (i + 1)) (zs ++ [z]) = zipI (ks.take i) zs ++ [(Sum.inr ks[i], V.int z)] := by
        unfold zipI
        rw [List.take_succ, ea, List.zip_append (by rw [List.length_take, lz]; omega), List.map_append]
        rfl
      rw [et]
      refine paired_join (Paired.mapP pr fun p kv h => ⟨?_, h.2⟩) ⟨by rw [upd_ne tD]; exact ot, tD, at_⟩
      rw [upd_ne h.2.1]
      exact B4 _ _ h.2.2.1 h.2.2.2 h.1
    · have z := strm_upd (o := .lst (ps.map V.ref ++ [.ref t])) S4 aD
      have e : N + (i + 1 : Nat) = N + i + 1 := by omega
      rw [e]
      exact z
    · rw [upd_ne (ne_of_none e nD)]
      exact B4 _ _ h1 h2 (Bi _ _ h1 h2 e)
  · obtain rfl : i = ks.length := by omega
    rw [List.take_length] at pr
    exact .inl ⟨stop H Bi, fin H D ps zs nD oD (Paired.mapP pr fun p kv h => h.1) lz nz Si Bi⟩
end L2.TB
/-! lists of tried calls that are refused -/
namespace L2.TB
open PySem PySem.Spec PyProof.Rows LamX
def FoP (H : Hp) (t : Addr) (p : Rz × V) : Prop := H t = some (.tup [.str p.1.tag, p.2])
/-- what was found up to now -/
structure FS (T : List (Addr × Str)) (q : Addr) (ts : List Addr) (ps : List (Rz × V)) (H0 H : Hp) : Prop where
  e : ExtN H0 H
  t : Tabs T H
  o : H q = some (.lst (ts.map V.ref))
  al : Paired (FoP H) ts ps
  n : ∀ o, H0 q = some o → ∃ xs, o = .tbl xs
section
variable {K : PySem.W.Frag} {ca : Str → Addr} {T : List (Addr × Str)} {t : XK → TE} {σ : St} {H0 H : Hp}
theorem fs_one {r : Rz} {v : V} {Q : VK} (T0 : Tabs T H) (hr : r ∈ rzT) (body : ∀ H1 E R, ExtN H H1 → Tabs T H1 → Flies (ca r.x) r.fld v H1 E → t E σ H1 R)
    (fin : ∀ H1 a, ExtN H H1 → Tabs T H1 → H1 a = some (.tup [.str r.tag, v]) → Q (.ref a) H1) : tLam T (TTe ca) t σ H Q := by
  refine ⟨T0, fun H1 e1 T1 E R hE => body H1 E R e1 T1 (flyE hr (fun H2 a s2 na => ?_) hE)⟩
  have k := same_new (o := .tup [.str r.tag, v]) na
  exact fin _ a (e1.trans (ExtN.of (s2.trans k))) (T1.ext (s2.trans k)) upd_same
/-- [tried] -/
theorem fs_lst {r : Rz} {v : V} {Q : VK} (T0 : Tabs T H) (hr : r ∈ rzT) (body : ∀ H1 E R, ExtN H H1 → Tabs T H1 → Flies (ca r.x) r.fld v H1 E → t E σ H1 R)
    (fin : ∀ H1 q a, FS T q [a] [(r, v)] H H1 → Q (.ref q) H1) : tLst (tCons (tLam T (TTe ca) t) tNil) σ H Q := by
  refine fs_one T0 hr body fun H1 a e1 T1 oa => ⟨(by show 1 ≤ sizeLine; decide), fun q nq => ?_⟩
  have k := same_new (o := .lst [.ref a]) nq
  refine fin _ q a ⟨e1.trans (ExtN.of k), T1.ext k, upd_same, .cons (k _ _ oa) .nil, fun o e => Classical.byContradiction fun z => ?_⟩
  have z2 := e1 _ _ e (fun xs h => z ⟨xs, h⟩)
  rw [nq] at z2
  cases z2
/-- found.append(tried) -/
theorem fs_app {i : Nat} {q : Addr} {ts : List Addr} {ps : List (Rz × V)} {r : Rz} {v : V} {D : Ends} (hi : σ[i]? = some (some (.ref q))) (S : FS T q ts ps H0 H) (sh : ts.length < 100) (hr : r ∈ rzT) (body : ∀ H1 E R, ExtN H0 H1 → Tabs T H1 → Flies (ca r.x) r.fld v H1 E → t E σ H1 R)
    (fin : ∀ H1 a, FS T q (ts ++ [a]) (ps ++ [(r, v)]) H0 H1 → D.nx σ H1) : tDrop (tBM K "list" rAppend (tVar i) (tCons (tLam T (TTe ca) t) tNil)) D σ H := by
  refine ⟨_, hi, .inl ⟨rfl, _, SqL.of S.o⟩, fs_one S.t hr (fun H1 E R e1 => body H1 E R (S.e.trans e1)) fun H1 a e1 T1 oa => ?_⟩
  have oq := e1 _ _ S.o (fun _ z => by cases z)
  refine ⟨q, _, .ref a, rfl, rfl, oq, (by rw [List.length_map, sizeLine_eq]; omega), ?_⟩
  have far : ∀ (b : Addr) (xs : List V), H1 b = some (.tup xs) → upd H1 q (.lst (ts.map V.ref ++ [.ref a])) b = some (.tup xs) := fun b xs e => by rw [upd_ne (fun z => by rw [z, oq] at e; cases e)]; exact e
  refine fin _ a ⟨fun b o e no => ?_, tabs_list T1 oq, by rw [upd_same, List.map_append]; rfl, ?_, S.n⟩
  · by_cases c : b = q
    · subst c
      obtain ⟨xs, h⟩ := S.n o e
      exact absurd h (no xs)
    · rw [upd_ne c]
      exact e1 _ _ (S.e _ _ e no) no
  · exact paired_joinN (Paired.mapP S.al fun b p h => far _ _ (e1 _ _ h (fun _ z => by cases z))) (far _ _ oa)
theorem fs_lst1 {r : Rz} {v : V} {g : TG} {u : TS} {D : Ends} (T0 : Tabs T H) (hr : r ∈ rzT) (body : ∀ H1 E R, ExtN H H1 → Tabs T H1 → Flies (ca r.x) r.fld v H1 E → t E σ H1 R)
    (fin : ∀ H1 q a, FS T q [a] [(r, v)] H H1 → g (.ref q) σ H1 fun σ2 H2 => u D σ2 H2) : tSeq (tAsg (tLst (tCons (tLam T (TTe ca) t) tNil)) g) u D σ H :=
  fs_lst (Q := fun x H1 => g x σ H1 fun σ2 H2 => u D σ2 H2) T0 hr body fin
theorem fs_app1 {i : Nat} {q : Addr} {ts : List Addr} {ps : List (Rz × V)} {r : Rz} {v : V} {u : TS} {D : Ends} (hi : σ[i]? = some (some (.ref q))) (S : FS T q ts ps H0 H) (sh : ts.length < 100) (hr : r ∈ rzT) (body : ∀ H1 E R, ExtN H0 H1 → Tabs T H1 → Flies (ca r.x) r.fld v H1 E → t E σ H1 R)
    (fin : ∀ H1 a, FS T q (ts ++ [a]) (ps ++ [(r, v)]) H0 H1 → u D σ H1) : tSeq (tDrop (tBM K "list" rAppend (tVar i) (tCons (tLam T (TTe ca) t) tNil))) u D σ H :=
  fs_app (D := { D with nx := fun σ2 H2 => u D σ2 H2 }) hi S sh hr body fin
end
end L2.TB
/-! the law: a plan finds the answers, and refuses what are none -/
namespace L2.TB
open PySem PySem.Spec PyProof.Rows LamX
structure LawF (P : Program) (w : World) (K : PySem.W.Frag) (mg : Str → Option Value) (base : Heap) (C : Addr) (ca : Str → Addr) (WE : Addr) : Prop where
  R : TrE P w K mg base ca WE
  S : NetC K C
  found : ∃ f fd, Meth K C "found" f ∧ Binds K fd ["self", "known", "asked", "plan", "answers"] [] ∧ FnOk P w K mg base CX0 6 f fd ["self", "known", "asked", "plan", "answers"] (spFoundG K C) ∧ FnOk P w K mg base (L2.CX P w) 6 f fd ["self", "known", "asked", "plan", "answers"] (spFoundX K C ca)
  draw : ∃ f fd, mg "_law_draw" = some (.ref f) ∧ PySem.W.keepIn K (.ref f) = true ∧ Binds K fd ["stream", "many"] [] ∧ FnOk P w K mg base CX0 1 f fd ["stream", "many"] spDraw
  pick : ∃ f fd, mg "_law_pick" = some (.ref f) ∧ PySem.W.keepIn K (.ref f) = true ∧ Binds K fd ["stream", "some"] [] ∧ FnOk P w K mg base CX0 2 f fd ["stream", "some"] (spPick K)
  mixed : ∃ f fd, mg "_law_mixed" = some (.ref f) ∧ PySem.W.keepIn K (.ref f) = true ∧ Binds K fd ["stream", "some"] [] ∧ FnOk P w K mg base CX0 2 f fd ["stream", "some"] (spMixed K)
  world : ∃ f fd, mg "_law_c_world" = some (.ref f) ∧ PySem.W.keepIn K (.ref f) = true ∧ Binds K fd ["stream", "arcs"] [] ∧ FnOk P w K mg base CX0 4 f fd ["stream", "arcs"] spWorldL
  made : ∃ f fd, mg "_law_c_made" = some (.ref f) ∧ PySem.W.keepIn K (.ref f) = true ∧ Binds K fd ["arcs", "given", "answers"] [] ∧ FnOk P w K mg base CX0 3 f fd ["arcs", "given", "answers"] (spMade K)
  same : ∃ f fd, mg "_law_same" = some (.ref f) ∧ Fun K "_law_same" "_law_same" sSame f fd
  M : Sm mg
  nDi : mg "dict" = none
  nR : mg "range" = none
/-- what stays -/
structure FnEv (K : PySem.W.Frag) (C x D gv kn pl : Addr) (arcs : NtT) (A1 A2 : Addr → Prop) (ks : List Str) (e : Str × ArT) (S : List Str) (G : Hp) : Prop where
  net : NetA A1 G C x arcs
  at_ : PyD.at_ A2 G (.ref D) (Dc.mk arcs)
  gv : G gv = some (.tup [.ref kn, .str e.1, .ref pl])
  kn : KnA G kn arcs ks
  pl : SqA K G pl (S.map V.str)
theorem FnEv.ext {K : PySem.W.Frag} {C x D gv kn pl : Addr} {arcs : NtT} {A1 A2 : Addr → Prop} {ks : List Str} {e : Str × ArT} {S : List Str} {G G' : Hp} (h : FnEv K C x D gv kn pl arcs A1 A2 ks e S G) (s : ExtN G G') : FnEv K C x D gv kn pl arcs A1 A2 ks e S G' :=
  ⟨h.net.ext s, arcs_ext h.at_ s, s _ _ h.gv (fun _ z => by cases z), ⟨s _ _ h.kn.o (fun _ z => by cases z), h.kn.sub, h.kn.nd⟩, sq_ext h.pl s⟩
def spFinds (K : PySem.W.Frag) (C : Addr) (T : List (Addr × Str)) : Sp := fun vs H Q _ => ∃ (l ls x D gv kn pl : Addr) (arcs : NtT) (A1 A2 : Addr → Prop) (ks : List Str) (e : Str × ArT) (S : List Str) (N : Int), vs = [.ref l, .ref x, .ref D, .ref gv] ∧ Strm H l ls N ∧ N ≤ 500000 ∧ Rob l ls H (FnEv K C x D gv kn pl arcs A1 A2 ks e S) ∧ (∀ c, A2 c → c ≠ l ∧ c ≠ ls) ∧ (kn ≠ l ∧ kn ≠ ls) ∧ NtOk arcs ∧ arcs.length ≤ 8 ∧ e ∈ arcs ∧ S.Nodup ∧ (∀ n ∈ S, n ∈ nodesL arcs) ∧ planB arcs ks e S = true ∧ Tabs T H ∧
  ∀ H', Strm H' l ls (N + 3100) → BE l ls H H' → Tabs T H' → Q (.bl true) H'
abbrev NFs : List Str := ["stream", "net", "arcs", "given", "name", "wild", "k", "world", "few", "less", "bent", "asked", "known", "odd", "plan", "x"]
theorem scFs : FnScope NFs ["stream", "net", "arcs", "given"] (defScope sFinds) := ⟨rfl, rfl, rfl, by decide +kernel, rfl, by decide +kernel, by decide +kernel⟩
theorem tabs_dictN {T : List (Addr × Str)} {H : Hp} {q : Addr} {us vs : List (Key × V)} (t : Tabs T H) (hq : H q = some (.dK us)) : Tabs T (upd H q (.dK vs)) := fun p hp => by
  obtain ⟨ps, h1, h2, h3⟩ := t p hp
  refine ⟨ps, by rw [upd_ne (fun z => by rw [z, hq] at h1; cases h1)]; exact h1, h2, fun pos cv hc => ?_⟩
  obtain ⟨c, e1, e2⟩ := h3 pos cv hc
  refine ⟨c, e1, ?_⟩
  have ne : c ≠ q := fun z => by
    rw [z, hq] at e2
    have e3 := Option.some.inj e2
    unfold CodeO at e3
    cases e3
  rw [upd_ne ne]
  exact e2
section
variable {P : Program} {w : World} {K : PySem.W.Frag} {mg : Str → Option Value} {base : Heap} {f C c WE Pt : Addr} {fd : FuncData} {ca : Str → Addr} {T : List (Addr × Str)}
theorem ok_finds (FE : Fun K "_law_c_finds" "_law_c_finds" sFinds f fd) (hc : fd.code = .ref c) (L : LawF P w K mg base C ca WE) (TB : TabB base mg c Pt) (hm : (Pt, ("_law_c_finds" : Str) ++ ".<locals>." ++ "<lambda>") ∈ T) (hu0 : ∀ p ∈ T, p.1 = Pt → p.2 = ("_law_c_finds" : Str) ++ ".<locals>." ++ "<lambda>") : FnOk P w K mg base CX0 9 f fd ["stream", "net", "arcs", "given"] (spFinds K C T) := by
  obtain ⟨oc, odv, kVv, doc, pm, an, cdv, ct, osl, rfl, lk, hcd⟩ := FE.ex
  obtain rfl : cdv = .ref c := hc
  have R := L.R
  obtain ⟨fF, fdF, mF, bF, GF, GX⟩ := L.found
  obtain ⟨fD, fdD, gD, kD, bD, GD⟩ := L.draw
  obtain ⟨fP, fdP, gP, kP, bP, GP⟩ := L.pick
  obtain ⟨fMi, fdMi, gMi, kMi, bMi, GMi⟩ := L.mixed
  obtain ⟨fW, fdW, gW, kW, bW, GW⟩ := L.world
  obtain ⟨fM, fdM, gM, kM, bM, GM⟩ := L.made
  obtain ⟨fS, fdS, gS, FS⟩ := L.same
  have GS : FnOk P w K mg base CX0 3 fS fdS ["found", "due"] (spSameF 2) := ok_sameF FS gS L.M 2
  have bS := FS.binds (ps := ["found", "due"]) fun _ _ _ _ _ _ us hl => match us, hl with | [_, _], _ => rfl
  refine fn_of lk hcd scFs (fun vs H Q E h => by obtain ⟨l, ls, x, D, gv, kn, pl, arcs, A1, A2, ks, e, S, N, e', _⟩ := h; rw [e']; rfl) fun A outer s H vs Q E hr hsp => ?_
  obtain ⟨l, ls, x, D, gv, kn, pl, arcs, A1, A2, ks, e, S, N, rfl, S0, hN, EV, hA2, akn, nok, l8, he, ndS, sub, pb, T0, hq⟩ := hsp
  have nd := scFs.nd
  have hu := hu_of (hr.mono (show 1 ≤ 8 by decide))
  have hu64 := hr.units
  refine ⟨_, PSs.nox (st := defBody sFinds) (pss_cons (ps_asg (pv 3) (pg_tup (n := 3) rfl (pgs_cons (pg_name (i := 12) nd rfl (Or.inr rfl)) (pgs_cons (pg_name (i := 11) nd rfl (Or.inr rfl)) (pgs_cons (pg_name (i := 14) nd rfl (Or.inr rfl)) pgs_nil)))))
    (pss_cons (ps_set (i := 5) nd rfl (Or.inl rfl) (pe_callTy (r := rDk K) (call_dk rfl) rfl L.nDi boot_dict' (pa_cons (pe_lc (own := [("name", 4)]) (tt := tYes) (g := gName 4) (te := tTup (tCons (tVar 4) (tCons (tCall spDraw [] E0 (tCons (tVar 0) (tCons (tC (.int 9)) tNil))) tNil))) rfl nd (pi_list (pv 12)) (blkOk_by (N := NFs) (sc := defScope sFinds) (by decide +kernel)) (fun _ _ _ _ _ => pg_name (i := 4) nd rfl (Or.inl rfl)) (fun _ _ _ _ _ => pts_nil) (fun _ _ _ _ _ => (pe_tup (pa_cons (pv 4) (pa_cons (pe_call GD (hr.mono (by decide)) rfl gD kD bD .nil pass0 (pa_cons (pv 0) (pa_cons pe_int pa_nil))) pa_nil))))) pa_nil)))
    (pss_cons (ps_if (pt_not (pt_val (pe_call GS (hr.mono (by decide)) rfl gS FS.kp bS .nil pass0 (pa_cons (pe_meth (pv 1) L.S.cl mF GF (hr.mono (by decide)) bF .nil pass0 (pa_cons (pv 12) (pa_cons (pv 11) (pa_cons (pv 14) (pa_cons (pv 5) pa_nil))))) (pa_cons (pe_call GM (hr.mono (by decide)) rfl gM kM bM .nil pass0 (pa_cons (pv 2) (pa_cons (pv 3) (pa_cons (pv 5) pa_nil)))) pa_nil))))) (pss_one ps_never) pss_nil)
    (pss_cons (ps_for PassesOwn.never rfl (pi_range1 rfl L.nR (pa_cons pe_int pa_nil)) (pg_name (i := 6) nd rfl (Or.inl rfl)) (pss_cons (ps_set (i := 7) nd rfl (Or.inr rfl) (pe_call GW (hr.mono (by decide)) rfl gW kW bW .nil pass0 (pa_cons (pv 0) (pa_cons (pv 2) pa_nil))))
    (pss_cons (ps_set (i := 8) nd rfl (Or.inr rfl) (pe_callTy (r := rDk K) (call_dk rfl) rfl L.nDi boot_dict' (pa_cons (pe_lc (own := [("name", 4)]) (tt := tYes) (g := gName 4) (te := tTup (tCons (tVar 4) (tCons (tDGet (tVar 7) (tVar 4)) tNil))) rfl nd (pi_list (pe_call GMi (hr.mono (by decide)) rfl gMi kMi bMi .nil pass0 (pa_cons (pv 0) (pa_cons (pv 12) pa_nil)))) (blkOk_by (N := NFs) (sc := defScope sFinds) (by decide +kernel)) (fun _ _ _ _ _ => pg_name (i := 4) nd rfl (Or.inl rfl)) (fun _ _ _ _ _ => pts_nil) (fun _ _ _ _ _ => (pe_tup (pa_cons (pv 4) (pa_cons (pe_dget hu (pv 7) (pv 4) (fun _ _ => rfl)) pa_nil))))) pa_nil)))
    (pss_cons (ps_if (pt_not (pt_val (pe_call GS (hr.mono (by decide)) rfl gS FS.kp bS .nil pass0 (pa_cons (pe_meth (pv 1) L.S.cl mF GF (hr.mono (by decide)) bF .nil pass0 (pa_cons (pv 12) (pa_cons (pv 11) (pa_cons (pv 14) (pa_cons (pv 8) pa_nil))))) (pa_cons (pe_dget hu (pv 7) (pv 11) (fun _ _ => rfl)) pa_nil))))) (pss_one ps_never) pss_nil)
    (pss_cons (ps_if (pt_not (pt_val (pe_call GS (hr.mono (by decide)) rfl gS FS.kp bS .nil pass0 (pa_cons (pe_meth (pv 1) L.S.cl mF GF (hr.mono (by decide)) bF .nil pass0 (pa_cons (pv 12) (pa_cons (pv 11) (pa_cons (pv 14) (pa_cons (pv 7) pa_nil))))) (pa_cons (pe_dget hu (pv 7) (pv 11) (fun _ _ => rfl)) pa_nil))))) (pss_one ps_never) pss_nil)
    (pss_one (ps_if (pt_cmpR (op_neT (α := List Str) (by decide) hu64) (pv 12) (pe_lst pa_nil) (nomark _)) (pss_cons (ps_set (i := 4) nd rfl (Or.inr rfl) (pe_call GP (hr.mono (by decide)) rfl gP kP bP .nil pass0 (pa_cons (pv 0) (pa_cons (pv 12) pa_nil))))
      (pss_cons (ps_set (i := 9) nd rfl (Or.inl rfl) (pe_callTy (r := rDk K) (call_dk rfl) rfl L.nDi boot_dict' (pa_cons (pe_lock (pe_lc (own := [("x", 15)]) (tt := tTest (tOp rNe (tVar 15) (tVar 4))) (g := gName 15) (te := tTup (tCons (tVar 15) (tCons (tDGet (tVar 8) (tVar 15)) tNil))) rfl nd (pi_keys (pv 8)) (blkOk_by (N := NFs) (sc := defScope sFinds) (by decide +kernel)) (fun _ _ _ _ _ => pg_name (i := 15) nd rfl (Or.inl rfl)) (fun _ _ _ _ _ => pts_one (pt_cmpR op_ne (pv 15) (pv 4) (nomark _))) (fun _ _ _ _ _ => (pe_tup (pa_cons (pv 15) (pa_cons (pe_dget hu (pv 8) (pv 15) (fun _ _ => rfl)) pa_nil)))))) pa_nil)))
      (pss_cons (ps_set (i := 10) nd rfl (Or.inl rfl) (pe_callTy call_dictD rfl L.nDi boot_dict' (pa_cons (pv 8) pa_nil)))
      (pss_cons (ps_dput hu (pv 10) (pv 4) (pe_call GP (hr.mono (by decide)) rfl gP kP bP .nil pass0 (pa_cons (pv 0) (pa_cons (pe_lst (pa_cons (pe_un un_neg pe_int) (pa_cons pe_non (pa_cons pe_bl (pa_cons pe_str pa_nil))))) pa_nil))) rfl)
      (pss_one (ps_for PassesOwn.never rfl (pi_list (pe_lst (pa_cons pe_non (pa_cons pe_int (pa_cons (pe_lst pa_nil) (pa_cons (pv 9) (pa_cons (pv 10) pa_nil))))))) (pg_name (i := 13) nd rfl (Or.inr rfl))
        (pss_one (ps_if (pt_not (pt_val (pe_call GS (hr.mono (by decide)) rfl gS FS.kp bS .nil pass0 (pa_cons (pe_triedE R rfl TB rfl hm hu0 hr (by decide) (lamS_by (by show lamSB (defScope sFinds) _ = true; decide +kernel)) rfl (fun _ _ _ _ _ => rfl) (fun A outer s H E f c' hr => pe_meth (pv 1) L.S.cl mF GX (hr.mono (by decide)) bF .nil (passesN (takes_of rfl rfl rfl rfl)) (pa_cons (pv 12) (pa_cons (pv 11) (pa_cons (pv 14) (pa_cons (pv 13) pa_nil)))))) (pa_cons (pe_tup (pa_cons pe_str (pa_cons (pv 13) pa_nil))) pa_nil))))) (pss_one ps_never) pss_nil)))))))) pss_nil)))))))
    (pss_one (ps_ret pe_bl)))))), ?_⟩
  have sh := nok.n1
  have ev0 := EV.now
  have lk8 : ks.length ≤ 8 := by have := ev0.kn.len; omega
  refine ⟨_, rfl, gv, _, rfl, SqT.of ev0.gv, rfl, _, _, rfl, _, _, rfl, _, _, rfl, rfl, ?_⟩
  -- wild
  refine ⟨_, rfl, kn, rfl, ⟨_, SqL.of ev0.kn.o⟩, ?_⟩
  refine lc_drawn ks S0 (by omega) (fun i H' B lt => ⟨_, _, SqL.of (B _ _ akn.1 akn.2 ev0.kn.o), List.getElem?_eq_getElem (by rw [List.length_map]; exact lt)⟩) (fun H' B => ⟨_, SqL.of (B _ _ akn.1 akn.2 ev0.kn.o), by rw [List.length_map]; exact Nat.le_refl _⟩) ?_ ?_
  · rintro i y n H2 H3 Cn Nn en B2 S2 ⟨rfl, ev⟩ yes
    have ev := ev _ (SqL.of (B2 _ _ akn.1 akn.2 ev0.kn.o))
    rw [List.getElem?_map, en] at ev
    obtain rfl := Option.some.inj ev
    have li : i < ks.length := (List.getElem?_eq_some_iff.mp en).1
    refine ⟨rfl, _, rfl, _, rfl, l, ls, 9, _, rfl, S2, by omega, by decide, by decide, fun H4 z z0 _ S4 B4 => ⟨(by show 2 ≤ sizeLine; decide), fun t nt => ?_⟩⟩
    have kt := same_new (o := .tup [.str n, .int z]) nt
    have nt3 : H3 t = none := by
      cases q : H3 t with
      | none => rfl
      | some o =>
        have at_ := S4.apart (Same.refl _) nt
        rw [B4 _ _ at_.1 at_.2 q] at nt
        cases nt
    exact yes t z _ nt3 upd_same z0 (S4.same kt) (B4.trans (.of kt))
  intro H2 L0 ps zs nL oL2 pp lz nz S2 B2
  obtain ⟨xw, ez, xw0⟩ := zipI_kv ks zs ev0.kn.nd lz nz
  rw [ez] at pp
  refine ⟨L0, ps, _, rfl, SqL.of oL2, Paired.mapP pp fun t e h => SqT.of h, fun wi nwi => ?_⟩
  rw [kvI_merge ev0.kn.nd]
  have kd := same_new (o := .dK (kvI ks xw)) nwi
  have owi : upd H2 wi (.dK (kvI ks xw)) wi = some (.dK (kvI ks xw)) := upd_same
  have S3 := S2.same kd
  have B3 := (BE.of B2).trans (BE.of (.of kd))
  have T3 := Tabs.but T0 S0 (B2.trans (.of kd))
  generalize upd H2 wi (.dK (kvI ks xw)) = H3 at owi S3 B3 T3
  clear kd pp oL2 nL nwi S2 B2
  have ev3 := EV _ B3
  obtain ⟨dx, _, _, _, h1, _⟩ := id ev3.net.ex
  refine ⟨_, rfl, x, dx, _, rfl, h1, rfl, _, rfl, _, rfl, _, rfl, _, rfl, x, kn, pl, wi, arcs, A1, ks, e, S, kvI ks xw, xw, rfl, ev3.net, nok, ev3.kn, he, ev3.pl, ndS, sub, pb, owi, fun n hn => ⟨kvI_get hn, xw0 n⟩, fun H4 k4 => ?_⟩
  have ev4 := ev3.ext (ExtN.of k4)
  refine ⟨_, rfl, _, rfl, _, rfl, D, gv, kn, pl, wi, arcs, A2, ks, e, S, kvI ks xw, xw, rfl, ev4.gv, ev4.at_, nok, ev4.kn, he, ev4.pl, pb, k4 _ _ owi, fun n hn => kvI_get hn, fun H5 k5 => ?_⟩
  refine ⟨_, _, rfl, (AlkF.one (.int _)).le (Nat.zero_le _), fun H6 k6 => ⟨_, rfl, iteF ?_⟩⟩
  have k36 := (k4.trans k5).trans k6
  have B6 := B3.trans (BE.of (.of k36))
  have S6 := S3.same k36
  have T6 := T3.ext k36
  clear k4 k5 ev4 h1 ev3
  clear S3 B3 T3 k36 k6 owi
  refine ⟨3, rfl, by decide, by decide, for_range (n := 3) (fun i σ H' => Strm H' l ls (N + 8 + 1020 * (i : Int)) ∧ BE l ls H H' ∧ Tabs T H' ∧ ∃ s4 s6 s7 s8 s9 s10 s13 s15, σ = [some (.ref l), some (.ref x), some (.ref D), some (.ref gv), s4, some (.ref wi), s6, s7, s8, s9, s10, some (.str e.1), some (.ref kn), s13, some (.ref pl), s15])
    ⟨(S6.mono (by omega)), B6, T6, _, _, _, _, _, _, _, _, rfl⟩ ?_ ?_⟩
  case refine_2 =>
    rintro σ H7 ⟨S7, B7, T7, s4, s6, s7, s8, s9, s10, s13, s15, rfl⟩
    exact hq H7 (S7.mono (by omega)) B7 T7
  rintro i σ H7 hi ⟨S7, B7, T7, s4, s6, s7, s8, s9, s10, s13, s15, rfl⟩
  -- world
  refine ⟨_, rfl, _, rfl, l, ls, D, arcs, A2, _, rfl, S7, by omega, (EV _ B7).at_, hA2, l8, fun H8 W xw nW aW oW bal S8 B8 => ?_⟩
  have T8 := Tabs.but T7 S7 B8
  have B08 := B7.trans (BE.of B8)
  clear S7 B7 T7
  have ev8 := EV _ B08
  have fw := found_world nok he ndS pb bal.pos bal.bal
  -- few
  refine ⟨_, rfl, _, rfl, l, ls, kn, _, _, rfl, S8, by omega, SqL.of ev8.kn.o, by rw [List.length_map]; omega, fun H9 md ys perm nmd omd S9 B9 => ?_⟩
  obtain ⟨os, pm, rfl⟩ := perm_lift perm (l := ks) rfl
  have lo : os.length = ks.length := pm.length_eq
  have ndo : os.Nodup := pm.nodup_iff.mpr ev8.kn.nd
  have T9 := Tabs.but T8 S8 B9
  have B09 := B08.trans (BE.of B9)
  have oW9 := B9 _ _ aW.1 aW.2 oW
  rw [List.length_map] at S9
  have inA : ∀ n ∈ ks, ∃ e' ∈ arcs, e'.1 = n := fun n hn => let ⟨e', h1, h2⟩ := List.mem_map.mp (ev8.kn.sub n hn); ⟨e', h1, h2⟩
  refine ⟨md, rfl, ⟨_, SqL.of omd⟩, ?_⟩
  refine opt_lcN os (fun n => some ((Sum.inr n : Key), V.int (xw n))) (by omega) (fun i H' s lt => ⟨_, _, SqL.of (s _ _ omd), List.getElem?_eq_getElem (by rw [List.length_map]; exact lt)⟩) (fun H' s => ⟨_, SqL.of (s _ _ omd), by rw [List.length_map]; exact Nat.le_refl _⟩) ?_ ?_
  · rintro j y n H2 H3 Cn Nn en s2 ⟨rfl, ev⟩ yes no
    have ev := ev _ (SqL.of (s2 _ _ omd))
    rw [List.getElem?_map, en] at ev
    obtain rfl := Option.some.inj ev
    obtain ⟨e', he', rfl⟩ := inA n (pm.mem_iff.mp (List.mem_of_getElem? en))
    exact ⟨rfl, _, rfl, _, rfl, _, rfl, W, _, rfl, .inl ⟨_, Sum.inr e'.1, .inl (s2 _ _ oW9), rfl, (valD_getI nok.nd he').symm⟩, (by show 2 ≤ sizeLine; decide), fun t nt => yes _ _ rfl t _ upd_same (same_new nt)⟩
  intro J0 L0 ps nL oL2 pp s2
  rw [fm_kvI] at pp
  refine ⟨L0, ps, _, rfl, SqL.of oL2, Paired.mapP pp fun t e h => SqT.of h, fun fe nfe => ?_⟩
  rw [kvI_merge ndo]
  have kd := same_new (o := .dK (kvI os xw)) nfe
  have ofe : upd J0 fe (.dK (kvI os xw)) fe = some (.dK (kvI os xw)) := upd_same
  have kk := s2.trans kd
  have oW10 := kk _ _ oW9
  have S10 := S9.same kk
  have afe := (S9.same s2).apart (Same.refl _) nfe
  have B10 := B09.trans (BE.of (.of kk))
  have T10 := T9.ext kk
  generalize upd J0 fe (.dK (kvI os xw)) = H10 at oW10 S10 B10 T10 ofe
  clear kd pp oL2 nL nfe kk s2 omd nmd oW9 oW S9 T9 B09 S8 T8 B9 perm nW
  have ev10 := EV _ B10
  obtain ⟨dx, _, _, _, h1, _⟩ := id ev10.net.ex
  have kvo : ∀ n ∈ ks, valV (kvI os xw) (Sum.inr n) = some (.int (xw n)) := fun n hn => kvI_get (pm.mem_iff.mpr hn)
  have xw0 : ∀ n ∈ ks, 0 ≤ xw n := fun n hn => by obtain ⟨e', he', rfl⟩ := inA n hn; exact bal.pos e' he'
  refine ⟨_, rfl, x, dx, _, rfl, h1, rfl, _, rfl, _, rfl, _, rfl, _, rfl, x, kn, pl, fe, arcs, A1, ks, e, S, kvI os xw, xw, rfl, ev10.net, nok, ev10.kn, he, ev10.pl, ndS, sub, pb, ofe, fun n hn => ⟨kvo n hn, xw0 n hn⟩, fun H11 k11 => ?_⟩
  rw [fw]
  refine ⟨_, rfl, _, rfl, W, _, rfl, .inl ⟨_, Sum.inr e.1, .inl (k11 _ _ oW10), rfl, (valD_getI nok.nd he).symm⟩, _, _, rfl, (AlkF.one (.int _)).le (Nat.zero_le _), fun H12 k12 => ⟨_, rfl, iteF ?_⟩⟩
  have k012 := k11.trans k12
  have ev12 := ev10.ext (ExtN.of k012)
  refine ⟨_, rfl, x, dx, _, rfl, k012 _ _ h1, rfl, _, rfl, _, rfl, _, rfl, _, rfl, x, kn, pl, W, arcs, A1, ks, e, S, _, xw, rfl, ev12.net, nok, ev12.kn, he, ev12.pl, ndS, sub, pb, k012 _ _ oW10, fun n hn => ⟨?_, xw0 n hn⟩, fun H13 k13 => ?_⟩
  · obtain ⟨e', he', rfl⟩ := inA n hn
    exact valD_getI nok.nd he'
  rw [fw]
  refine ⟨_, rfl, _, rfl, W, _, rfl, .inl ⟨_, Sum.inr e.1, .inl (k13 _ _ (k012 _ _ oW10)), rfl, (valD_getI nok.nd he).symm⟩, _, _, rfl, (AlkF.one (.int _)).le (Nat.zero_le _), fun H14 k14 => ⟨_, rfl, iteF ?_⟩⟩
  have k014 := (k012.trans k13).trans k14
  have B14 := B10.trans (BE.of (.of k014))
  have ev14 := EV _ B14
  have S14 := S10.same k014
  have T14 := T10.ext k014
  have ofe14 := k014 _ _ ofe
  clear k11 k12 k012 ev12 k13 k14 h1 ev10 S10 T10 B10 oW10 ofe k014
  refine ⟨_, rfl, Nat.zero_le _, fun qn nqn => ?_⟩
  have kq := same_new (o := .lst []) nqn
  refine ⟨ks, [], dp_strL (kq _ _ ev14.kn.o), dp_strL upd_same, _, rfl, ?_⟩
  have B15 := B14.trans (BE.of (.of kq))
  have ev15 := EV _ B15
  have S15 := S14.same kq
  have T15 := T14.ext kq
  have ofe15 := kq _ _ ofe14
  generalize upd H14 qn (.lst []) = H15 at S15 T15 B15 ev15 ofe15
  clear ev14 S14 T14 B14 ofe14 kq nqn
  by_cases ck : ks = []
  · rw [decide_eq_true ck]
    exact iteF ⟨S15.mono (by omega), B15, T15, _, _, _, _, _, _, _, _, rfl⟩
  rw [decide_eq_false ck]
  refine iteT ?_
  have pos : 0 < ks.length := List.length_pos_iff.mpr ck
  -- name
  refine ⟨_, rfl, _, rfl, l, ls, kn, _, _, rfl, S15, by omega, akn.1, akn.2, ev15.kn.o, by rw [List.length_map]; exact pos, by rw [List.length_map]; omega, fun H16 va hv S16 B16 => ?_⟩
  obtain ⟨a, ha, rfl⟩ := List.mem_map.mp hv
  have hao := pm.mem_iff.mpr ha
  have ofe16 := B16 _ _ afe.1 afe.2 ofe15
  have T16 := Tabs.but T15 S15 B16
  have B016 := B15.trans (BE.of B16)
  clear ofe15 T15 S15 B15 ev15 B16 hv
  -- less
  refine ⟨fe, _, ofe16, trivial, fun od => ⟨_, rfl, fe, od, rfl, .inl ⟨_, upd_same, ?_⟩⟩⟩
  have oL : upd H16 fe (.frz od (.dK (kvI os xw))) fe = some (.frz od (.dK (kvI os xw))) := upd_same
  refine opt_lcN os (fun n => if n ≠ a then some ((Sum.inr n : Key), V.int (xw n)) else none) (by omega) (fun i H' s lt => ⟨s _ _ oL, by rw [kvI_len]; omega⟩) (fun H' s => ⟨s _ _ oL, by rw [kvI_len]; omega⟩) ?_ ?_
  · rintro j y n H2 H3 Cn Nn en s2 ⟨rfl, k0, v0, ekv, rfl⟩ yes no
    unfold kvI at ekv
    rw [List.getElem?_map, en] at ekv
    have ek : ((Sum.inr n : Key), V.int (xw n)) = (k0, v0) := Option.some.inj ekv
    cases ek
    have e1 : (!decide (kV (Sum.inr n) = V.str a)) = decide (n ≠ a) := by
      show (!decide (V.str n = V.str a)) = decide (n ≠ a)
      by_cases c : n = a
      · rw [decide_eq_true (by rw [c]), decide_eq_false (fun h => h c)]; rfl
      · rw [decide_eq_false (fun h => c (V.str.inj h)), decide_eq_true c]; rfl
    refine ⟨rfl, _, rfl, _, rfl, rfl, _, rfl, ?_⟩
    rw [e1]
    by_cases c : n = a
    · rw [decide_eq_false (fun h => h c)]
      exact iteF (no (if_neg fun h => h c) _ (Same.refl _))
    · rw [decide_eq_true c]
      refine iteT ⟨_, rfl, _, rfl, _, rfl, fe, _, rfl, .inl ⟨_, Sum.inr n, .inr ⟨od, s2 _ _ oL⟩, rfl, (kvI_get (List.mem_of_getElem? en)).symm⟩, (by show 2 ≤ sizeLine; decide), fun t nt => yes _ _ (if_pos c) t _ upd_same (same_new nt)⟩
  intro J1 L1 ps1 nL oL1 pp s2
  rw [fm_kvF] at pp
  obtain ⟨b1, s1⟩ := lock_offN ofe16 s2
  have LD : L1 ≠ fe := fun z => by rw [z, oL] at nL; cases nL
  refine ⟨b1, L1, ps1, _, rfl, SqL.of (by rw [upd_ne LD]; exact oL1), Paired.mapP pp fun t e h => SqT.of (by rw [upd_ne (fun z => by rw [z, b1] at h; cases h)]; exact h), fun le nle => ?_⟩
  have ndl : (os.filter fun n => decide (n ≠ a)).Nodup := ndo.sublist List.filter_sublist
  rw [kvI_merge ndl]
  have kd := same_new (o := .dK (kvI (os.filter fun n => decide (n ≠ a)) xw)) nle
  have ole : upd (upd J1 fe (.dK (kvI os xw))) le (.dK (kvI (os.filter fun n => decide (n ≠ a)) xw)) le = some (.dK (kvI (os.filter fun n => decide (n ≠ a)) xw)) := upd_same
  have kk := s1.trans kd
  have ale := (S16.same s1).apart (Same.refl _) nle
  have S17 := S16.same kk
  have T17 := T16.ext kk
  have B17 := B016.trans (BE.of (.of kk))
  have ofe17 := kk _ _ ofe16
  generalize upd (upd J1 fe (.dK (kvI os xw))) le (.dK (kvI (os.filter fun n => decide (n ≠ a)) xw)) = H17 at ole S17 T17 B17 ofe17
  clear kd kk pp oL1 nL s1 s2 b1 LD oL nle S16 T16 B016 ofe16
  -- bent
  refine ⟨_, rfl, fe, _, rfl, .inl ofe17, fun be nbe => ?_⟩
  have abe := S17.apart (Same.refl _) nbe
  have kb := same_new (o := .dK (kvI os xw)) nbe
  have obe : upd H17 be (.dK (kvI os xw)) be = some (.dK (kvI os xw)) := upd_same
  have nB : ∀ b o, b ≠ l → b ≠ ls → H b = some o → (∀ ps, o ≠ .tbl ps) → b ≠ be := fun b o h1 h2 e no q => by
    have z := B17 b o h1 h2 e no
    rw [q, nbe] at z
    cases z
  have lebe : be ≠ le := fun z => by rw [← z, nbe] at ole; cases ole
  have ole := kb _ _ ole
  have S18 := S17.same kb
  have T18 := T17.ext kb
  have B18 := B17.trans (BE.of (.of kb))
  generalize upd H17 be (.dK (kvI os xw)) = H18 at obe ole S18 T18 B18
  have ofe18 := kb _ _ ofe17
  clear kb S17 T17 B17 ofe17
  refine ⟨_, rfl, _, rfl, (by show 4 ≤ sizeLine; decide), fun q nq => ?_⟩
  have aq := S18.apart (Same.refl _) nq
  have kq := same_new (o := .lst [.int (-1), .non, .bl true, .str "1"]) nq
  refine ⟨l, ls, q, _, _, rfl, S18.same kq, by omega, aq.1, aq.2, upd_same, by show 0 < 4; decide, by show 4 < 1000; decide, fun H19 u hu S19 B19 => ?_⟩
  have au : Atom u ∧ cntB u = false := by
    simp only [List.mem_cons, List.not_mem_nil, or_false] at hu
    rcases hu with rfl | rfl | rfl | rfl
    · exact ⟨.int _, rfl⟩
    · exact ⟨.non, rfl⟩
    · exact ⟨.bl _, rfl⟩
    · exact ⟨.str _, rfl⟩
  have B1819 := (But.of (l := l) (ls := ls) kq).trans B19
  have obe19 := B1819 _ _ abe.1 abe.2 obe
  have ole19 := B1819 _ _ ale.1 ale.2 ole
  have T19 := Tabs.but T18 S18 B1819
  have B019 := B18.trans (BE.of B1819)
  have lkv := kvI_len os xw
  refine ⟨_, rfl, _, rfl, be, _, rfl, DPut.k (k := Sum.inr a) obe19 (by rw [lkv, sizeLine_eq]; omega), ?_⟩
  have ob20 : upd H19 be (.dK (putK (kvI os xw) (Sum.inr a) u)) be = some (.dK (putK (kvI os xw) (Sum.inr a) u)) := upd_same
  have B20 : BE l ls H (upd H19 be (.dK (putK (kvI os xw) (Sum.inr a) u))) := fun b o h1 h2 e no => by
    rw [upd_ne (nB b o h1 h2 e no)]
    exact B019 b o h1 h2 e no
  have S20 : Strm (upd H19 be (.dK (putK (kvI os xw) (Sum.inr a) u))) l ls _ := strm_upd S19 abe
  have T20 : Tabs T (upd H19 be (.dK (putK (kvI os xw) (Sum.inr a) u))) := tabs_dictN T19 obe19
  have ole20 : upd H19 be (.dK (putK (kvI os xw) (Sum.inr a) u)) le = some (.dK (kvI (os.filter fun n => decide (n ≠ a)) xw)) := by rw [upd_ne (Ne.symm lebe)]; exact ole19
  generalize upd H19 be (.dK (putK (kvI os xw) (Sum.inr a) u)) = H20 at ob20 B20 S20 T20 ole20
  clear nB B1819 obe19 ole19 T19 B019 S19 B19 kq nq obe ole S18 T18 B18 ofe18 lkv
  -- odd ones
  refine ⟨Nat.zero_le _, fun p1 np1 => ?_⟩
  have k1 := same_new (o := .lst []) np1
  have ap1 := S20.apart (Same.refl _) np1
  have op1 : upd H20 p1 (.lst []) p1 = some (.lst []) := upd_same
  refine ⟨_, rfl, _, rfl, (by show 5 ≤ sizeLine; decide), fun tl ntl => ?_⟩
  have k2 := same_new (o := .lst [.non, .int 5, .ref p1, .ref le, .ref be]) ntl
  have atl := (S20.same k1).apart (Same.refl _) ntl
  have otl : upd (upd H20 p1 (.lst [])) tl (.lst [.non, .int 5, .ref p1, .ref le, .ref be]) tl = some (.lst [.non, .int 5, .ref p1, .ref le, .ref be]) := upd_same
  have kk := k1.trans k2
  have op1 := k2 _ _ op1
  have ob21 := kk _ _ ob20
  have ole21 := kk _ _ ole20
  have S21 := S20.same kk
  have T21 := T20.ext kk
  have B21 := B20.trans (BE.of (.of kk))
  generalize upd (upd H20 p1 (.lst [])) tl (.lst [.non, .int 5, .ref p1, .ref le, .ref be]) = H21 at otl op1 ob21 ole21 S21 T21 B21
  clear k1 k2 kk np1 ntl ob20 S20 T20 B20 ole20
  have odd : ∀ v ∈ [V.non, .int 5, .ref p1, .ref le, .ref be], Rob l ls H21 (fun G => CnTh K G ks v false ∧ AlkF G 1 v v) := fun v hv G BG => by
    simp only [List.mem_cons, List.not_mem_nil, or_false] at hv
    rcases hv with rfl | rfl | rfl | rfl | rfl
    · exact ⟨.no ⟨_, .base .non, by decide +kernel⟩, .up (.one .non)⟩
    · exact ⟨.no ⟨_, .base (.int _), by decide +kernel⟩, .up (.one (.int _))⟩
    · have z := BG _ _ ap1.1 ap1.2 op1 (fun _ z => by cases z)
      exact ⟨.no ⟨_, .base (.lst z), by decide +kernel⟩, .lst z z rfl (by decide) (fun i x y ex => by cases ex)⟩
    · have z := BG _ _ ale.1 ale.2 ole21 (fun _ z => by cases z)
      exact ⟨cnt_less z ha (fun h => (of_decide_eq_true (List.mem_filter.mp h).2) rfl), alk_kvI z ndl⟩
    · have z := BG _ _ abe.1 abe.2 ob21 (fun _ z => by cases z)
      exact ⟨cnt_bent z ha au.1 au.2, alk_bent z ndo hao au.1⟩
  have TL := rob_at atl otl (fun _ z => by cases z)
  refine ⟨tl, rfl, ⟨_, SqL.of otl⟩, for_list (xs := [.non, .int 5, .ref p1, .ref le, .ref be]) (fun j σ H' => Strm H' l ls (N + 8 + 1020 * (i : Int) + 1015) ∧ BE l ls H21 H' ∧ Tabs T H' ∧ ∃ s6 s13 s15, σ = [some (.ref l), some (.ref x), some (.ref D), some (.ref gv), some (.str a), some (.ref wi), s6, some (.ref W), some (.ref fe), some (.ref le), some (.ref be), some (.str e.1), some (.ref kn), s13, some (.ref pl), s15])
    ⟨S21.mono (by omega), BE.refl _ _ _, T21, _, _, _, rfl⟩ (fun j σ H' _ h => SqL.of (TL _ h.2.1)) ?_ ?_⟩
  · rintro j v σ G0 ev ⟨SG, BG, TG, s6, s13, s15, rfl⟩
    have hv := List.mem_of_getElem? ev
    have evG := EV _ (B21.trans BG)
    obtain ⟨dx, _, _, _, h1, _⟩ := id evG.net.ex
    obtain ⟨cn, _⟩ := odd v hv _ BG
    refine fs_one (r := ⟨"BadAnswers", "answers", "thing"⟩) (v := v) TG (by simp [rzT]) (fun H1 E R e1 _ fl => ⟨_, rfl, x, dx, _, rfl, e1 _ _ h1 (fun _ z => by cases z), rfl, _, rfl, _, rfl, _, rfl, _, rfl, x, kn, .ref pl, v, arcs, A1, ks, e, _, v, rfl, evG.net.ext e1, nok, (evG.ext e1).kn, he, .an (o := some S) (.yes (evG.ext e1).pl ndS sub) pb (cn.ext e1), fl⟩) fun G2 ta e2 T2 ot => ?_
    refine ⟨_, rfl, (by show 2 ≤ sizeLine; decide), fun tb ntb => ?_⟩
    have kt := same_new (o := .tup [.str "answers", v]) ntb
    have B2 := BG.trans (BE.ext (e2.trans (ExtN.of kt)))
    refine ⟨_, _, rfl, alk_pair (kt _ _ ot) upd_same ((AlkF.one (.str _)).le (Nat.zero_le _)) (odd v hv _ B2).2, fun G5 s5 => ⟨_, rfl, iteF ?_⟩⟩
    exact ⟨((SG.ext e2).same kt).same s5, B2.trans (BE.of (.of s5)), (T2.ext kt).ext s5, _, _, _, rfl⟩
  · rintro σ G0 ⟨SG, BG, TG, s6, s13, s15, rfl⟩
    exact ⟨SG.mono (by omega), B21.trans BG, TG, _, _, _, _, _, _, _, _, rfl⟩
end
end L2.TB
/-! the law: what it calls; its state -/
namespace L2.TB
open PySem PySem.Spec PyProof.Rows LamX
structure LawN (P : Program) (w : World) (K : PySem.W.Frag) (mg : Str → Option Value) (base : Heap) (C : Addr) (ca : Str → Addr) (WE : Addr) (T : List (Addr × Str)) : Prop where
  F : LawF P w K mg base C ca WE
  makeN : ∃ fI fdI, Mk K C fI ∧ mg "Net" = some (.ref C) ∧ Binds K fdI ["self", "arcs"] [] ∧ FnOk P w K mg base CX0 5 fI fdI ["self", "arcs"] (spNInit K C)
  start : ∃ f fd, mg "_law_start" = some (.ref f) ∧ PySem.W.keepIn K (.ref f) = true ∧ Binds K fd ["script"] [] ∧ FnOk P w K mg base CX0 1 f fd ["script"] (spStart K)
  arcsL : ∃ f fd, mg "_law_c_arcs" = some (.ref f) ∧ PySem.W.keepIn K (.ref f) = true ∧ Binds K fd ["stream", "most"] [] ∧ FnOk P w K mg base CX0 5 f fd ["stream", "most"] spArcsL
  someL : ∃ f fd, mg "_law_c_some" = some (.ref f) ∧ PySem.W.keepIn K (.ref f) = true ∧ Binds K fd ["stream", "names"] [] ∧ FnOk P w K mg base CX0 3 f fd ["stream", "names"] (spSome K)
  plansL : ∃ f fd, mg "_law_c_plans" = some (.ref f) ∧ PySem.W.keepIn K (.ref f) = true ∧ Binds K fd ["stream", "arcs", "plan"] [] ∧ FnOk P w K mg base CX0 4 f fd ["stream", "arcs", "plan"] (spPlansL K)
  pairsL : ∃ f fd, mg "_law_c_pairs" = some (.ref f) ∧ PySem.W.keepIn K (.ref f) = true ∧ Binds K fd ["stream", "arcs", "pair"] [] ∧ FnOk P w K mg base CX0 5 f fd ["stream", "arcs", "pair"] (spPairs K)
  isPl : ∃ f fd, mg "_law_c_is_plan" = some (.ref f) ∧ PySem.W.keepIn K (.ref f) = true ∧ Binds K fd ["arcs", "known", "asked", "x"] [] ∧ FnOk P w K mg base CX0 3 f fd ["arcs", "known", "asked", "x"] (spIsPlanL K)
  areAp : ∃ f fd, mg "_law_c_are_apart" = some (.ref f) ∧ PySem.W.keepIn K (.ref f) = true ∧ Binds K fd ["arcs", "known", "asked", "x"] [] ∧ FnOk P w K mg base CX0 3 f fd ["arcs", "known", "asked", "x"] (spAreApL K)
  finds : ∃ f fd, mg "_law_c_finds" = some (.ref f) ∧ PySem.W.keepIn K (.ref f) = true ∧ Binds K fd ["stream", "net", "arcs", "given"] [] ∧ FnOk P w K mg base CX0 9 f fd ["stream", "net", "arcs", "given"] (spFinds K C T)
  plan : ∃ f fd, Meth K C "plan" f ∧ Binds K fd ["self", "known", "asked"] [] ∧ FnOk P w K mg base CX0 6 f fd ["self", "known", "asked"] (spPlanN C)
  apart : ∃ f fd, Meth K C "apart" f ∧ Binds K fd ["self", "known", "asked"] [] ∧ FnOk P w K mg base CX0 6 f fd ["self", "known", "asked"] (spApartN C)
  isPlan : ∃ f fd, Meth K C "is_plan" f ∧ Binds K fd ["self", "known", "asked", "thing"] [] ∧ FnOk P w K mg base CX0 5 f fd ["self", "known", "asked", "thing"] (spIsPlN K C)
  areApart : ∃ f fd, Meth K C "are_apart" f ∧ Binds K fd ["self", "known", "asked", "thing"] [] ∧ FnOk P w K mg base CX0 5 f fd ["self", "known", "asked", "thing"] (spAreAp K C)
abbrev NLw : List Str := ["script", "stream", "turn", "arcs", "plan", "pair", "due", "found", "asked", "known", "net", "thing"]
theorem scLaw : FnScope NLw ["script"] (defScope sLaw) := ⟨rfl, rfl, rfl, by decide +kernel, rfl, by decide +kernel, by decide +kernel⟩
def forB : Stmt → List Stmt
  | .For _ _ b _ _ => b
  | _ => []
abbrev bodyT : List Stmt := forB ((defBody sLaw).getD 1 (.Pass ⟨0, 0, 0, 0⟩))
/-- the drawn arcs, the net, known ones, an asked one -/
structure SN (C l ls D x kn : Addr) (arcs : NtT) (ks : List Str) (T : List (Addr × Str)) (N : Int) (H : Hp) : Prop where
  S : Strm H l ls N
  T0 : Tabs T H
  LA : LArcs arcs
  at_ : ∃ A2 : Addr → Prop, Rob l ls H (fun H' => PyD.at_ A2 H' (.ref D) (Dc.mk arcs)) ∧ ∀ c, A2 c → c ≠ l ∧ c ≠ ls
  nt : ∃ A1 : Addr → Prop, Rob l ls H (fun H' => NetA A1 H' C x arcs)
  kno : Rob l ls H (fun H' => KnA H' kn arcs ks)
  akn : kn ≠ l ∧ kn ≠ ls
theorem SN.go {C l ls D x kn : Addr} {arcs : NtT} {ks : List Str} {T : List (Addr × Str)} {N N' : Int} {H H' : Hp} (h : SN C l ls D x kn arcs ks T N H) (B : BE l ls H H') (S' : Strm H' l ls N') (T' : Tabs T H') : SN C l ls D x kn arcs ks T N' H' := by
  obtain ⟨A2, a, a2⟩ := h.at_
  obtain ⟨A1, b⟩ := h.nt
  exact ⟨S', T', h.LA, ⟨A2, a.go B, a2⟩, ⟨A1, b.go B⟩, h.kno.go B, h.akn⟩
theorem SN.but {C l ls D x kn : Addr} {arcs : NtT} {ks : List Str} {T : List (Addr × Str)} {N N' : Int} {H H' : Hp} (h : SN C l ls D x kn arcs ks T N H) (B : But l ls H H') (S' : Strm H' l ls N') : SN C l ls D x kn arcs ks T N' H' := h.go (BE.of B) S' (L2.TB.Tabs.but h.T0 h.S B)
theorem SN.same {C l ls D x kn : Addr} {arcs : NtT} {ks : List Str} {T : List (Addr × Str)} {N : Int} {H H' : Hp} (h : SN C l ls D x kn arcs ks T N H) (s : Same H H') : SN C l ls D x kn arcs ks T N H' := h.but (.of s) (h.S.same s)
theorem SN.extN {C l ls D x kn : Addr} {arcs : NtT} {ks : List Str} {T : List (Addr × Str)} {N : Int} {H H' : Hp} (h : SN C l ls D x kn arcs ks T N H) (s : ExtN H H') (T' : Tabs T H') : SN C l ls D x kn arcs ks T N H' := h.go (BE.ext s) (h.S.ext s) T'
theorem SN.mono {C l ls D x kn : Addr} {arcs : NtT} {ks : List Str} {T : List (Addr × Str)} {N N' : Int} {H : Hp} (h : SN C l ls D x kn arcs ks T N H) (le : N ≤ N') : SN C l ls D x kn arcs ks T N' H := ⟨h.S.mono le, h.T0, h.LA, h.at_, h.nt, h.kno, h.akn⟩
theorem keys_at {A2 : Addr → Prop} {G : Hp} {D : Addr} {arcs : NtT} (h : PyD.at_ A2 G (.ref D) (Dc.mk arcs)) : ∃ es, G D = some (.dK es) ∧ (es.map fun kv => kV kv.1) = (arcs.map (·.1)).map V.str := by
  obtain ⟨D', es0, e1, aD, oD, rnd, pr⟩ := h
  obtain rfl := V.ref.inj e1
  exact ⟨es0, oD, keys_L pr⟩
section
variable {P : Program} {w : World} {K : PySem.W.Frag} {mg : Str → Option Value} {base : Heap} {f C c WE Pt : Addr} {ca : Str → Addr} {T : List (Addr × Str)}
theorem turn_a (L : LawN P w K mg base C ca WE T) {A : Around} {outer : List Env} {s : Shared} {H : Hp} {E : XK} (hr : Room 9 (A.deeper (envOfC "law" (defScope sLaw) s.heap.objs.size f (.ref c)))) {rest : List Stmt} {u : TS} (hrest : PSs (cxOf CX0 P w K mg base NLw "law" (defScope sLaw) f (.ref c) A outer s H E).nox rest u) :
    ∃ t, PSs (cxOf CX0 P w K mg base NLw "law" (defScope sLaw) f (.ref c) A outer s H E).nox (bodyT.take 3 ++ rest) t ∧ ∀ (Dn : Ends) (H0 : Hp) (s0 s2 s3 s4 s5 s6 s7 s8 s9 s10 s11 : Option V) (l ls : Addr) (N : Int), Strm H0 l ls N → N ≤ 450000 → Tabs T H0 →
      (∀ H' D x kn arcs ks, SN C l ls D x kn arcs ks T (N + 230) H' → u Dn [s0, some (.ref l), s2, some (.ref D), s4, s5, s6, s7, s8, some (.ref kn), some (.ref x), s11] H') →
      t Dn [s0, some (.ref l), s2, s3, s4, s5, s6, s7, s8, s9, s10, s11] H0 := by
  obtain ⟨fA, fdA, gA, kA, bA, GA⟩ := L.arcsL
  obtain ⟨fS, fdS, gS, kS, bS, GS⟩ := L.someL
  obtain ⟨fD, fdD, gD, kD, bD, GD⟩ := L.F.draw
  obtain ⟨fX, fdX, gX, kX, bX, GX⟩ := L.F.mixed
  obtain ⟨fI, fdI, MN, gN, bI, GI⟩ := L.makeN
  have M := L.F.M
  have nd := scLaw.nd
  refine ⟨_, pss_cons (ps_set (i := 3) nd rfl (Or.inl rfl) (pe_call GA (hr.mono (by decide)) rfl gA kA bA .nil pass0 (pa_cons (pv 1) (pa_cons pe_int pa_nil))))
    (pss_cons (ps_asg (pe_tup (pa_cons (pe_make MN GI (hr.mono (by decide)) rfl gN bI .nil pass0 (pa_cons (pv 3) pa_nil)) (pa_cons (pe_call GS (hr.mono (by decide)) rfl gS kS bS .nil pass0 (pa_cons (pv 1) (pa_cons (pe_callTy (call_listD rfl) rfl M.nL boot_list' (pa_cons (pv 3) pa_nil)) pa_nil))) pa_nil))) (pg_tup (n := 2) rfl (pgs_cons (pg_name (i := 10) nd rfl (Or.inr rfl)) (pgs_cons (pg_name (i := 9) nd rfl (Or.inr rfl)) pgs_nil))))
    (pss_cons (ps_set (i := 9) nd rfl (Or.inr rfl) (pe_ifExp (pt_cmpR op_eq (pe_call GD (hr.mono (by decide)) rfl gD kD bD .nil pass0 (pa_cons (pv 1) (pa_cons pe_int pa_nil))) pe_int (nomark _)) (pv 9) (pe_slice (r := rSlL K) sl_list (pe_call GX (hr.mono (by decide)) rfl gX kX bX .nil pass0 (pa_cons (pv 1) (pa_cons (pe_callTy (call_listD rfl) rfl M.nL boot_list' (pa_cons (pv 3) pa_nil)) pa_nil))) (po_some pe_int) po_none))) hrest)), ?_⟩
  intro Dn H0 s0 s2 s3 s4 s5 s6 s7 s8 s9 s10 s11 l ls N S hN T0 fin
  refine ⟨_, rfl, l, ls, N, rfl, S, by omega, fun H1 D arcs LA at1 S1 B1 => ?_⟩
  have at0 := at1
  obtain ⟨D', es0, e1, aD, oD, rnd, pr⟩ := at1
  obtain rfl := V.ref.inj e1
  have les : es0.length = arcs.length := Paired.length pr
  have l2 := LA.n0
  have l8 := LA.n1
  have ok := LA.ok
  have pr0 : Paired (DcE (fun b => H0 b = none ∧ b ≠ l ∧ b ≠ ls) H1) es0 arcs := pr
  refine ⟨_, rfl, made_nt oD (hand_of (K := K) pr0) ok fun H2 x nx TX k2 => ?_⟩
  have ax := S1.apart (Same.refl _) nx
  have S2 := S1.same k2
  refine ⟨_, rfl, _, rfl, D, es0, rfl, .inl (k2 _ _ oD), fun nm nnm => ?_⟩
  rw [keys_L pr]
  have anm := S2.apart (Same.refl _) nnm
  have k3 := same_new (o := .lst ((arcs.map (·.1)).map V.str)) nnm
  have onm : upd H2 nm (.lst ((arcs.map (·.1)).map V.str)) nm = some (.lst ((arcs.map (·.1)).map V.str)) := upd_same
  have S3 := S2.same k3
  generalize upd H2 nm (.lst ((arcs.map (·.1)).map V.str)) = H3 at k3 onm S3
  have k13 := k2.trans k3
  have at3 : PyD.at_ (fun b => H0 b = none ∧ b ≠ l ∧ b ≠ ls) H3 (.ref D) (Dc.mk arcs) := PyD.kp at0 fun b o a e => ⟨a, k13 _ _ e⟩
  refine ⟨l, ls, nm, arcs.map (·.1), _, rfl, S3, by omega, onm, anm, by rw [List.length_map]; omega, fun H4 kn0 ys nkn akn okn sub ndk lek S4 B4 => ?_⟩
  refine ⟨(by show 2 ≤ sizeLine; decide), fun t nt => ⟨t, _, rfl, SqT.of upd_same, rfl, _, _, rfl, _, _, rfl, rfl, ?_⟩⟩
  have kt := same_new (o := .tup [.ref x, .ref kn0]) nt
  have B34 := B4.trans (.of kt)
  have S5 := S4.same kt
  have okn5 := kt _ _ okn
  rw [List.length_map] at S5 lek
  generalize upd H4 t (.tup [.ref x, .ref kn0]) = H5 at kt B34 S5 okn5
  have T5 : Tabs T H5 := L2.TB.Tabs.but (L2.TB.Tabs.but T0 S (B1.trans (.of k13))) S3 B34
  have NX : NetA (fun b => H1 b = none) H3 C x arcs := TX.same k3
  have AT := (rob_arcs at3 fun c a => a.2).go (BE.of B34)
  have NT := (rob_net NX (fun c a => S1.apart (Same.refl _) a) ax).go (BE.of B34)
  have SN5 : SN C l ls D x kn0 arcs ys T (N + 210) H5 := ⟨S5.mono (by omega), T5, LA, ⟨_, AT, fun c a => a.2⟩, ⟨_, NT⟩, fun G B => ⟨B _ _ akn.1 akn.2 okn5 (fun _ z => by cases z), sub, ndk LA.nd⟩, akn⟩
  have S5 := SN5.S
  clear B34 S4 B4 okn okn5 onm S3 k3 nnm k13 kt nt T5 TX NX
  refine ⟨_, rfl, l, ls, 2, _, rfl, S5, by omega, by decide, by decide, fun H6 r r0 r2 S6 B6 => ?_⟩
  have SN6 := SN5.but B6 S6
  have AT6 := AT.go (BE.of B6)
  refine ⟨rfl, _, rfl, ?_⟩
  by_cases c : (V.int r = V.int 0)
  · rw [decide_eq_true c]
    exact iteT ⟨_, rfl, fin H6 D x kn0 arcs ys (SN6.mono (by omega))⟩
  rw [decide_eq_false c]
  obtain ⟨es6, oD6, ke6⟩ := keys_at AT6.now
  refine iteF ⟨_, rfl, _, rfl, D, es6, rfl, .inl oD6, fun n2 nn2 => ?_⟩
  rw [ke6]
  have k7 := same_new (o := .lst ((arcs.map (·.1)).map V.str)) nn2
  have an2 := S6.apart (Same.refl _) nn2
  refine ⟨l, ls, n2, _, _, rfl, S6.same k7, by omega, SqL.of upd_same, by rw [List.length_map, List.length_map]; omega, fun H8 md zs perm nmd omd S8 B8 => ?_⟩
  obtain ⟨os, pm, rfl⟩ := perm_lift perm (l := arcs.map (·.1)) rfl
  have lo : os.length = arcs.length := by rw [pm.length_eq, List.length_map]
  have ndo : os.Nodup := pm.nodup_iff.mpr LA.nd
  rw [List.length_map, List.length_map] at S8
  have B68 := (But.of (l := l) (ls := ls) k7).trans B8
  refine ⟨_, rfl, md, _, rfl, SqL.of omd, fun kn nkn2 => ?_⟩
  rw [cut_from1 _ (by rw [List.length_map]; omega), show (os.map V.str).drop 1 = (os.drop 1).map V.str from (List.map_drop).symm]
  have k9 := same_new (o := .lst ((os.drop 1).map V.str)) nkn2
  have akn2 := S8.apart (Same.refl _) nkn2
  have SN9 : SN C l ls D x kn0 arcs ys T (N + 230) (upd H8 kn (.lst ((os.drop 1).map V.str))) := (SN6.but (B68.trans (.of k9)) (S8.same k9)).mono (by omega)
  have okn9 : upd H8 kn (.lst ((os.drop 1).map V.str)) kn = some (.lst ((os.drop 1).map V.str)) := upd_same
  exact fin _ D x kn arcs (os.drop 1) ⟨SN9.S, SN9.T0, LA, SN9.at_, SN9.nt, fun G B => ⟨B _ _ akn2.1 akn2.2 okn9 (fun _ z => by cases z), fun n hn => pm.mem_iff.mp (List.mem_of_mem_drop hn), ndo.sublist (List.drop_sublist 1 os)⟩, akn2⟩
theorem turn_b (L : LawN P w K mg base C ca WE T) {A : Around} {outer : List Env} {s : Shared} {H : Hp} {E : XK} (hr : Room 9 (A.deeper (envOfC "law" (defScope sLaw) s.heap.objs.size f (.ref c)))) {rest : List Stmt} {u : TS} (hrest : PSs (cxOf CX0 P w K mg base NLw "law" (defScope sLaw) f (.ref c) A outer s H E).nox rest u) :
    ∃ t, PSs (cxOf CX0 P w K mg base NLw "law" (defScope sLaw) f (.ref c) A outer s H E).nox ((bodyT.drop 3).take 1 ++ rest) t ∧ ∀ (Dn : Ends) (H0 : Hp) (s0 s2 s4 s5 s6 s7 s8 s11 : Option V) (l ls D x kn : Addr) (arcs : NtT) (ks : List Str) (N : Int), SN C l ls D x kn arcs ks T N H0 → N ≤ 450000 →
      (∀ H' e, e ∈ arcs → SN C l ls D x kn arcs ks T (N + 1) H' → u Dn [s0, some (.ref l), s2, some (.ref D), s4, s5, s6, s7, some (.str e.1), some (.ref kn), some (.ref x), s11] H') →
      t Dn [s0, some (.ref l), s2, some (.ref D), s4, s5, s6, s7, s8, some (.ref kn), some (.ref x), s11] H0 := by
  obtain ⟨fP, fdP, gP, kP, bP, GP⟩ := L.F.pick
  have M := L.F.M
  have nd := scLaw.nd
  refine ⟨_, pss_cons (ps_set (i := 8) nd rfl (Or.inr rfl) (pe_call GP (hr.mono (by decide)) rfl gP kP bP .nil pass0 (pa_cons (pv 1) (pa_cons (pe_callTy (call_listD rfl) rfl M.nL boot_list' (pa_cons (pv 3) pa_nil)) pa_nil)))) hrest, ?_⟩
  intro Dn H0 s0 s2 s4 s5 s6 s7 s8 s11 l ls D x kn arcs ks N SN0 hN fin
  have LA := SN0.LA
  have l2 := LA.n0
  have l8 := LA.n1
  have S0 := SN0.S
  obtain ⟨A2, AT, hA2⟩ := SN0.at_
  obtain ⟨es6, oD6, ke6⟩ := keys_at AT.now
  refine ⟨_, rfl, _, rfl, D, es6, rfl, .inl oD6, fun n2 nn2 => ?_⟩
  rw [ke6]
  have k7 := same_new (o := .lst ((arcs.map (·.1)).map V.str)) nn2
  have an2 := S0.apart (Same.refl _) nn2
  refine ⟨l, ls, n2, _, _, rfl, S0.same k7, by omega, an2.1, an2.2, upd_same, by rw [List.length_map, List.length_map]; omega, by rw [List.length_map, List.length_map]; omega, fun H8 v hv S8 B8 => ?_⟩
  obtain ⟨n, hn, rfl⟩ := List.mem_map.mp hv
  obtain ⟨e, he, rfl⟩ := List.mem_map.mp hn
  exact fin H8 e he (SN0.but ((But.of k7).trans B8) S8)
end
end L2.TB
/-! the law: a plan, two worlds apart -/
namespace L2.TB
open PySem PySem.Spec PyProof.Rows LamX
/-- the plan and the pair of worlds -/
def PlV (l ls : Addr) (arcs : NtT) (ks : List Str) (e : Str × ArT) (pv pr : V) (H : Hp) : Prop :=
  (Told arcs ks e ∧ pr = .non ∧ ∃ (p : Addr) (S : List Str), pv = .ref p ∧ Rob l ls H (fun G => G p = some (.lst (S.map V.str))) ∧ (p ≠ l ∧ p ≠ ls) ∧ S.length ≤ 16) ∨
  (¬ Told arcs ks e ∧ pv = .non ∧ ∃ (t f g : Addr) (y1 y2 : Str → Int), pr = .ref t ∧ Rob l ls H (fun G => G t = some (.tup [.ref f, .ref g]) ∧ G f = some (.dK (valD (fun n => .int (y1 n)) arcs)) ∧ G g = some (.dK (valD (fun n => .int (y2 n)) arcs))) ∧ (t ≠ l ∧ t ≠ ls) ∧ (f ≠ l ∧ f ≠ ls) ∧ (g ≠ l ∧ g ≠ ls))
theorem PlV.go {l ls : Addr} {arcs : NtT} {ks : List Str} {e : Str × ArT} {pv pr : V} {H H' : Hp} (h : PlV l ls arcs ks e pv pr H) (B : BE l ls H H') : PlV l ls arcs ks e pv pr H' := by
  rcases h with ⟨t, e1, p, S, e2, r, a, n⟩ | ⟨t, e1, q, f, g, y1, y2, e2, r, a⟩
  · exact .inl ⟨t, e1, p, S, e2, r.go B, a, n⟩
  · exact .inr ⟨t, e1, q, f, g, y1, y2, e2, r.go B, a⟩
section
variable {P : Program} {w : World} {K : PySem.W.Frag} {mg : Str → Option Value} {base : Heap} {f C c WE Pt : Addr} {ca : Str → Addr} {T : List (Addr × Str)}
theorem turn_c (L : LawN P w K mg base C ca WE T) {A : Around} {outer : List Env} {s : Shared} {H : Hp} {E : XK} (hr : Room 9 (A.deeper (envOfC "law" (defScope sLaw) s.heap.objs.size f (.ref c)))) {rest : List Stmt} {u : TS} (hrest : PSs (cxOf CX0 P w K mg base NLw "law" (defScope sLaw) f (.ref c) A outer s H E).nox rest u) :
    ∃ t, PSs (cxOf CX0 P w K mg base NLw "law" (defScope sLaw) f (.ref c) A outer s H E).nox ((bodyT.drop 4).take 2 ++ rest) t ∧ ∀ (Dn : Ends) (H0 : Hp) (s0 s2 s4 s5 s6 s7 s11 : Option V) (l ls D x kn : Addr) (arcs : NtT) (ks : List Str) (e : Str × ArT) (N : Int), SN C l ls D x kn arcs ks T N H0 → e ∈ arcs →
      (∀ H' pv pr, SN C l ls D x kn arcs ks T N H' → PlV l ls arcs ks e pv pr H' → u Dn [s0, some (.ref l), s2, some (.ref D), some pv, some pr, s6, s7, some (.str e.1), some (.ref kn), some (.ref x), s11] H') →
      t Dn [s0, some (.ref l), s2, some (.ref D), s4, s5, s6, s7, some (.str e.1), some (.ref kn), some (.ref x), s11] H0 := by
  obtain ⟨fP, fdP, mP, bP, GP⟩ := L.plan
  obtain ⟨fQ, fdQ, mQ, bQ, GQ⟩ := L.apart
  have M := L.F.M
  have nd := scLaw.nd
  refine ⟨_, pss_cons (ps_par (i := 4) (j := 5) rfl nd rfl rfl (by decide) rfl rfl (pa_cons (pe_meth (pv 10) L.F.S.cl mP GP (hr.mono (by decide)) bP .nil pass0 (pa_cons (pv 9) (pa_cons (pv 8) pa_nil))) (pa_cons (pe_meth (pv 10) L.F.S.cl mQ GQ (hr.mono (by decide)) bQ .nil pass0 (pa_cons (pv 9) (pa_cons (pv 8) pa_nil))) pa_nil)) (by rfl))
    (pss_cons (ps_if (pt_cmp (pc_notN (pv 4))) (pss_one (ps_expr (pe_bm PySem.F.plainAttrs_list PySem.F.slot_list_append PySem.F.type_list_append mt_append (pe_meth (pv 10) L.F.S.cl mP GP (hr.mono (by decide)) bP .nil pass0 (pa_cons (pv 9) (pa_cons (pv 8) pa_nil))) (pa_cons pe_str pa_nil)))) pss_nil) hrest), ?_⟩
  intro Dn H0 s0 s2 s4 s5 s6 s7 s11 l ls D x kn arcs ks e N SN0 he fin
  have LA := SN0.LA
  have l8 := LA.n1
  have nok := LA.ok
  have S0 := SN0.S
  have KN := SN0.kno
  obtain ⟨A1, NT⟩ := SN0.nt
  have n0 := NT.now
  have k0 := KN.now
  obtain ⟨dx, _, _, _, h1, _⟩ := id n0.ex
  by_cases tt : Told arcs ks e
  · refine ⟨_, rfl, x, dx, _, rfl, h1, rfl, _, rfl, _, rfl, x, kn, arcs, A1, ks, e, rfl, n0, nok, k0, he, fun z => absurd tt z, fun _ H1 p S np op ndS sub _ _ k1 => ?_⟩
    have ap := S0.apart (Same.refl _) np
    have lS : S.length ≤ 16 := by
      have h1 := nd_sub_len ndS sub
      have h2 := nodes_len arcs
      omega
    refine ⟨_, rfl, x, dx, _, rfl, k1 _ _ h1, rfl, _, rfl, _, rfl, x, kn, arcs, A1, ks, e, rfl, n0.same k1, nok, k0.same k1, he, fun _ H2 k2 => ?_, fun z => absurd tt z⟩
    have k02 := k1.trans k2
    have RP := rob_at ap (k2 _ _ op) (fun _ z => by cases z)
    refine ⟨_, _, rfl, ?_⟩
    refine ⟨_, rfl, _, rfl, iteT ?_⟩
    refine ⟨_, rfl, x, dx, _, rfl, k02 _ _ h1, rfl, _, rfl, _, rfl, x, kn, arcs, A1, ks, e, rfl, n0.same k02, nok, k0.same k02, he, fun z => absurd tt z, fun _ H3 q S3 nq oq nd3 sub3 _ _ k3 => ?_⟩
    have l3 : S3.length ≤ 16 := by
      have h1 := nd_sub_len nd3 sub3
      have h2 := nodes_len arcs
      omega
    have S2 := S0.same k02
    have aq := S2.apart (Same.refl _) nq
    refine ⟨.inl ⟨rfl, _, SqL.of oq⟩, q, _, .str "late", rfl, rfl, oq, (by rw [List.length_map, sizeLine_eq]; omega), ?_⟩
    have B24 : BE l ls H2 (upd H3 q (.lst (S3.map V.str ++ [.str "late"]))) := fun b o _ _ e' _ => by
      rw [upd_ne (ne_of_none e' nq)]
      exact k3 _ _ e'
    have SN4 : SN C l ls D x kn arcs ks T N (upd H3 q (.lst (S3.map V.str ++ [.str "late"]))) := (SN0.same k02).go B24 (strm_upd (S2.same k3) aq) (tabs_list (((SN0.same k02).same k3).T0) oq)
    exact fin _ _ _ SN4 (.inl ⟨tt, rfl, p, S, rfl, RP.go B24, ap, lS⟩)
  · refine ⟨_, rfl, x, dx, _, rfl, h1, rfl, _, rfl, _, rfl, x, kn, arcs, A1, ks, e, rfl, n0, nok, k0, he, fun _ H1 k1 => ?_, fun z => absurd z tt⟩
    have S1 := S0.same k1
    refine ⟨_, rfl, x, dx, _, rfl, k1 _ _ h1, rfl, _, rfl, _, rfl, x, kn, arcs, A1, ks, e, rfl, n0.same k1, nok, k0.same k1, he, fun z => absurd z tt, fun _ H2 t f g y1 y2 nt nf ng ot of og k2 => ?_⟩
    have SN2 := (SN0.same k1).same k2
    refine ⟨_, _, rfl, ?_⟩
    refine ⟨_, rfl, _, rfl, iteF ?_⟩
    have at_ := S1.apart (Same.refl _) nt
    have af := S1.apart (Same.refl _) nf
    have ag := S1.apart (Same.refl _) ng
    exact fin _ _ _ SN2 (.inr ⟨tt, rfl, t, f, g, y1, y2, rfl, fun G B => ⟨rob_at at_ ot (fun _ z => by cases z) G B, rob_at af of (fun _ z => by cases z) G B, rob_at ag og (fun _ z => by cases z) G B⟩, at_, af, ag⟩)
end
end L2.TB
/-! the law: the plans -/
namespace L2.TB
open PySem PySem.Spec PyProof.Rows LamX
theorem thp_some {K : PySem.W.Frag} {H : Hp} {ns : List Str} {v : V} {S : List Str} (h : ThP K H ns v (some S)) : ∃ a, v = .ref a ∧ SqA K H a (S.map V.str) ∧ S.Nodup ∧ ∀ n ∈ S, n ∈ ns := by
  generalize eo : some S = o at h
  cases h with
  | no h => cases eo
  | nn h => cases eo
  | @st a S' h sh =>
    by_cases c : (∀ n ∈ S', n ∈ ns) ∧ S'.Nodup
    · rw [if_pos c] at eo
      obtain rfl := Option.some.inj eo
      exact ⟨a, rfl, h, c.2, c.1⟩
    · rw [if_neg c] at eo
      cases eo
section
variable {P : Program} {w : World} {K : PySem.W.Frag} {mg : Str → Option Value} {base : Heap} {f C c WE Pt : Addr} {ca : Str → Addr} {T : List (Addr × Str)}
theorem turn_d (L : LawN P w K mg base C ca WE T) {A : Around} {outer : List Env} {s : Shared} {H : Hp} {E : XK} (TB : TabB base mg c Pt) (hm : (Pt, (envOfC "law" (defScope sLaw) s.heap.objs.size f (.ref c)).qual ++ "<lambda>") ∈ T) (hu0 : ∀ p ∈ T, p.1 = Pt → p.2 = (envOfC "law" (defScope sLaw) s.heap.objs.size f (.ref c)).qual ++ "<lambda>") (hr : Room 9 (A.deeper (envOfC "law" (defScope sLaw) s.heap.objs.size f (.ref c)))) {rest : List Stmt} {u : TS} (hrest : PSs (cxOf CX0 P w K mg base NLw "law" (defScope sLaw) f (.ref c) A outer s H E).nox rest u) :
    ∃ t, PSs (cxOf CX0 P w K mg base NLw "law" (defScope sLaw) f (.ref c) A outer s H E).nox ((bodyT.drop 6).take 1 ++ rest) t ∧ ∀ (Dn : Ends) (H0 : Hp) (s0 s2 s6 s7 s11 : Option V) (l ls D x kn : Addr) (arcs : NtT) (ks : List Str) (e : Str × ArT) (N : Int) (pv0 pr0 : V), SN C l ls D x kn arcs ks T N H0 → N ≤ 380000 → e ∈ arcs → PlV l ls arcs ks e pv0 pr0 H0 →
      (∀ H' t6 t7 t11, SN C l ls D x kn arcs ks T (N + 95000) H' → PlV l ls arcs ks e pv0 pr0 H' → u Dn [s0, some (.ref l), s2, some (.ref D), some pv0, some pr0, t6, t7, some (.str e.1), some (.ref kn), some (.ref x), t11] H') →
      t Dn [s0, some (.ref l), s2, some (.ref D), some pv0, some pr0, s6, s7, some (.str e.1), some (.ref kn), some (.ref x), s11] H0 := by
  obtain ⟨fL, fdL, gL, kL, bL, GL⟩ := L.plansL
  obtain ⟨fJ, fdJ, gJ, kJ, bJ, GJ⟩ := L.isPl
  obtain ⟨fN, fdN, gN, kN, bN, GN⟩ := L.finds
  obtain ⟨fI, fdI, mI, bI, GI⟩ := L.isPlan
  obtain ⟨fF, fdF, mF, bF, GF, GX⟩ := L.F.found
  obtain ⟨fS, fdS, gS, FS⟩ := L.F.same
  have GS : FnOk P w K mg base CX0 3 fS fdS ["found", "due"] (spSameF 2) := ok_sameF FS gS L.F.M 2
  have bS := FS.binds (ps := ["found", "due"]) fun _ _ _ _ _ _ us hl => match us, hl with | [_, _], _ => rfl
  have R := L.F.R
  have M := L.F.M
  have nd := scLaw.nd
  refine ⟨_, pss_cons (ps_for PassesOwn.never rfl (pi_list (pe_call GL (hr.mono (by decide)) rfl gL kL bL .nil pass0 (pa_cons (pv 1) (pa_cons (pv 3) (pa_cons (pv 4) pa_nil))))) (pg_name (i := 11) nd rfl (Or.inr rfl)) (pss_cons (ps_set (i := 6) nd rfl (Or.inl rfl) (pe_call GJ (hr.mono (by decide)) rfl gJ kJ bJ .nil pass0 (pa_cons (pv 3) (pa_cons (pv 9) (pa_cons (pv 8) (pa_cons (pv 11) pa_nil)))))) (pss_cons (ps_if (pt_not (pt_val (pe_call GS (hr.mono (by decide)) rfl gS FS.kp bS .nil pass0 (pa_cons (pe_meth (pv 10) L.F.S.cl mI GI (hr.mono (by decide)) bI .nil pass0 (pa_cons (pv 9) (pa_cons (pv 8) (pa_cons (pv 11) pa_nil)))) (pa_cons (pv 6) pa_nil))))) (pss_one ps_never) pss_nil) (pss_cons (ps_if (PW.pt (pw_and (pt_val (pv 6)) (pw_and1 (pt_not (pt_val (pe_call GN hr rfl gN kN bN .nil pass0 (pa_cons (pv 1) (pa_cons (pv 10) (pa_cons (pv 3) (pa_cons (pe_tup (pa_cons (pv 9) (pa_cons (pv 8) (pa_cons (pv 11) pa_nil)))) pa_nil)))))))))) (pss_one ps_never) pss_nil) (pss_one (ps_if (pt_not (pt_val (pv 6))) (pss_cons (ps_set (i := 7) nd rfl (Or.inl rfl) (pe_triedE R rfl TB rfl hm hu0 hr (by decide) (lamS_by (by show lamSB (defScope sLaw) _ = true; decide +kernel)) rfl (fun _ _ _ _ _ => rfl) (fun A outer s H E f c' hr => pe_meth (pv 10) L.F.S.cl mF GX (hr.mono (by decide)) bF .nil (passesN (takes_of rfl rfl rfl rfl)) (pa_cons (pv 9) (pa_cons (pv 8) (pa_cons (pv 11) (pa_cons pe_non pa_nil))))))) (pss_one (ps_if (pt_not (pt_val (pe_call GS (hr.mono (by decide)) rfl gS FS.kp bS .nil pass0 (pa_cons (pv 7) (pa_cons (pe_tup (pa_cons pe_str (pa_cons (pv 11) pa_nil))) pa_nil))))) (pss_one ps_never) pss_nil))) pss_nil)))))) hrest, ?_⟩
  intro Dn H0 s0 s2 s6 s7 s11 l ls D x kn arcs ks e N pv0 pr0 SN0 hN he PV fin
  have LA := SN0.LA
  have l2 := LA.n0
  have l8 := LA.n1
  have nok := LA.ok
  have S0 := SN0.S
  obtain ⟨A2, AT, hA2⟩ := SN0.at_
  have akn := SN0.akn
  have pvp : pv0 = .non ∨ ∃ (p : Addr) (S : List Str), pv0 = .ref p ∧ H0 p = some (.lst (S.map V.str)) ∧ (p ≠ l ∧ p ≠ ls) ∧ S.length ≤ 16 := by
    rcases PV with ⟨_, _, p, S, e2, r, a, n⟩ | ⟨_, e1, _⟩
    · exact .inr ⟨p, S, e2, r.now, a, n⟩
    · exact .inl e1
  refine ⟨_, rfl, _, rfl, _, rfl, l, ls, D, pv0, arcs, A2, N, rfl, S0, by omega, AT.now, by omega, l8, pvp, fun H1 q ys oq aq ly ths S1 B1 => ?_⟩
  have SN1 := SN0.but B1 S1
  have PV1 := PV.go (BE.of B1)
  have TL := rob_at aq oq (fun _ z => by cases z)
  refine ⟨q, rfl, ⟨_, SqL.of oq⟩, for_list (xs := ys) (fun j σ H' => SN C l ls D x kn arcs ks T (N + 200 + 3100 * (j : Int)) H' ∧ BE l ls H1 H' ∧ ∃ s6 s7 s11, σ = [s0, some (.ref l), s2, some (.ref D), some pv0, some pr0, s6, s7, some (.str e.1), some (.ref kn), some (.ref x), s11])
    ⟨SN1.mono (by omega), BE.refl _ _ _, _, _, _, rfl⟩ (fun j σ H' _ h => SqL.of (TL _ h.2.1)) ?_ ?_⟩
  case refine_2 =>
    rintro σ G0 ⟨SG, BG, s6, s7, s11, rfl⟩
    exact fin G0 _ _ _ (SG.mono (by omega)) (PV1.go BG)
  rintro j v σ G0 ev ⟨SG, BG, s6, s7, s11, rfl⟩
  have lj : j < ys.length := (List.getElem?_eq_some_iff.mp ev).1
  obtain ⟨o, rob⟩ := ths v (List.mem_of_getElem? ev)
  have rob := rob.go BG
  obtain ⟨A1, NT⟩ := SG.nt
  obtain ⟨A3, AT3, hA3⟩ := SG.at_
  have KN := SG.kno
  refine ⟨_, rfl, _, rfl, _, rfl, _, rfl, D, kn, arcs, A3, ks, e, v, o, rfl, AT3.now, nok, KN.now, he, rob.now.1, fun G1 k1 => ?_⟩
  have b1 : BE l ls G0 G1 := BE.of (.of k1)
  obtain ⟨dx, _, _, _, h1, _⟩ := id (NT _ b1).ex
  refine ⟨_, rfl, x, dx, _, rfl, h1, rfl, _, rfl, _, rfl, _, rfl, x, kn, arcs, A1, ks, e, v, o, rfl, NT _ b1, nok, KN _ b1, he, (rob _ b1).1.pl, fun G2 k2 => ?_⟩
  refine ⟨_, rfl, _, _, rfl, (AlkF.one (.bl _)).le (Nat.zero_le _), fun G3 k3 => ⟨_, rfl, iteF ?_⟩⟩
  have k03 := (k1.trans k2).trans k3
  have b3 : BE l ls G0 G3 := BE.of (.of k03)
  have SG3 := SG.same k03
  clear k1 k2 k3 b1 h1
  cases hp : planO arcs ks e o with
  | true =>
    obtain ⟨S, rfl⟩ : ∃ S, o = some S := by
      cases o with
      | none => cases hp
      | some S => exact ⟨S, rfl⟩
    obtain ⟨a, rfl, _, ndS, sub⟩ := thp_some rob.now.1
    have pls : Rob l ls G0 (fun G => SqA K G a (S.map V.str)) := fun G B => by
      obtain ⟨a', ea, h, _⟩ := thp_some (rob G B).1
      obtain rfl := V.ref.inj ea
      exact h
    refine ⟨_, rfl, _, rfl, iteT ⟨_, rfl, _, rfl, _, rfl, _, rfl, _, rfl, _, rfl, (by show 3 ≤ sizeLine; decide), fun gv ngv => ?_⟩⟩
    have kg := same_new (o := .tup [.ref kn, .str e.1, .ref a]) ngv
    have agv := SG3.S.apart (Same.refl _) ngv
    have SG4 := SG3.same kg
    have b4 := b3.trans (BE.of (.of kg))
    have GV := rob_at agv (show upd G3 gv (.tup [.ref kn, .str e.1, .ref a]) gv = _ from upd_same) (fun _ z => by cases z)
    refine ⟨l, ls, x, D, gv, kn, a, arcs, A1, A3, ks, e, S, _, rfl, SG4.S, by omega, fun G B => ⟨NT _ (b4.trans B), AT3 _ (b4.trans B), GV G B, KN _ (b4.trans B), pls _ (b4.trans B)⟩, hA3, akn, nok, l8, he, ndS, sub, hp, SG4.T0, fun G5 S5 B5 T5 => ?_⟩
    refine ⟨_, rfl, iteF ⟨_, rfl, _, rfl, iteF ?_⟩⟩
    exact ⟨(SG4.go B5 S5 T5).mono (by omega), BG.trans (b4.trans B5), _, _, _, rfl⟩
  | false =>
    refine ⟨_, rfl, _, rfl, iteF (iteF ⟨_, rfl, _, rfl, iteT ?_⟩)⟩
    have rob3 := rob.go b3
    refine fs_one (r := ⟨"BadPlan", "plan", "thing"⟩) (v := v) SG3.T0 (by simp [rzT]) (fun H1 E R e1 _ fl => ?_) fun G4 ta e4 T4 ot => ?_
    · have bb := b3.trans (BE.ext e1)
      obtain ⟨dx, _, _, _, h1, _⟩ := id (NT _ bb).ex
      exact ⟨_, rfl, x, dx, _, rfl, h1, rfl, _, rfl, _, rfl, _, rfl, x, kn, v, .non, arcs, A1, ks, e, _, v, rfl, NT _ bb, nok, KN _ bb, he, .pl (rob3 _ (BE.ext e1)).1.pl hp, fl⟩
    refine ⟨_, rfl, _, rfl, (by show 2 ≤ sizeLine; decide), fun tb ntb => ?_⟩
    have kt := same_new (o := .tup [.str "plan", v]) ntb
    have e5 := e4.trans (ExtN.of kt)
    refine ⟨_, _, rfl, alk_pair (kt _ _ ot) upd_same ((AlkF.one (.str _)).le (Nat.zero_le _)) (rob3 _ (BE.ext e5)).2, fun G5 s5 => ⟨_, rfl, iteF ?_⟩⟩
    exact ⟨((SG3.extN e5 (T4.ext kt)).same s5).mono (by omega), BG.trans ((b3.trans (BE.ext e5)).trans (BE.of (.of s5))), _, _, _, rfl⟩
end
end L2.TB
/-! the law: the pairs -/
namespace L2.TB
open PySem PySem.Spec PyProof.Rows LamX
section
variable {P : Program} {w : World} {K : PySem.W.Frag} {mg : Str → Option Value} {base : Heap} {f C c WE Pt : Addr} {ca : Str → Addr} {T : List (Addr × Str)}
theorem turn_e (L : LawN P w K mg base C ca WE T) {A : Around} {outer : List Env} {s : Shared} {H : Hp} {E : XK} (hr : Room 9 (A.deeper (envOfC "law" (defScope sLaw) s.heap.objs.size f (.ref c)))) {rest : List Stmt} {u : TS} (hrest : PSs (cxOf CX0 P w K mg base NLw "law" (defScope sLaw) f (.ref c) A outer s H E).nox rest u) :
    ∃ t, PSs (cxOf CX0 P w K mg base NLw "law" (defScope sLaw) f (.ref c) A outer s H E).nox (bodyT.drop 7 ++ rest) t ∧ ∀ (Dn : Ends) (H0 : Hp) (s0 s2 s6 s7 s11 : Option V) (l ls D x kn : Addr) (arcs : NtT) (ks : List Str) (e : Str × ArT) (N : Int) (pv0 pr0 : V), SN C l ls D x kn arcs ks T N H0 → N ≤ 500000 → e ∈ arcs → PlV l ls arcs ks e pv0 pr0 H0 →
      (∀ H' t6 t11, SN C l ls D x kn arcs ks T (N + 2010) H' → u Dn [s0, some (.ref l), s2, some (.ref D), some pv0, some pr0, t6, s7, some (.str e.1), some (.ref kn), some (.ref x), t11] H') →
      t Dn [s0, some (.ref l), s2, some (.ref D), some pv0, some pr0, s6, s7, some (.str e.1), some (.ref kn), some (.ref x), s11] H0 := by
  obtain ⟨fL, fdL, gL, kL, bL, GL⟩ := L.pairsL
  obtain ⟨fJ, fdJ, gJ, kJ, bJ, GJ⟩ := L.areAp
  obtain ⟨fI, fdI, mI, bI, GI⟩ := L.areApart
  obtain ⟨fS, fdS, gS, FS⟩ := L.F.same
  have GS : FnOk P w K mg base CX0 3 fS fdS ["found", "due"] (spSameF 2) := ok_sameF FS gS L.F.M 2
  have bS := FS.binds (ps := ["found", "due"]) fun _ _ _ _ _ _ us hl => match us, hl with | [_, _], _ => rfl
  have M := L.F.M
  have nd := scLaw.nd
  refine ⟨_, pss_cons (ps_for PassesOwn.never rfl (pi_list (pe_call GL (hr.mono (by decide)) rfl gL kL bL .nil pass0 (pa_cons (pv 1) (pa_cons (pv 3) (pa_cons (pv 5) pa_nil))))) (pg_name (i := 11) nd rfl (Or.inr rfl)) (pss_cons (ps_set (i := 6) nd rfl (Or.inl rfl) (pe_call GJ (hr.mono (by decide)) rfl gJ kJ bJ .nil pass0 (pa_cons (pv 3) (pa_cons (pv 9) (pa_cons (pv 8) (pa_cons (pv 11) pa_nil)))))) (pss_one (ps_if (PW.pt (pw_or (pt_not (pt_val (pe_call GS (hr.mono (by decide)) rfl gS FS.kp bS .nil pass0 (pa_cons (pe_meth (pv 10) L.F.S.cl mI GI (hr.mono (by decide)) bI .nil pass0 (pa_cons (pv 9) (pa_cons (pv 8) (pa_cons (pv 11) pa_nil)))) (pa_cons (pv 6) pa_nil))))) (pw_or1 (PW.pt (pw_and (pt_val (pv 6)) (pw_and1 (pt_cmp (pc_notN (pv 4))))))))) (pss_one ps_never) pss_nil)))) hrest, ?_⟩
  intro Dn H0 s0 s2 s6 s7 s11 l ls D x kn arcs ks e N pv0 pr0 SN0 hN he PV fin
  have LA := SN0.LA
  have l2 := LA.n0
  have l8 := LA.n1
  have nok := LA.ok
  have S0 := SN0.S
  obtain ⟨A2, AT, hA2⟩ := SN0.at_
  have akn := SN0.akn
  have pvp : pr0 = .non ∨ ∃ (p f g : Addr) (y1 y2 : Str → Int), pr0 = .ref p ∧ H0 p = some (.tup [.ref f, .ref g]) ∧ H0 f = some (.dK (valD (fun n => .int (y1 n)) arcs)) ∧ H0 g = some (.dK (valD (fun n => .int (y2 n)) arcs)) ∧ (p ≠ l ∧ p ≠ ls) ∧ (f ≠ l ∧ f ≠ ls) ∧ (g ≠ l ∧ g ≠ ls) := by
    rcases PV with ⟨_, e1, _⟩ | ⟨_, _, t, f, g, y1, y2, e2, r, a1, a2, a3⟩
    · exact .inl e1
    · exact .inr ⟨t, f, g, y1, y2, e2, r.now.1, r.now.2.1, r.now.2.2, a1, a2, a3⟩
  have pvN : ¬ Told arcs ks e → pv0 = .non := fun z => by
    rcases PV with ⟨t, _⟩ | ⟨_, e1, _⟩
    · exact absurd t z
    · exact e1
  refine ⟨_, rfl, _, rfl, _, rfl, l, ls, D, pr0, arcs, A2, N, rfl, S0, by omega, AT.now, hA2, nok, l8, pvp, fun H1 q ys oq aq ly ths S1 B1 => ?_⟩
  have SN1 := SN0.but B1 S1
  have TL := rob_at aq oq (fun _ z => by cases z)
  refine ⟨q, rfl, ⟨_, SqL.of oq⟩, for_list (xs := ys) (fun j σ H' => SN C l ls D x kn arcs ks T (N + 2010) H' ∧ BE l ls H1 H' ∧ ∃ s6 s11, σ = [s0, some (.ref l), s2, some (.ref D), some pv0, some pr0, s6, s7, some (.str e.1), some (.ref kn), some (.ref x), s11])
    ⟨SN1, BE.refl _ _ _, _, _, rfl⟩ (fun j σ H' _ h => SqL.of (TL _ h.2.1)) ?_ ?_⟩
  case refine_2 =>
    rintro σ G0 ⟨SG, BG, s6, s11, rfl⟩
    exact fin G0 _ _ SG
  rintro j v σ G0 ev ⟨SG, BG, s6, s11, rfl⟩
  obtain ⟨o, rob⟩ := ths v (List.mem_of_getElem? ev)
  have rob := rob.go BG
  obtain ⟨A1, NT⟩ := SG.nt
  obtain ⟨A3, AT3, hA3⟩ := SG.at_
  have KN := SG.kno
  refine ⟨_, rfl, _, rfl, _, rfl, _, rfl, D, kn, arcs, A3, ks, e, v, o, rfl, AT3.now, nok, KN.now, he, rob.now, fun G1 k1 => ?_⟩
  have b1 : BE l ls G0 G1 := BE.of (.of k1)
  obtain ⟨dx, _, _, _, h1, _⟩ := id (NT _ b1).ex
  refine ⟨_, rfl, x, dx, _, rfl, h1, rfl, _, rfl, _, rfl, _, rfl, x, kn, arcs, A1, ks, e, v, o, rfl, NT _ b1, nok, KN _ b1, he, rob _ b1, fun G2 k2 => ?_⟩
  refine ⟨_, rfl, _, _, rfl, (AlkF.one (.bl _)).le (Nat.zero_le _), fun G3 k3 => ⟨_, rfl, iteF ?_⟩⟩
  have k03 := (k1.trans k2).trans k3
  have b3 : BE l ls G0 G3 := BE.of (.of k03)
  have SG3 := SG.same k03
  have done : ∃ s6 s11 : Option V, True := ⟨none, none, trivial⟩
  clear k1 k2 k3 b1 h1 done
  cases hp : apO ks e.1 o with
  | false => exact ⟨_, rfl, _, rfl, iteF (iteF ⟨SG3, BG.trans b3, _, _, rfl⟩)⟩
  | true =>
    have nt : ¬ Told arcs ks e := fun z => by
      rw [told_apO nok he z rob.now] at hp
      cases hp
    obtain rfl := pvN nt
    refine ⟨_, rfl, _, rfl, iteT ⟨_, rfl, _, rfl, iteF ?_⟩⟩
    exact ⟨SG3, BG.trans b3, _, _, rfl⟩
end
end L2.TB
/-! the law -/
namespace L2.TB
open PySem PySem.Spec PyProof.Rows LamX
def spLawT (K : PySem.W.Frag) (T : List (Addr × Str)) : Sp := fun vs H Q _ => ∃ (a : Addr) (ns : List Int), vs = [.ref a] ∧ SqL K H a (ns.map V.int) ∧ ns.length ≤ 63 ∧ Tabs T H ∧ ∀ H', Q (.bl true) H'
section
variable {P : Program} {w : World} {K : PySem.W.Frag} {mg : Str → Option Value} {base : Heap} {f C c WE Pt : Addr} {fd : FuncData} {ca : Str → Addr} {T : List (Addr × Str)}
theorem ok_law (FE : Fun K "law" "law" sLaw f fd) (hc : fd.code = .ref c) (L : LawN P w K mg base C ca WE T) (TB : TabB base mg c Pt) (hm : (Pt, ("law" : Str) ++ ".<locals>." ++ "<lambda>") ∈ T) (hu0 : ∀ p ∈ T, p.1 = Pt → p.2 = ("law" : Str) ++ ".<locals>." ++ "<lambda>") : FnOk P w K mg base CX0 10 f fd ["script"] (spLawT K T) := by
  obtain ⟨oc, odv, kVv, doc, pm, an, cdv, ct, osl, rfl, lk, hcd⟩ := FE.ex
  obtain rfl : cdv = .ref c := hc
  obtain ⟨fS, fdS, gS, kS, bS, GS⟩ := L.start
  refine fn_of lk hcd scLaw (fun vs H Q E h => by obtain ⟨a, ns, e, _⟩ := h; rw [e]; rfl) fun A outer s H vs Q E hr hsp => ?_
  obtain ⟨a, cs, rfl, hS, hn, T0, hq⟩ := hsp
  have nd := scLaw.nd
  obtain ⟨tE, pE, rE⟩ := turn_e (P := P) (w := w) L (outer := outer) (H := H) (E := E) hr pss_nil
  obtain ⟨tD, pD, rD⟩ := turn_d (P := P) (w := w) L (outer := outer) (H := H) (E := E) TB hm hu0 hr pE
  obtain ⟨tC, pC, rC⟩ := turn_c (P := P) (w := w) L (outer := outer) (H := H) (E := E) hr pD
  obtain ⟨tB, pB, rB⟩ := turn_b (P := P) (w := w) L (outer := outer) (H := H) (E := E) hr pC
  obtain ⟨tA, pA, rA⟩ := turn_a (P := P) (w := w) L (outer := outer) (H := H) (E := E) hr pB
  refine ⟨_, PSs.nox (st := defBody sLaw) (pss_cons (ps_set (i := 1) nd rfl (Or.inl rfl) (pe_call GS (hr.mono (by decide)) rfl gS kS bS .nil pass0 (pa_cons (pv 0) pa_nil)))
    (pss_cons (ps_for PassesOwn.never rfl (pi_range1 rfl L.F.nR (pa_cons pe_int pa_nil)) (pg_name (i := 2) nd rfl (Or.inl rfl)) pA)
    (pss_one (ps_ret pe_bl)))), ?_⟩
  refine ⟨_, rfl, a, cs, rfl, hS, by omega, fun H1 l ls nl k1 S1 nls => ?_⟩
  refine ⟨4, rfl, by decide, by decide, for_range (n := 4) (fun i σ H' => Strm H' l ls (98000 * (i : Int)) ∧ Tabs T H' ∧ ∃ s2 s3 s4 s5 s6 s7 s8 s9 s10 s11, σ = [some (.ref a), some (.ref l), s2, s3, s4, s5, s6, s7, s8, s9, s10, s11])
    ⟨by simpa using S1, T0.ext k1, _, _, _, _, _, _, _, _, _, _, rfl⟩ ?_ ?_⟩
  · rintro i σ H2 hi ⟨S2, T2, s2, s3, s4, s5, s6, s7, s8, s9, s10, s11, rfl⟩
    refine rA _ H2 _ _ _ _ _ _ _ _ _ _ _ l ls _ S2 (by omega) T2 fun H3 D x kn arcs ks N3 => ?_
    refine rB _ H3 _ _ _ _ _ _ _ _ l ls D x kn arcs ks _ N3 (by omega) fun H4 e he N4 => ?_
    refine rC _ H4 _ _ _ _ _ _ _ l ls D x kn arcs ks e _ N4 he fun H5 pv0 pr0 N5 P5 => ?_
    refine rD _ H5 _ _ _ _ _ l ls D x kn arcs ks e _ pv0 pr0 N5 (by omega) he P5 fun H6 t6 t7 t11 N6 P6 => ?_
    refine rE _ H6 _ _ _ _ _ l ls D x kn arcs ks e _ pv0 pr0 N6 (by omega) he P6 fun H7 u6 u11 N7 => ?_
    exact ⟨N7.S.mono (by omega), N7.T0, _, _, _, _, _, _, _, _, _, _, rfl⟩
  · rintro σ H2 ⟨S2, T2, s2, s3, s4, s5, s6, s7, s8, s9, s10, s11, rfl⟩
    exact hq H2
end
end L2.TB
namespace L2.TB
open PySem PySem.Spec PyProof.Rows
open LamX
section
variable {K : PySem.W.Frag} {h : Heap} {mg : Str → Option Value}
theorem fun_ofD {x q : Str} {st : Stmt} {f : Addr} {fd : FuncData} (F : FunD K x q (defArgs st) (defBody st) (defScope st) [] [] f fd) : Fun K x q st f fd := by
  obtain ⟨⟨oc, od, dV, kV, doc, pm, an, cdv, ct, osl, e, lk, hc, hd, hk⟩, kp⟩ := F
  obtain rfl : dV = .none := hd.elim (fun z => z.2) fun z => absurd rfl z.1
  exact ⟨⟨oc, od, kV, doc, pm, an, cdv, ct, osl, e, lk, hc⟩, kp⟩
theorem def_at (c : He.SaysD faT fnT K) (X : K.In h) (G : h.Ns mainGlobals mg) (i k : Nat) {x : Str} {st : Stmt} (ei : faT[i]? = some (.glo x)) (ek : fnT[k]? = some (dfd (x, none) x x st [])) :
    mg x = some (.ref (He.ga K x)) ∧ ∃ fd, Fun K x x st (He.ga K x) fd := by
  obtain ⟨fd, F⟩ := c.def_ k ek
  exact ⟨He.glo_ok X G (c.fact i ei), fd, fun_ofD F⟩
theorem cmeth_at (c : He.SaysD faT fnT K) (i k : Nat) {C m q : Str} {st : Stmt} (ei : faT[i]? = some (.meth C m)) (ek : fnT[k]? = some (dfd (C, some m) m q st [])) :
    Meth K (He.ga K C) m (He.ma K (He.ga K C) m) ∧ ∃ fd, Fun K m q st (He.ma K (He.ga K C) m) fd := by
  obtain ⟨fd, F⟩ := c.def_ k ek
  exact ⟨He.meth_ok (c.fact i ei), fd, fun_ofD F⟩
theorem init_at (c : He.SaysD faT fnT K) (k : Nat) {C q : Str} {st : Stmt} (ek : fnT[k]? = some (dfd (C, some "__init__") "__init__" q st [])) : ∃ fd, Fun K "__init__" q st (He.ma K (He.ga K C) "__init__") fd := by
  obtain ⟨fd, F⟩ := c.def_ k ek
  exact ⟨fd, fun_ofD F⟩
theorem code_of {x : Str} {st : Stmt} {fd : FuncData} (F : Fun K x x st (He.ga K x) fd) : fd.code = .ref (He.cT K (x, none)).1 := by
  obtain ⟨⟨oc, od, kV, doc, pm, an, cdv, ct, osl, e, lk, hc⟩, kp⟩ := F
  obtain ⟨c, e2⟩ := He.codeIn_ref hc
  have e3 : fd.code = .ref c := by rw [e]; exact e2
  have lk2 : K.lookup (He.fAd K (x, none)) = some ⟨oc, od, .func fd, osl⟩ := lk
  rw [e3]
  exact congrArg Value.ref (He.codeOf_eq lk2 e3).symm
/-- an error's class -/
theorem err_at {P : Program} {w : World} {base : Heap} (c : SaysK h K) (X : K.In h) (G : h.Ns mainGlobals mg) (i k : Nat) {x fld q : Str} {st : Stmt} {p0 p1 p2 p3 : Pos} (ei : faT[i]? = some (.glo x)) (ek : fnT[k]? = some (dfd (x, some "__init__") "__init__" q st [])) (he : (x, fld) ∈ erT)
    (S : FnScope ["self", fld] ["self", fld] (defScope st)) (hb : defBody st = [.Assign [.Attribute (.Name "self" p0) fld p1] (.Name fld p2) p3]) (hv0 : Vis (defScope st) "self") (hv1 : Vis (defScope st) fld) (hdy : (fld == ("__debug__" : Str)) = false) (hcy : (fld == ("__classdict__" : Str)) = false)
    (bd : ∀ (kV doc pm : Value) (an : Option Addr) (cdv ct : Value) (us : List Value), us.length = 2 → bindArgs (PySem.W.fnOf "__init__" q (defArgs st) (defBody st) (defScope st) .none kV doc pm an cdv ct) ⟨us, []⟩ = pure ((["self", fld] : List Str).zip us)) : ErrF P w K mg base x (He.ga K x) fld := by
  obtain ⟨fd, F⟩ := c.d.def_ k ek
  have F' : Fun K "__init__" q st (He.ma K (He.ga K x) "__init__") fd := fun_ofD F
  exact ⟨He.glo_ok X G (c.d.fact i ei), _, fd, fld, errB_ok (c.er _ he), ok_errInit F' S hb hv0 hv1 hdy hcy, F'.binds bd⟩
abbrev pT (K : PySem.W.Frag) (x : Str) : Addr := (He.cT K (x, none)).2
def qT (x : Str) : Str := x ++ ".<locals>." ++ "<lambda>"
def tbN : List Str := ["_law_c_finds", "law"]
def tbL (K : PySem.W.Frag) : List (Addr × Str) := tbN.map fun x => (pT K x, qT x)
theorem cs_of {x : Str} (h : x ∈ tbN) : He.cT K (x, none) ∈ csL K := by
  have e : csL K = tbN.map fun x => He.cT K (x, none) := rfl
  rw [e]
  exact List.mem_map_of_mem (f := fun x => He.cT K (x, none)) h
theorem tabs_nil {H : Hp} (hT : ∀ p ∈ csL K, H p.2 = some (.tbl #[])) : Tabs (tbL K) H := fun p hp => by
  obtain ⟨x, hx, rfl⟩ := List.mem_map.mp hp
  exact TabS.nil (hT _ (cs_of hx))
theorem tb_mem {x : Str} (h : x ∈ tbN) : (pT K x, qT x) ∈ tbL K := List.mem_map.mpr ⟨x, h, rfl⟩
theorem tb_uni (np : (tfT.map fun p => (He.cT K p).2).Nodup) {x : Str} (h : x ∈ tbN) : ∀ p ∈ tbL K, p.1 = pT K x → p.2 = qT x := fun p hp e => by
  obtain ⟨y, hy, rfl⟩ := List.mem_map.mp hp
  have z : (tbN.map (pT K)).Nodup := np
  have inj : ∀ {l : List Str}, (l.map (pT K)).Nodup → ∀ {a b : Str}, a ∈ l → b ∈ l → pT K a = pT K b → a = b := by
    intro l
    induction l with
    | nil => intro _ a b ha; cases ha
    | cons c l ih =>
      intro nd a b ha hb e
      rw [List.map_cons, List.nodup_cons] at nd
      rcases List.mem_cons.mp ha with ea | ha
      · rcases List.mem_cons.mp hb with eb | hb
        · rw [ea, eb]
        · exact absurd (List.mem_map.mpr ⟨b, hb, by rw [← e, ea]⟩) nd.1
      · rcases List.mem_cons.mp hb with eb | hb
        · exact absurd (List.mem_map.mpr ⟨a, ha, by rw [e, eb]⟩) nd.1
        · exact ih nd.2 ha hb e
  rw [inj z hy h e]
theorem cls_ok4 {C : Addr} (h : clsB K C = true) : PySem.W.findIn K (.ref C) "__class__" = some (some (.builtin "object.__class__")) ∧ PySem.W.specialIn K (.builtin "object.__class__") "__get__" = some (some (.builtin "getset_descriptor.__get__")) ∧ PySem.W.takesIn K (.builtin "object.__class__") = some true ∧ PySem.W.mroIn K C (.type "object") = some true := by
  obtain ⟨v1, h5⟩ := He.ba h
  obtain ⟨v2, h6⟩ := He.ba h5
  obtain ⟨v3, v4⟩ := He.ba h6
  exact ⟨He.eqO_ok v1, He.eqO_ok v2, of_decide_eq_true v3, of_decide_eq_true v4⟩
theorem exc_ok {x f : Str} (E : ErrC K (He.ga K x) (He.ma K (He.ga K x) "__init__") f) (h : excQ K (He.ga K x) = true) : ExcI K (He.ga K x) := by
  obtain ⟨h1, h2⟩ := He.ba h
  obtain ⟨h3, h4⟩ := He.ba h2
  obtain ⟨v1, v2, v3, v4⟩ := cls_ok4 h1
  exact ⟨E.xf, h3, v1, v2, v3, v4⟩
end
theorem facts {P : Program} {w : World} {K : PySem.W.Frag} {h : Heap} {mg : Str → Option Value} {f : Addr} (X : K.In h) (G : h.Ns mainGlobals mg) (hfa : mg ("law" : Str) = some (.ref f)) (cc : SaysK h K) :
    ∃ fd : FuncData, (∀ (s : Shared) (v : Value), BindsTo s fd ⟨[v], []⟩ [("script", v)]) ∧ ∀ base : Heap, K.In base → base.Ns mainGlobals mg → (∀ p ∈ csL K, TabB base mg p.1 p.2) → FnOk P w K mg base CX0 10 f fd ["script"] (spLawT K (tbL K)) := by
  have c := cc.d
  obtain ⟨gStart, dStart, FStart⟩ := def_at c X G 0 0 (x := "_law_start") (st := sStart) rfl rfl
  obtain ⟨gDraw, dDraw, FDraw⟩ := def_at c X G 1 1 (x := "_law_draw") (st := sDraw) rfl rfl
  obtain ⟨gPick, dPick, FPick⟩ := def_at c X G 2 2 (x := "_law_pick") (st := sPick) rfl rfl
  obtain ⟨gMixed, dMixed, FMixed⟩ := def_at c X G 3 3 (x := "_law_mixed") (st := sMixed) rfl rfl
  obtain ⟨gSame, dSame, FSame⟩ := def_at c X G 4 4 (x := "_law_same") (st := sSame) rfl rfl
  obtain ⟨gNameL, dNameL, FNameL⟩ := def_at c X G 5 5 (x := "_law_name") (st := sNameL) rfl rfl
  obtain ⟨gNamesL, dNamesL, FNamesL⟩ := def_at c X G 6 6 (x := "_law_names") (st := sNamesL) rfl rfl
  obtain ⟨gArcsL, dArcsL, FArcsL⟩ := def_at c X G 7 7 (x := "_law_c_arcs") (st := sArcsL) rfl rfl
  obtain ⟨gLeads, dLeads, FLeads⟩ := def_at c X G 8 8 (x := "_law_c_leads") (st := sLeads) rfl rfl
  obtain ⟨gLiveL, dLiveL, FLiveL⟩ := def_at c X G 9 9 (x := "_law_c_live") (st := sLiveL) rfl rfl
  obtain ⟨gNodesL, dNodesL, FNodesL⟩ := def_at c X G 10 10 (x := "_law_c_nodes") (st := sNodesL) rfl rfl
  obtain ⟨gWorldL, dWorldL, FWorldL⟩ := def_at c X G 11 11 (x := "_law_c_world") (st := sWorldL) rfl rfl
  obtain ⟨gWay, dWay, FWay⟩ := def_at c X G 12 12 (x := "_law_c_way") (st := sWay) rfl rfl
  obtain ⟨gIsWorldL, dIsWorldL, FIsWorldL⟩ := def_at c X G 13 13 (x := "_law_c_is_world") (st := sIsWorldL) rfl rfl
  obtain ⟨gSome, dSome, FSome⟩ := def_at c X G 14 14 (x := "_law_c_some") (st := sSome) rfl rfl
  obtain ⟨gOut, dOut, FOut⟩ := def_at c X G 15 15 (x := "_law_c_out") (st := sOut) rfl rfl
  obtain ⟨gIsSide, dIsSide, FIsSide⟩ := def_at c X G 16 16 (x := "_law_c_is_side") (st := sIsSide) rfl rfl
  obtain ⟨gIsPlanL, dIsPlanL, FIsPlanL⟩ := def_at c X G 17 17 (x := "_law_c_is_plan") (st := sIsPlanL) rfl rfl
  obtain ⟨gTried, dTried, FTried⟩ := def_at c X G 18 18 (x := "_law_tried") (st := sTried) rfl rfl
  obtain ⟨gErrL, dErrL, FErrL⟩ := def_at c X G 19 19 (x := "_law_error") (st := sErrL) rfl rfl
  obtain ⟨gPlansL, dPlansL, FPlansL⟩ := def_at c X G 20 20 (x := "_law_c_plans") (st := sPlansL) rfl rfl
  obtain ⟨gAreApartL, dAreApartL, FAreApartL⟩ := def_at c X G 21 21 (x := "_law_c_are_apart") (st := sAreApartL) rfl rfl
  obtain ⟨gPairs, dPairs, FPairs⟩ := def_at c X G 22 22 (x := "_law_c_pairs") (st := sPairs) rfl rfl
  obtain ⟨gMade, dMade, FMade⟩ := def_at c X G 23 23 (x := "_law_c_made") (st := sMade) rfl rfl
  obtain ⟨gFinds, dFinds, FFinds⟩ := def_at c X G 24 24 (x := "_law_c_finds") (st := sFinds) rfl rfl
  obtain ⟨gLaw, dLaw, FLaw⟩ := def_at c X G 25 25 (x := "law") (st := sLaw) rfl rfl
  obtain ⟨gIsInt, dIsInt, FIsInt⟩ := def_at c X G 26 26 (x := "is_integer") (st := sIsInt) rfl rfl
  obtain ⟨gIsCount, dIsCount, FIsCount⟩ := def_at c X G 27 27 (x := "is_count") (st := sIsCount) rfl rfl
  obtain ⟨gIsList, dIsList, FIsList⟩ := def_at c X G 28 28 (x := "is_list") (st := sIsList) rfl rfl
  obtain ⟨gIsPair, dIsPair, FIsPair⟩ := def_at c X G 29 29 (x := "is_pair") (st := sIsPair) rfl rfl
  obtain ⟨gIsName, dIsName, FIsName⟩ := def_at c X G 30 30 (x := "is_name") (st := sIsName) rfl rfl
  obtain ⟨gIsOne, dIsOne, FIsOne⟩ := def_at c X G 31 31 (x := "is_one_of") (st := sIsOne) rfl rfl
  obtain ⟨gFirst, dFirst, FFirst⟩ := def_at c X G 32 32 (x := "first_bad") (st := sFirst) rfl rfl
  obtain ⟨gCkK, dCkK, FCkK⟩ := def_at c X G 33 33 (x := "check_known") (st := sCkK) rfl rfl
  obtain ⟨gCkA, dCkA, FCkA⟩ := def_at c X G 34 34 (x := "check_asked") (st := sCkA) rfl rfl
  obtain ⟨gCkB, dCkB, FCkB⟩ := def_at c X G 35 35 (x := "check_both") (st := sCkB) rfl rfl
  obtain ⟨gCkL, dCkL, FCkL⟩ := def_at c X G 36 36 (x := "check_lacking") (st := sCkL) rfl rfl
  obtain ⟨gCkC, dCkC, FCkC⟩ := def_at c X G 37 37 (x := "check_counts") (st := sCkC) rfl rfl
  obtain ⟨gHasJust, dHasJust, FHasJust⟩ := def_at c X G 38 38 (x := "has_just") (st := sHasJust) rfl rfl
  obtain ⟨gIsParted, dIsParted, FIsParted⟩ := def_at c X G 39 39 (x := "is_parted") (st := sIsParted) rfl rfl
  obtain ⟨gOnward, dOnward, FOnward⟩ := def_at c X G 40 40 (x := "onward") (st := sOnward) rfl rfl
  obtain ⟨gBack, dBack, FBack⟩ := def_at c X G 41 41 (x := "back") (st := sBack) rfl rfl
  obtain ⟨gEither, dEither, FEither⟩ := def_at c X G 42 42 (x := "either_way") (st := sEither) rfl rfl
  obtain ⟨gReached, dReached, FReached⟩ := def_at c X G 43 43 (x := "reached") (st := sReached) rfl rfl
  obtain ⟨gWayTo, dWayTo, FWayTo⟩ := def_at c X G 44 44 (x := "way_to") (st := sWayTo) rfl rfl
  obtain ⟨gJoined, dJoined, FJoined⟩ := def_at c X G 45 45 (x := "is_joined") (st := sJoined) rfl rfl
  obtain ⟨gRing, dRing, FRing⟩ := def_at c X G 46 46 (x := "ring_through") (st := sRing) rfl rfl
  obtain ⟨gShifted, dShifted, FShifted⟩ := def_at c X G 47 47 (x := "shifted") (st := sShifted) rfl rfl
  obtain ⟨gInward, dInward, FInward⟩ := def_at c X G 48 48 (x := "inward") (st := sInward) rfl rfl
  obtain ⟨gFree, dFree, FFree⟩ := def_at c X G 49 49 (x := "free_arcs") (st := sFree) rfl rfl
  obtain ⟨gFilled, dFilled, FFilled⟩ := def_at c X G 50 50 (x := "filled_world") (st := sFilled) rfl rfl
  obtain ⟨gIsArc, dIsArc, FIsArc⟩ := def_at c X G 51 51 (x := "_is_arc") (st := sIsArc) rfl rfl
  obtain ⟨gNodesOf, dNodesOf, FNodesOf⟩ := def_at c X G 52 52 (x := "_nodes_of") (st := sNodesOf) rfl rfl
  obtain ⟨mInit, dInit, FInit⟩ := cmeth_at c 89 53 (C := "Net") (m := "__init__") (q := "Net.__init__") (st := sInit) rfl rfl
  obtain ⟨mHome, dHome, FHome⟩ := cmeth_at c 75 54 (C := "Net") (m := "home") (q := "Net.home") (st := sHome) rfl rfl
  obtain ⟨mArcs, dArcs, FArcs⟩ := cmeth_at c 76 55 (C := "Net") (m := "arcs") (q := "Net.arcs") (st := sArcs) rfl rfl
  obtain ⟨mLive, dLive, FLive⟩ := cmeth_at c 77 56 (C := "Net") (m := "live") (q := "Net.live") (st := sLive) rfl rfl
  obtain ⟨mIsLive, dIsLive, FIsLive⟩ := cmeth_at c 78 57 (C := "Net") (m := "_is_live") (q := "Net._is_live") (st := sIsLive) rfl rfl
  obtain ⟨mIsWorldM, dIsWorldM, FIsWorldM⟩ := cmeth_at c 79 58 (C := "Net") (m := "_is_world") (q := "Net._is_world") (st := sIsWorldM) rfl rfl
  obtain ⟨mIsTold, dIsTold, FIsTold⟩ := cmeth_at c 80 59 (C := "Net") (m := "is_told") (q := "Net.is_told") (st := sIsTold) rfl rfl
  obtain ⟨mPlan, dPlan, FPlan⟩ := cmeth_at c 81 60 (C := "Net") (m := "plan") (q := "Net.plan") (st := sPlan) rfl rfl
  obtain ⟨mIsPlan, dIsPlan, FIsPlan⟩ := cmeth_at c 82 61 (C := "Net") (m := "is_plan") (q := "Net.is_plan") (st := sIsPlan) rfl rfl
  obtain ⟨mFoundM, dFoundM, FFoundM⟩ := cmeth_at c 83 62 (C := "Net") (m := "found") (q := "Net.found") (st := sFoundM) rfl rfl
  obtain ⟨mApart, dApart, FApart⟩ := cmeth_at c 84 63 (C := "Net") (m := "apart") (q := "Net.apart") (st := sApart) rfl rfl
  obtain ⟨mAreApart, dAreApart, FAreApart⟩ := cmeth_at c 85 64 (C := "Net") (m := "are_apart") (q := "Net.are_apart") (st := sAreApart) rfl rfl
  obtain ⟨mIsGiven, dIsGiven, FIsGiven⟩ := cmeth_at c 86 65 (C := "Net") (m := "_is_given") (q := "Net._is_given") (st := sIsGiven) rfl rfl
  obtain ⟨mOthers, dOthers, FOthers⟩ := cmeth_at c 87 66 (C := "Net") (m := "_others") (q := "Net._others") (st := sOthers) rfl rfl
  obtain ⟨mIsCut, dIsCut, FIsCut⟩ := cmeth_at c 88 67 (C := "Net") (m := "_is_cut") (q := "Net._is_cut") (st := sIsCut) rfl rfl
  have n_list : mg "list" = none := He.free_ok X G (c.fact 55 rfl)
  have n_len : mg "len" = none := He.free_ok X G (c.fact 56 rfl)
  have n_int : mg "int" = none := He.free_ok X G (c.fact 57 rfl)
  have n_range : mg "range" = none := He.free_ok X G (c.fact 58 rfl)
  have n_dict : mg "dict" = none := He.free_ok X G (c.fact 59 rfl)
  have n_tuple : mg "tuple" = none := He.free_ok X G (c.fact 60 rfl)
  have n_str : mg "str" = none := He.free_ok X G (c.fact 61 rfl)
  have n_bool : mg "bool" = none := He.free_ok X G (c.fact 62 rfl)
  have n_isinstance : mg "isinstance" = none := He.free_ok X G (c.fact 63 rfl)
  have n_all : mg "all" = none := He.free_ok X G (c.fact 64 rfl)
  have n_any : mg "any" = none := He.free_ok X G (c.fact 65 rfl)
  have n_enumerate : mg "enumerate" = none := He.free_ok X G (c.fact 66 rfl)
  have n_zip : mg "zip" = none := He.free_ok X G (c.fact 67 rfl)
  have n_sum : mg "sum" = none := He.free_ok X G (c.fact 68 rfl)
  have gC : mg "Net" = some (.ref (He.ga K "Net")) := He.glo_ok X G (c.fact 53 rfl)
  have gWE : mg "WorldError" = some (.ref (He.ga K "WorldError")) := He.glo_ok X G (c.fact 54 rfl)
  have gLo := He.int_ok X G (c.fact (f := .int "LONGEST" 40) 69 rfl)
  have gSg := He.str_ok X G (c.fact (f := .str "SIGNS" "abcdefghijklmnopqrstuvwxyz0123456789.") 70 rfl)
  have S0 : NetC K (He.ga K "Net") := ⟨He.cls_ok (c.fact 71 rfl), He.noat_ok (c.fact 72 rfl), He.noat_ok (c.fact 73 rfl), He.noat_ok (c.fact 74 rfl)⟩
  have M : Sm mg := ⟨n_isinstance, n_list, n_tuple, n_int, n_bool, n_len, n_all, n_zip⟩
  have Mk0 := He.mkr_ok (c.fact (f := .mkr "Net") 90 rfl)
  obtain ⟨mo1, mo2⟩ := He.ba cc.mo
  have e := hfa.symm.trans gLaw
  cases e
  have cFi := code_of FFinds
  have cLw := code_of FLaw
  have cLw0 := cLw
  obtain ⟨oc, od, kV, doc, pm, an, cdv, ct, osl, rfl, lk, hcd⟩ := id FLaw.ex
  refine ⟨PySem.W.fnOf "law" "law" (defArgs sLaw) (defBody sLaw) (defScope sLaw) .none kV doc pm an cdv ct, fun s v => .of_eq rfl, fun base _ _ hTB => ?_⟩
  have EBadArc : ErrF P w K mg base "BadArc" (He.ga K "BadArc") "name" := err_at cc X G 91 68 (q := "BadArc.__init__") (st := sIBadArc) rfl rfl (by simp [erT]) ⟨rfl, rfl, rfl, by decide +kernel, rfl, by decide +kernel, by decide +kernel⟩ rfl (by first | exact .inl rfl | exact .inr (.inl rfl)) (by first | exact .inl rfl | exact .inr (.inl rfl)) (by decide +kernel) (by decide +kernel) (fun _ _ _ _ _ _ us hl => match us, hl with | [_, _], _ => rfl)
  have EBadNames : ErrF P w K mg base "BadNames" (He.ga K "BadNames") "index" := err_at cc X G 92 69 (q := "BadNames.__init__") (st := sIBadNames) rfl rfl (by simp [erT]) ⟨rfl, rfl, rfl, by decide +kernel, rfl, by decide +kernel, by decide +kernel⟩ rfl (by first | exact .inl rfl | exact .inr (.inl rfl)) (by first | exact .inl rfl | exact .inr (.inl rfl)) (by decide +kernel) (by decide +kernel) (fun _ _ _ _ _ _ us hl => match us, hl with | [_, _], _ => rfl)
  have EBadWorld : ErrF P w K mg base "BadWorld" (He.ga K "BadWorld") "thing" := err_at cc X G 93 70 (q := "BadWorld.__init__") (st := sIBadWorld) rfl rfl (by simp [erT]) ⟨rfl, rfl, rfl, by decide +kernel, rfl, by decide +kernel, by decide +kernel⟩ rfl (by first | exact .inl rfl | exact .inr (.inl rfl)) (by first | exact .inl rfl | exact .inr (.inl rfl)) (by decide +kernel) (by decide +kernel) (fun _ _ _ _ _ _ us hl => match us, hl with | [_, _], _ => rfl)
  have EBadKnown : ErrF P w K mg base "BadKnown" (He.ga K "BadKnown") "index" := err_at cc X G 94 71 (q := "BadKnown.__init__") (st := sIBadKnown) rfl rfl (by simp [erT]) ⟨rfl, rfl, rfl, by decide +kernel, rfl, by decide +kernel, by decide +kernel⟩ rfl (by first | exact .inl rfl | exact .inr (.inl rfl)) (by first | exact .inl rfl | exact .inr (.inl rfl)) (by decide +kernel) (by decide +kernel) (fun _ _ _ _ _ _ us hl => match us, hl with | [_, _], _ => rfl)
  have ENoQuestion : ErrF P w K mg base "NoQuestion" (He.ga K "NoQuestion") "name" := err_at cc X G 95 72 (q := "NoQuestion.__init__") (st := sINoQuestion) rfl rfl (by simp [erT]) ⟨rfl, rfl, rfl, by decide +kernel, rfl, by decide +kernel, by decide +kernel⟩ rfl (by first | exact .inl rfl | exact .inr (.inl rfl)) (by first | exact .inl rfl | exact .inr (.inl rfl)) (by decide +kernel) (by decide +kernel) (fun _ _ _ _ _ _ us hl => match us, hl with | [_, _], _ => rfl)
  have EBadAmounts : ErrF P w K mg base "BadAmounts" (He.ga K "BadAmounts") "name" := err_at cc X G 96 73 (q := "BadAmounts.__init__") (st := sIBadAmounts) rfl rfl (by simp [erT]) ⟨rfl, rfl, rfl, by decide +kernel, rfl, by decide +kernel, by decide +kernel⟩ rfl (by first | exact .inl rfl | exact .inr (.inl rfl)) (by first | exact .inl rfl | exact .inr (.inl rfl)) (by decide +kernel) (by decide +kernel) (fun _ _ _ _ _ _ us hl => match us, hl with | [_, _], _ => rfl)
  have EBadPlan : ErrF P w K mg base "BadPlan" (He.ga K "BadPlan") "thing" := err_at cc X G 97 74 (q := "BadPlan.__init__") (st := sIBadPlan) rfl rfl (by simp [erT]) ⟨rfl, rfl, rfl, by decide +kernel, rfl, by decide +kernel, by decide +kernel⟩ rfl (by first | exact .inl rfl | exact .inr (.inl rfl)) (by first | exact .inl rfl | exact .inr (.inl rfl)) (by decide +kernel) (by decide +kernel) (fun _ _ _ _ _ _ us hl => match us, hl with | [_, _], _ => rfl)
  have EBadAnswers : ErrF P w K mg base "BadAnswers" (He.ga K "BadAnswers") "thing" := err_at cc X G 98 75 (q := "BadAnswers.__init__") (st := sIBadAnswers) rfl rfl (by simp [erT]) ⟨rfl, rfl, rfl, by decide +kernel, rfl, by decide +kernel, by decide +kernel⟩ rfl (by first | exact .inl rfl | exact .inr (.inl rfl)) (by first | exact .inl rfl | exact .inr (.inl rfl)) (by decide +kernel) (by decide +kernel) (fun _ _ _ _ _ _ us hl => match us, hl with | [_, _], _ => rfl)
  have bStart := FStart.binds (ps := ["script"]) fun _ _ _ _ _ _ us hl => match us, hl with | [_], _ => rfl
  have bDraw := FDraw.binds (ps := ["stream", "many"]) fun _ _ _ _ _ _ us hl => match us, hl with | [_, _], _ => rfl
  have bPick := FPick.binds (ps := ["stream", "some"]) fun _ _ _ _ _ _ us hl => match us, hl with | [_, _], _ => rfl
  have bMixed := FMixed.binds (ps := ["stream", "some"]) fun _ _ _ _ _ _ us hl => match us, hl with | [_, _], _ => rfl
  have bNamesL := FNamesL.binds (ps := ["stream", "many"]) fun _ _ _ _ _ _ us hl => match us, hl with | [_, _], _ => rfl
  have bArcsL := FArcsL.binds (ps := ["stream", "most"]) fun _ _ _ _ _ _ us hl => match us, hl with | [_, _], _ => rfl
  have bLiveL := FLiveL.binds (ps := ["arcs"]) fun _ _ _ _ _ _ us hl => match us, hl with | [_], _ => rfl
  have bWorldL := FWorldL.binds (ps := ["stream", "arcs"]) fun _ _ _ _ _ _ us hl => match us, hl with | [_, _], _ => rfl
  have bSome := FSome.binds (ps := ["stream", "names"]) fun _ _ _ _ _ _ us hl => match us, hl with | [_, _], _ => rfl
  have bPlansL := FPlansL.binds (ps := ["stream", "arcs", "plan"]) fun _ _ _ _ _ _ us hl => match us, hl with | [_, _, _], _ => rfl
  have bPairs := FPairs.binds (ps := ["stream", "arcs", "pair"]) fun _ _ _ _ _ _ us hl => match us, hl with | [_, _, _], _ => rfl
  have bIsPlanL := FIsPlanL.binds (ps := ["arcs", "known", "asked", "x"]) fun _ _ _ _ _ _ us hl => match us, hl with | [_, _, _, _], _ => rfl
  have bAreApartL := FAreApartL.binds (ps := ["arcs", "known", "asked", "x"]) fun _ _ _ _ _ _ us hl => match us, hl with | [_, _, _, _], _ => rfl
  have bMade := FMade.binds (ps := ["arcs", "given", "answers"]) fun _ _ _ _ _ _ us hl => match us, hl with | [_, _, _], _ => rfl
  have bFinds := FFinds.binds (ps := ["stream", "net", "arcs", "given"]) fun _ _ _ _ _ _ us hl => match us, hl with | [_, _, _, _], _ => rfl
  have bCkB := FCkB.binds (ps := ["names", "known", "asked"]) fun _ _ _ _ _ _ us hl => match us, hl with | [_, _, _], _ => rfl
  have bCkC := FCkC.binds (ps := ["known", "answers"]) fun _ _ _ _ _ _ us hl => match us, hl with | [_, _], _ => rfl
  have bJoined := FJoined.binds (ps := ["arcs", "names", "asked"]) fun _ _ _ _ _ _ us hl => match us, hl with | [_, _, _], _ => rfl
  have bReached := FReached.binds (ps := ["steps", "begin"]) fun _ _ _ _ _ _ us hl => match us, hl with | [_, _], _ => rfl
  have bEither := FEither.binds (ps := ["arcs", "names"]) fun _ _ _ _ _ _ us hl => match us, hl with | [_, _], _ => rfl
  have bLive := FLive.binds (ps := ["self"]) fun _ _ _ _ _ _ us hl => match us, hl with | [_], _ => rfl
  have bHome := FHome.binds (ps := ["self"]) fun _ _ _ _ _ _ us hl => match us, hl with | [_], _ => rfl
  have bArcs := FArcs.binds (ps := ["self"]) fun _ _ _ _ _ _ us hl => match us, hl with | [_], _ => rfl
  have bIsLive := FIsLive.binds (ps := ["self", "name"]) fun _ _ _ _ _ _ us hl => match us, hl with | [_, _], _ => rfl
  have bIsWorldM := FIsWorldM.binds (ps := ["self", "thing"]) fun _ _ _ _ _ _ us hl => match us, hl with | [_, _], _ => rfl
  have bInit := FInit.binds (ps := ["self", "arcs"]) fun _ _ _ _ _ _ us hl => match us, hl with | [_, _], _ => rfl
  have bIsTold := FIsTold.binds (ps := ["self", "known", "asked"]) fun _ _ _ _ _ _ us hl => match us, hl with | [_, _, _], _ => rfl
  have bPlan := FPlan.binds (ps := ["self", "known", "asked"]) fun _ _ _ _ _ _ us hl => match us, hl with | [_, _, _], _ => rfl
  have bIsPlan := FIsPlan.binds (ps := ["self", "known", "asked", "thing"]) fun _ _ _ _ _ _ us hl => match us, hl with | [_, _, _, _], _ => rfl
  have bFoundM := FFoundM.binds (ps := ["self", "known", "asked", "plan", "answers"]) fun _ _ _ _ _ _ us hl => match us, hl with | [_, _, _, _, _], _ => rfl
  have bApart := FApart.binds (ps := ["self", "known", "asked"]) fun _ _ _ _ _ _ us hl => match us, hl with | [_, _, _], _ => rfl
  have bAreApart := FAreApart.binds (ps := ["self", "known", "asked", "thing"]) fun _ _ _ _ _ _ us hl => match us, hl with | [_, _, _, _], _ => rfl
  have bIsGiven := FIsGiven.binds (ps := ["self", "known", "asked"]) fun _ _ _ _ _ _ us hl => match us, hl with | [_, _, _], _ => rfl
  have bOthers := FOthers.binds (ps := ["self", "known", "asked"]) fun _ _ _ _ _ _ us hl => match us, hl with | [_, _, _], _ => rfl
  have bIsCut := FIsCut.binds (ps := ["self", "name", "side"]) fun _ _ _ _ _ _ us hl => match us, hl with | [_, _, _], _ => rfl
  let ca : Str → Addr := fun x => He.ga K x
  have inT : ∀ r ∈ rzT, (r.x, r.fld) ∈ erT ∧ True := fun r hr => by
    simp only [rzT, List.mem_cons, List.not_mem_nil, or_false] at hr
    rcases hr with rfl | rfl <;> exact ⟨by simp [erT], trivial⟩
  have EL : ElOk K mg ca (He.ga K "WorldError") := by
    refine ⟨fun x hx => ?_, gWE, fun r hr y hy => ?_, fun r hr => ?_, fun r hr => ?_, fun r hr => ?_⟩
    · simp only [chnT, List.mem_cons, List.not_mem_nil, or_false] at hx
      rcases hx with rfl | rfl | rfl | rfl | rfl | rfl | rfl | rfl
      · exact EBadKnown.g
      · exact ENoQuestion.g
      · exact EBadArc.g
      · exact EBadNames.g
      · exact EBadAmounts.g
      · exact EBadWorld.g
      · exact EBadPlan.g
      · exact EBadAnswers.g
    · simp only [rzT, List.mem_cons, List.not_mem_nil, or_false] at hr
      rcases hr with rfl | rfl
      · obtain ⟨_, z⟩ := He.ba (List.all_eq_true.mp mo2 "BadPlan" (by simp))
        exact of_decide_eq_true (List.all_eq_true.mp z y hy)
      · obtain ⟨_, z⟩ := He.ba (List.all_eq_true.mp mo2 "BadAnswers" (by simp))
        exact of_decide_eq_true (List.all_eq_true.mp z y hy)
    · simp only [rzT, List.mem_cons, List.not_mem_nil, or_false] at hr
      rcases hr with rfl | rfl
      · obtain ⟨z, _⟩ := He.ba (List.all_eq_true.mp mo2 "BadPlan" (by simp))
        exact exc_ok (x := "BadPlan") (f := "thing") (errB_ok (cc.er ("BadPlan", "thing") (by simp [erT]))) z
      · obtain ⟨z, _⟩ := He.ba (List.all_eq_true.mp mo2 "BadAnswers" (by simp))
        exact exc_ok (x := "BadAnswers") (f := "thing") (errB_ok (cc.er ("BadAnswers", "thing") (by simp [erT]))) z
    · exact (errB_ok (cc.er _ (inT r hr).1)).no
    · simp only [rzT, List.mem_cons, List.not_mem_nil, or_false] at hr
      rcases hr with rfl | rfl
      · exact He.exm_ok (c.fact (f := .exm "BadPlan" "WorldError" true) 99 rfl)
      · exact He.exm_ok (c.fact (f := .exm "BadAnswers" "WorldError" true) 100 rfl)
  have TR : TrE P w K mg base ca (He.ga K "WorldError") := ⟨EL, ⟨_, _, gTried, FTried⟩, ⟨_, _, gErrL, FErrL, ok_errL FErrL EL n_isinstance⟩⟩
  have GDr : FnOk P w K mg base CX0 1 _ _ ["stream", "many"] spDraw := ok_draw FDraw n_int
  have GPi : FnOk P w K mg base CX0 2 _ _ ["stream", "some"] (spPick K) := ok_pick FPick FDraw gDraw n_int n_len
  have GNm := ok_names (P := P) (w := w) (base := base) FNamesL FNameL gNameL FPick gPick FDraw gDraw n_int n_len n_range
  have GMi := ok_mixed (P := P) (w := w) (base := base) FMixed FDraw gDraw n_int n_len n_list n_range
  have GNa : FnOk P w K mg base CX0 1 _ _ ["thing"] (spIsNameG K) := ok_isNameG FIsName n_isinstance n_str n_len n_all gLo gSg
  have GPr := ok_pairG (P := P) (w := w) (base := base) FIsPair FIsList gIsList n_isinstance n_list n_tuple n_len
  have GAc := ok_arcG (P := P) (w := w) (base := base) FIsArc FIsPair gIsPair GPr FIsName gIsName GNa
  have GIl := ok_isLive (P := P) (w := w) (base := base) FIsLive S0 FReached gReached FOnward gOnward n_len
  have GIn := ok_nInit (P := P) (w := w) (base := base) FInit S0 FIsName gIsName GNa FIsArc gIsArc GAc FNodesOf gNodesOf mIsLive GIl bIsLive n_isinstance n_dict n_len n_list
  have GCo := ok_isCountG (P := P) (w := w) (K := K) (base := base) FIsCount FIsInt gIsInt n_isinstance n_int n_bool
  have GMw := ok_mIsWorld (P := P) (w := w) (base := base) FIsWorldM S0 FHasJust gHasJust FInward gInward FIsCount gIsCount GCo n_isinstance n_dict n_len n_all
  have GAr := ok_arcsL (P := P) (w := w) (base := base) FArcsL FDraw gDraw FPick gPick FNamesL gNamesL GNm n_int n_len n_enumerate
  have GLi := ok_liveL (P := P) (w := w) (base := base) FLiveL FLeads gLeads n_range n_len
  have GWy := ok_way (P := P) (w := w) (base := base) FWay FMixed gMixed GMi n_range n_len n_list
  have GWo := ok_worldL (P := P) (w := w) (base := base) FWorldL FDraw gDraw FMixed gMixed GMi FLiveL gLiveL GLi FWay gWay GWy n_int n_dict
  have CH : Chk K mg _ _ _ _ _ _ := { F := ⟨_, FFirst⟩, L := ⟨_, FIsList⟩, O := ⟨_, FIsOne⟩, CK := ⟨_, FCkK⟩, CA := ⟨_, FCkA⟩, CB := ⟨_, FCkB⟩, gF := gFirst, gL := gIsList, gO := gIsOne, gCK := gCkK, gCA := gCkA, gCB := gCkB, nI := n_isinstance, nL := n_list, nT := n_tuple, nS := n_str, nE := n_enumerate }
  have GBo := ok_ckBX (P := P) (w := w) (base := base) CH EBadKnown ENoQuestion FCkB
  have GLv := ok_nLive (P := P) (w := w) (base := base) (mg := mg) FLive S0 n_list
  have GHo := ok_nHome (P := P) (w := w) (base := base) (mg := mg) FHome S0
  have GAc2 := ok_nArcs (P := P) (w := w) (base := base) (mg := mg) FArcs S0
  have GRe := ok_reachG (P := P) (w := w) (base := base) FReached n_len
  have GEi := ok_eith (P := P) (w := w) (base := base) FEither FOnward gOnward FBack gBack
  have GJo := ok_join (P := P) (w := w) (base := base) FJoined FEither gEither GEi FReached gReached n_len
  have NC : NtC P w K mg base (He.ga K "Net") ca := { S := S0, nL := n_list, live := ⟨_, _, mLive, bLive, GLv⟩, ckB := ⟨_, _, gCkB, FCkB.kp, bCkB, GBo⟩, jo := ⟨_, _, gJoined, FJoined.kp, bJoined, GJo⟩, rc := ⟨_, _, gReached, FReached.kp, bReached, GRe⟩, ei := ⟨_, _, gEither, FEither.kp, bEither, GEi⟩ }
  have GFr := ok_free FFree NC
  have GOt := ok_oth (P := P) (w := w) (base := base) FOthers FFree gFree GFr
  have GGi := ok_giv (P := P) (w := w) (mg := mg) (base := base) FIsGiven S0
  have GTo := ok_told FIsTold NC mIsGiven GGi bIsGiven mOthers GOt bOthers
  have GPl := ok_planN FPlan NC mIsTold GTo bIsTold mIsGiven GGi bIsGiven mOthers GOt bOthers
  have GFl := ok_fill FFilled NC mArcs GAc2 bArcs mHome GHo bHome FOnward gOnward FWayTo gWayTo FShifted gShifted
  have GRi := ok_ring (P := P) (w := w) (base := base) FRing FEither gEither GEi FReached gReached FOnward gOnward FWayTo gWayTo n_len
  have GAp := ok_apartN FApart NC mIsTold GTo bIsTold mOthers GOt bOthers FFilled gFilled GFl FRing gRing GRi FShifted gShifted
  have GCt := ok_cut (P := P) (w := w) (base := base) (mg := mg) FIsCut S0
  have GFb := ok_firstG (P := P) (w := w) (base := base) FFirst FIsList gIsList FIsOne gIsOne n_isinstance n_list n_tuple n_str n_enumerate
  have GIp := ok_isPlN FIsPlan NC mIsGiven GGi bIsGiven mOthers GOt bOthers mIsCut GCt bIsCut FFirst gFirst GFb n_len n_any
  have GCl := ok_ckL (P := P) (w := w) (base := base) FCkL EBadAnswers n_isinstance n_dict n_all
  have GCc := ok_ckC (P := P) (w := w) (base := base) FCkC FCkL gCkL GCl FIsCount gIsCount GCo EBadAnswers n_all
  have GFo := ok_foundG (ca := ca) FFoundM S0 mIsPlan GIp bIsPlan FCkC gCkC GCc FInward gInward
  have GFx := ok_foundX (ca := ca) FFoundM S0 mIsPlan GIp bIsPlan FCkC gCkC GCc EBadPlan
  have GAa := ok_areAp FAreApart NC FIsPair gIsPair GPr mIsWorldM GMw bIsWorldM FIsParted gIsParted n_all
  have GSo := ok_some (P := P) (w := w) (base := base) FSome FMixed gMixed GMi FDraw gDraw GDr n_len
  have GSi := ok_isSide (K := K) (P := P) (w := w) (base := base) FIsSide FNodesL gNodesL M n_str n_any n_enumerate
  have GIl2 := ok_isPlanL (P := P) (w := w) (base := base) FIsPlanL FLiveL gLiveL GLi FIsSide gIsSide GSi FOut gOut M
  have GMa := ok_made (K := K) (P := P) (w := w) (base := base) FMade FLiveL gLiveL GLi FOut gOut n_int n_sum
  have GWl := ok_isWorldL (K := K) (P := P) (w := w) (base := base) FIsWorldL FNodesL gNodesL n_isinstance n_dict n_len n_all n_sum n_int n_bool
  have GAl := ok_areApL (P := P) (w := w) (base := base) FAreApartL FIsWorldL gIsWorldL GWl M
  have GPs := ok_plansL (P := P) (w := w) (base := base) FPlansL FNodesL gNodesL FSome gSome GSo FPick gPick GPi M n_range
  have GPa := ok_pairs (P := P) (w := w) (base := base) FPairs FWorldL gWorldL GWo FPick gPick GPi M n_dict
  have LF : LawF P w K mg base (He.ga K "Net") ca (He.ga K "WorldError") := { R := TR, S := S0, found := ⟨_, _, mFoundM, bFoundM, GFo, GFx⟩, draw := ⟨_, _, gDraw, FDraw.kp, bDraw, GDr⟩, pick := ⟨_, _, gPick, FPick.kp, bPick, GPi⟩, mixed := ⟨_, _, gMixed, FMixed.kp, bMixed, GMi⟩, world := ⟨_, _, gWorldL, FWorldL.kp, bWorldL, GWo⟩, made := ⟨_, _, gMade, FMade.kp, bMade, GMa⟩, same := ⟨_, _, gSame, FSame⟩, M := M, nDi := n_dict, nR := n_range }
  have GFi := ok_finds (T := tbL K) FFinds cFi LF (hTB _ (cs_of (by decide))) (tb_mem (by decide)) (tb_uni cc.np (by decide))
  exact ok_law (T := tbL K) FLaw cLw0 { F := LF, makeN := ⟨_, _, Mk0, gC, bInit, GIn⟩, start := ⟨_, _, gStart, FStart.kp, bStart, ok_start FStart n_list⟩, arcsL := ⟨_, _, gArcsL, FArcsL.kp, bArcsL, GAr⟩, someL := ⟨_, _, gSome, FSome.kp, bSome, GSo⟩, plansL := ⟨_, _, gPlansL, FPlansL.kp, bPlansL, GPs⟩, pairsL := ⟨_, _, gPairs, FPairs.kp, bPairs, GPa⟩, isPl := ⟨_, _, gIsPlanL, FIsPlanL.kp, bIsPlanL, GIl2⟩, areAp := ⟨_, _, gAreApartL, FAreApartL.kp, bAreApartL, GAl⟩, finds := ⟨_, _, gFinds, FFinds.kp, bFinds, GFi⟩, plan := ⟨_, _, mPlan, bPlan, GPl⟩, apart := ⟨_, _, mApart, bApart, GAp⟩, isPlan := ⟨_, _, mIsPlan, bIsPlan, GIp⟩, areApart := ⟨_, _, mAreApart, bAreApart, GAa⟩ } (hTB _ (cs_of (by decide))) (tb_mem (by decide)) (tb_uni cc.np (by decide))
end L2.TB
open PySem PySem.W PySem.Calls PyProof.Rows
set_option maxHeartbeats 0 in
theorem PySem.Challenge.cw_twoworlds_k26_whole_net_papers_holds : PySem.Challenge.rw_twoworlds_k26_whole_net_papers.Holds := by
  w_on; o_law
  refine HandSHeadRun.head_any (r := L2.TB.HdR.R) (q := L2.TB.HdR.qv) (H := L2.TB.hookK) (ob := L2.TB.obT) (M := 16000) (loose := L2.TB.HdR.names)
    (d := HandSHeadRun.topDef L2.TB.HdR.R.prog 70) (kwd := []) L2.TB.obT_eq
    (by kernel_rfl) (fun s => by kernel_rfl) L2.TB.HdR.run (by kernel_rfl) (by kernel_rfl) (by kernel_rfl) (by rfl)
    (by first | assumption | decide +kernel) (by decide +kernel) ⟨rfl, rfl, rfl, rfl, rfl, by decide +kernel⟩ ?hw ?hc
  case hw => w_witness2
  case hc =>
    refine LamX.walk_ofTsE (l := PySem.Challenge.rw_twoworlds_k26_whole_net_papers) (n := 63) (k := 10) (x := "script") (CX := fun _ => L2.CX0)
      rfl (by decide) (by kernel_rfl) ⟨rfl, by decide, by decide⟩ ?F (fun _ _ _ _ _ z => z)
    intro w mg fa h Y G hmg0
    obtain ⟨K, KX, c⟩ := Y
    have hmg : mg ("law" : PySem.Str) = some (.ref fa) := by
      have e : (HandSHeadRun.topDef L2.TB.HdR.R.prog 70).name = ("law" : PySem.Str) := by kernel_rfl
      rw [← e]; exact hmg0
    obtain ⟨fd, hb, hF⟩ := L2.TB.facts (P := PySem.Challenge.rw_twoworlds_k26_whole_net_papers.prog) (w := w) KX G hmg c
    exact ⟨K, KX, fd, L2.TB.csL K, L2.TB.spLawT K (L2.TB.tbL K), fun p hp => c.emptyC hp, fun p hp => c.outC hp, fun p hp => PySem.W.codeHd_of_K KX (c.hdC hp), hb, fun H a ns hl _ hT hS => ⟨a, ns, rfl, hS, by omega, L2.TB.tabs_nil hT, fun _ => rfl⟩, hF⟩
