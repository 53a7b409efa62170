import PyProof.Rows.All
import Wide.All
import OpenK.AllK
import Wide.FinOn
import HandS.ForMost
import HandS.Exc
import HandS.ExcInit
import HandS.IsInst
import HandS.Defaults
import HandS.Wide
import HandS.Conv
import HandS.Dict
import HandS.DictTup
import HandS.DictComp
import HandS.Flow
import HandS.Style
import HandS.TupSets
import HandS.NoneIn
import HandS.ForExc
import HandS.TryMany
import HandS.ExcField
import HandS.WordsExc
import HandS.HeadHook1
import HandS.HeadHook2
import HandS.Head0
import HandS.Head1
import HandS.Head2
import HandS.Head3
import HandS.HeadEnd
import HandS.HeadHook4
import HandS.Nested
import HandS.Iter
import KE.GoesEnum
import HandS.More
import HandS.Zip
import KE.GoesZip
import KE.GoesMore
import HandS.BoundDict
import HandS.Walk
import HandS.WordsDict
import HandS.ExcOwn
import HandS.Gcd
import PyProof.P3Eq
import KE.KDictList
import HandS.CallSlots
import HandS.Lambda
import KE.KDictItemsList
import KE.KDictZip
import HandS.ListItems
import HandS.HeadWalk
import PySem.Challenge.RW_twoworlds_k09_whole_fewest_questions
set_option Elab.async false
set_option linter.all false
set_option maxRecDepth 100000
set_option maxHeartbeats 40000000
namespace L2.TB
open PySem PySem.Spec PyProof.Rows
def topS (i : Nat) : Stmt := PySem.Challenge.pw_twoworlds_k09_whole_fewest_questions.main.body.getD i (.Pass ⟨0, 0, 0, 0⟩)
abbrev sStart : Stmt := topS 48
abbrev sDraw : Stmt := topS 49
abbrev sPick : Stmt := topS 50
abbrev sMixed : Stmt := topS 51
abbrev sNames : Stmt := topS 45
abbrev sRows : Stmt := topS 46
abbrev sSome : Stmt := topS 47
abbrev sSame : Stmt := topS 52
abbrev sParts : Stmt := topS 53
abbrev sLeastL : Stmt := topS 54
abbrev sFinds : Stmt := topS 55
abbrev sCostL : Stmt := topS 56
abbrev sLowest : Stmt := topS 57
abbrev sHoldsR : Stmt := topS 58
abbrev sDefR : Stmt := topS 59
abbrev sLaw : Stmt := topS 60
abbrev sIsInt : Stmt := topS 17
abbrev sIsList : Stmt := topS 19
abbrev sIsPair : Stmt := topS 20
abbrev sIsCount : Stmt := topS 18
abbrev sIsName : Stmt := topS 21
abbrev sIsOne : Stmt := topS 22
abbrev sHasJust : Stmt := topS 23
abbrev sFirst : Stmt := topS 24
abbrev sCkK : Stmt := topS 25
abbrev sCkA : Stmt := topS 26
abbrev sCkB : Stmt := topS 27
abbrev sCkLack : Stmt := topS 28
abbrev sCkW : Stmt := topS 29
abbrev sAskF : Stmt := topS 30
abbrev sFewest : Stmt := topS 35
abbrev sMeanF : Stmt := topS 36
abbrev sHoldF : Stmt := topS 37
abbrev sIsHold : Stmt := topS 38
abbrev sIsTree : Stmt := topS 33
abbrev sDepthOf : Stmt := topS 34
abbrev sHasInts : Stmt := topS 39
abbrev sAreInts : Stmt := topS 42
abbrev sBadRow : Stmt := topS 43
abbrev sTable : Stmt := topS 41
abbrev sSearch : Stmt := topS 32
abbrev sSInit : Stmt := inClass sSearch 0
abbrev sWhole : Stmt := inClass sSearch 1
abbrev sPartsOf : Stmt := inClass sSearch 2
abbrev sCost : Stmt := inClass sSearch 3
abbrev sTreeM : Stmt := inClass sSearch 4
abbrev sHoldM : Stmt := inClass sSearch 5
abbrev sIsHard : Stmt := inClass sSearch 6
abbrev sBest : Stmt := inClass sSearch 7
abbrev sBestQ : Stmt := inClass sSearch 8
abbrev sCostOf : Stmt := inClass sSearch 9
abbrev sInit : Stmt := inClass sTable 0
abbrev sLenM : Stmt := inClass sTable 1
abbrev sQs : Stmt := inClass sTable 4
abbrev sRowsM : Stmt := inClass sTable 13
abbrev sDictOf : Stmt := inClass sTable 17
abbrev sIsTold : Stmt := inClass sTable 7
abbrev sPlan : Stmt := inClass sTable 8
abbrev sIsPlan : Stmt := inClass sTable 9
abbrev sAdd : Stmt := inClass sTable 3
abbrev sAnswers : Stmt := inClass sTable 6
abbrev sFound : Stmt := inClass sTable 10
abbrev sApart : Stmt := inClass sTable 11
abbrev sAreAp : Stmt := inClass sTable 12
abbrev sLeft : Stmt := inClass sTable 14
abbrev sMayBe : Stmt := inClass sTable 15
abbrev sOnly : Stmt := inClass sTable 16
abbrev sIsWorld : Stmt := inClass sTable 19
abbrev sCkAns : Stmt := inClass sTable 20
abbrev sPlaces : Stmt := inClass sTable 18
abbrev sParting : Stmt := inClass sTable 21
abbrev sPlanOf : Stmt := inClass sTable 22
abbrev sIBadRow : Stmt := inClass (topS 10) 0
abbrev sIBadKnown : Stmt := inClass (topS 5) 0
abbrev sINoQuestion : Stmt := inClass (topS 6) 0
abbrev sIBadNumber : Stmt := inClass (topS 9) 0
abbrev sIBadWeight : Stmt := inClass (topS 13) 0
end L2.TB
/-! several except clauses, each with a name for the exception or without one -/
namespace TA
open PySem PySem.Spec PyProof.Rows L2
abbrev Cl := Value × Option Nat × (Addr → Value → Option Addr → TS)
/-- the ends of a suite whose name goes behind it -/
def goesE (i : Nat) (D : Ends) : Ends := { nx := fun σ H => D.nx (σ.set i none) H, rt := D.rt, bk := fun σ H => D.bk (σ.set i none) H, ct := fun σ H => D.ct (σ.set i none) H }
/-- what a clause does with the exception at a -/
def cl1 (k : Cl) (D : Ends) (a : Addr) (cls : Value) (d : Option Addr) (σ : L2.St) (H : Hp) : Prop := match k.2.1 with
  | none => k.2.2 a cls d D σ H
  | some i => k.2.2 a cls d (goesE i D) (σ.set i (some (.ref a))) H
def wCls (K : PySem.W.Frag) (Wout : WX) (D : Ends) : List Cl → WX
  | [] => Wout
  | k :: r => fun cls d σ H => ∃ b, PySem.W.exmOne K cls k.1 = some b ∧ (b = true → ∀ a, H a = none → cl1 k D a cls d σ H) ∧ (b = false → wCls K Wout D r cls d σ H)
/-- the name of a clause is a slot -/
def NamedAs (X : Cx) : Option Str → Option Nat → Prop
  | none, none => True
  | some n, some i => X.N[i]? = some n ∧ X.env.kindOf n = some .local
  | _, _ => False
inductive Cls (X : Cx) : List ExceptHandler → List Cl → Prop
  | nil : Cls X [] []
  | cons {x : Str} {on : Option Str} {k : Cl} {b₀ : Stmt} {suite : List Stmt} {np q : Pos} {hds : List ExceptHandler} {l : List Cl} (hn : NamedAs X on k.2.1) (hc : Names X x k.1)
      (hsu : ∀ (a : Addr) (oe : Obj) (cls : Value) (d : Option Addr) (pn : List (Addr × Obj)), Zc cls d oe → (∃ vs, oe.data = .fields vs) → PSs (X.suite a ((a, oe) :: pn)) (b₀ :: suite) (k.2.2 a cls d)) (r : Cls X hds l) :
      Cls X (.ExceptHandler (some (.Name x np)) on (b₀ :: suite) q :: hds) (k :: l)
section
variable {X : Cx} {body : List Stmt} {h₀ : ExceptHandler} {hds : List ExceptHandler} {l : List Cl} {pos : Pos} {tb : WX → TS} {Wout : WX}
theorem ps_try_cls (hs : X.stack = X.env :: X.outer) (hf : X.env.frame = some X.env.locals) (hN : X.N.Nodup) (tk : Takes X Wout)
    (hb : ∀ (W : WX) (pn : List (Addr × Obj)) (xe : Value → Shared → Prop), Takes (X.tr pn xe) W → PassesOwn (model X.prog X.w) X.A X.env xe → PSs (X.tr pn xe) body (tb W))
    (hh : Cls X (h₀ :: hds) l) : PS X (.Try body (h₀ :: hds) [] [] pos) (fun D σ H => tb (wCls X.K Wout D l) D σ H) := by
  refine ⟨fun pins s σ H D I reading => ?_⟩
  have okX := I.ok
  have frA : X.A.frames = some (X.env :: X.outer) := by rw [okX.frames, hs]
  refine wpAny_Try_except (wpAny_mono ((hb (wCls X.K Wout D l) (X.pn ++ pins) (fun e s1 => wpAny (model X.prog X.w) X.A (noteFrame e X.env)
    (fun _ s2 => wpAny (model X.prog X.w) X.A (setFlight e none) (fun _ s3 => wpAny (model X.prog X.w) X.A (handleBy e X.env (h₀ :: hds)) (SP X pins D) X.xe s3) X.xe s2) X.xe s1)
    (fun ev s1 caught => ?_) PassesOwn.looking).run [] s σ H D (I.toTry _) reading) (fun fl s1 done => ?_) (fun _ _ z => z))
  · obtain ⟨a, B, sI, pinsT, σ1, H1, cls, d, rfl, JT, nb, up1, sky, fresh, osE, bare, wish⟩ := caught
    have J : Inv X pins σ1 H1 sI := JT.ofTry okX
    show wpAny (model X.prog X.w) X.A (noteFrame (.ref a) X.env) _ _ _
    refine Sky.land Zc.steady frA hf (by rw [← hs]; exact sky) fun hL landed upL => ?_
    have JL : Inv X pins σ1 H1 { s1 with heap := hL } := J.landed nb landed.1 (up1.trans upL) osE bare
    obtain ⟨oL, vL, eL, zL, dL⟩ := landed.there
    have offFrames : a ∉ frs (X.env :: X.outer) := fun hm => by
      obtain ⟨_, o2, e2, no⟩ := landed.2.2.1.mem hm
      rw [eL] at e2
      cases e2
      exact no _ dL
    have offLocals : a ≠ X.env.locals := fun z => offFrames (List.mem_filterMap.mpr ⟨X.env, List.mem_cons_self, by rw [hf, z]⟩)
    have offFs : a ∉ X.fs := fun hm => by
      obtain ⟨e, he, q⟩ := List.mem_filterMap.mp hm
      exact offFrames (List.mem_filterMap.mpr ⟨e, List.mem_cons_of_mem _ he, q⟩)
    have SL := JL.suite eL dL fresh offLocals offFs
    have along : ∀ {hd2 : List ExceptHandler} {l2 : List Cl}, Cls X hd2 l2 → wCls X.K Wout D l2 cls d σ1 H1 → wpAny (model X.prog X.w) X.A (handleBy (.ref a) X.env hd2) (SP X pins D) X.xe { s1 with heap := hL } := by
      intro hd2 l2 hk
      induction hk with
      | nil =>
        intro w
        refine wpAny_handleBy_nil ?_
        obtain ⟨_, _, _, oe, vs, T, oT, _, he, _, hd, h1, _⟩ := id landed
        unfold PySem.passOn
        refine wpAny_bind (wpAny_field he hd h1 ?_)
        rw [if_neg (by simp)]
        have out : wpAny (model X.prog X.w) X.A (setFlight (.ref a) X.env.frame) (fun _ s4 => wpAny (model X.prog X.w) X.A (throw (.ref a) : Sem Flow) (SP X pins D) X.xe s4) X.xe { s1 with heap := hL } := by
          rw [hf]
          exact HandSPX.setFlight_upZ landed fun h4 up4 more => wpAny_throw (tk _ _ ⟨a, B, sI, pins, σ1, H1, cls, d, rfl, J, nb, (up1.trans upL).trans more, .inr (.inr (by rw [hs]; exact up4)), fresh, osE, bare, w⟩)
        first
          | exact wpAny_bind (wpAny_pure (wpAny_bind out))
          | exact wpAny_bind out
      | @cons x on k b₀ suite np q hds3 l3 hn hc hsu r ih =>
        intro w
        obtain ⟨b, isIt, yes, no⟩ := w
        refine wpAny_handleBy_cons (codeAny_handlers_test ?_) (fun z => by cases z)
        have seesClass : PySem.W.Looks (model X.prog X.w) hL (typeOf (.ref a)) cls := fun A Q E s2 kk go => wpAny_typeOf_ref (kk _ _ eL) (by rw [zL.1]; exact go)
        have matched := PySem.W.exm_one (M := model X.prog X.w) JL.kIn seesClass isIt
        have named : ∀ {Q E : Value → Shared → Prop}, Q k.1 { s1 with heap := hL } → wpAny (model X.prog X.w) (X.A.mark (some (.ref a))) (eval (.Name x np) X.env) Q E { s1 with heap := hL } := fun {Q E} go => by
          rcases hc with ⟨g1, g2, g3 | ⟨g3, g4, g5⟩⟩
          · exact ld_glob (X := X.suite a ((a, oL) :: (X.pn ++ pins))) SL g1 g3 go g2
          · exact ld_blt (X := X.suite a ((a, oL) :: (X.pn ++ pins))) SL g1 g3 g4 go g5 g2
        refine named (matched.here ?_)
        cases b with
        | false => exact ih (no rfl)
        | true =>
          obtain ⟨kc, oi, kt⟩ := k
          match on, oi, hn with
          | none, none, _ =>
            refine codeAny_handlers_suite (HandSPX.lands_againZ landed fun h4 l4 up4 => ?_)
            have J4 : Inv X pins σ1 H1 { s1 with heap := h4 } := J.landed nb l4.1 ((up1.trans upL).trans up4) osE bare
            obtain ⟨o4, v4, e4, z4, d4⟩ := l4.there
            have S4 := J4.suite e4 d4 fresh offLocals offFs
            refine wpAny_mono ((hsu a o4 cls d (X.pn ++ pins) z4 ⟨_, d4⟩).run [] _ σ1 H1 D S4 (yes rfl a fresh)) (fun f2 s6 hsp => ?_) (fun _ _ z => False.elim z)
            cases f2 with
            | ret u =>
              obtain ⟨v6, σ6, H6, S6, r6, q6⟩ := hsp
              exact ⟨v6, σ6, H6, S6.unsuite okX, r6, q6⟩
            | next => exact hsp.imp fun σ6 z => z.imp fun H6 z => ⟨z.1.unsuite okX, z.2⟩
            | brk => exact hsp.imp fun σ6 z => z.imp fun H6 z => ⟨z.1.unsuite okX, z.2⟩
            | cont => exact hsp.imp fun σ6 z => z.imp fun H6 z => ⟨z.1.unsuite okX, z.2⟩
          | some n, some i, hn =>
            refine codeAny_handlers_suite_as (HandSPX.lands_againZ landed fun h4 l4 up4 => ?_)
            have J4 : Inv X pins σ1 H1 { s1 with heap := h4 } := J.landed nb l4.1 ((up1.trans upL).trans up4) osE bare
            obtain ⟨o4, v4, e4, z4, d4⟩ := l4.there
            have S4 := J4.suite e4 d4 fresh offLocals offFs
            refine store_ok (X := X.suite a ((a, o4) :: (X.pn ++ pins))) (v := .ref a) S4 hN hn.1 (.inl hn.2) rfl (fun s5 S5 => ?_) (.inr hn.2)
            refine wpAny_mono ((hsu a o4 cls d (X.pn ++ pins) z4 ⟨_, d4⟩).run [] s5 _ H1 _ S5 (yes rfl a fresh)) (fun f2 s6 hsp => ?_) (fun _ _ z => False.elim z)
            have gone : ∀ {σ6 : L2.St} {H6 : Hp} {Q : Shared → Prop}, Inv (X.suite a ((a, o4) :: (X.pn ++ pins))) [] σ6 H6 s6 → (∀ s7, Inv X pins (σ6.set i none) H6 s7 → Q s7) →
                wpAny (model X.prog X.w) X.A (do bindName X.env n .none; unbindBehindTheSuite X.env n q) (fun _ s7 => Q s7) X.xe s6 := fun S6 go => gone_ok (S6.unsuite okX) hN hn.1 hn.2 go
            cases f2 with
            | ret u =>
              obtain ⟨v6, σ6, H6, S6, r6, q6⟩ := hsp
              exact gone S6 fun _ J7 => ⟨v6, _, H6, J7, r6, q6⟩
            | next => obtain ⟨σ6, H6, S6, q6⟩ := hsp; exact gone S6 fun _ J7 => ⟨_, H6, J7, q6⟩
            | brk => obtain ⟨σ6, H6, S6, q6⟩ := hsp; exact gone S6 fun _ J7 => ⟨_, H6, J7, q6⟩
            | cont => obtain ⟨σ6, H6, S6, q6⟩ := hsp; exact gone S6 fun _ J7 => ⟨_, H6, J7, q6⟩
    exact along hh wish
  · cases fl with
    | ret u =>
      obtain ⟨v, σ1, H1, J1, r, q⟩ := done
      exact ⟨v, σ1, H1, J1.ofTry okX, r, q⟩
    | next =>
      obtain ⟨σ1, H1, J1, q⟩ := done
      exact wpAny_execs_nil ⟨σ1, H1, J1.ofTry okX, q⟩
    | brk => exact done.imp fun σ1 z => z.imp fun H1 z => ⟨z.1.ofTry okX, z.2⟩
    | cont => exact done.imp fun σ1 z => z.imp fun H1 z => ⟨z.1.ofTry okX, z.2⟩
end
end TA
/-! classes of errors with an `__init__` of one parameter: what the top's end must say, how such an error is raised -/
namespace L2.TB
open PySem PySem.Spec PyProof.Rows
/-- the class at C: an error over ValueError whose own bases are classes -/
def ownB (K : PySem.W.Frag) (C : Addr) : Bool := match K.lookup C with
  | some ⟨.type "type", _, .cls cd, sl⟩ => (match cd.mro, sl.toList with
    | .ref C' :: bm, [_, _, _, _, some (.builtin n), _] => C' == C && (n == "ValueError.__new__" && (!cd.hasDel && (cd.hasDict && PySem.HandSPX.refsVE bm)))
    | _, _ => false)
  | _ => false
theorem ownB_ok {K : PySem.W.Frag} {C : Addr} (h : ownB K C = true) :
    ∃ nm q N bs bm sn sub ab col dd k0 k1 k2 k3 k5, K.lookup C = some (excClassObj nm q C N bs bm true sn sub ab col dd k0 k1 k2 k3 k5 "ValueError.__new__") ∧ PySem.HandSPX.refsVE bm = true := by
  unfold ownB at h
  split at h
  · rename_i dd cd sl lk
    split at h
    · rename_i C' bm k0 k1 k2 k3 n k5 em es
      simp only [Bool.and_eq_true, beq_iff_eq, Bool.not_eq_true'] at h
      obtain ⟨rfl, rfl, hd, hh, hr⟩ := h
      obtain ⟨nm, bs, mro, ns, qn, hdc, sn, sub, ab, col, del⟩ := cd
      dsimp only at em hd hh
      subst em hd hh
      have e : sl = #[k0, k1, k2, k3, some (.builtin "ValueError.__new__"), k5] := by
        obtain ⟨l⟩ := sl
        simp only at es
        rw [es]
      subst e
      exact ⟨nm, qn, ns, bs, bm, sn, sub, ab, col, dd, k0, k1, k2, k3, k5, lk, hr⟩
    · cases h
  · cases h
def errB (K : PySem.W.Frag) (x f : Str) : Bool := ownB K (He.ga K x) &&
  (He.eqO (PySem.W.findIn K (.ref (He.ga K x)) "__setattr__") (some (some (.builtin "object.__setattr__"))) &&
  (decide (PySem.W.subIn K (.ref (He.ga K x)) (.type "BaseException") = some true) && (decide (PySem.W.typeIn K (.ref (He.ga K x)) = some (.type "type")) && (PySem.W.keepIn K (.ref (He.ga K x)) &&
  (He.eqO (PySem.W.findIn K (.ref (He.ga K x)) f) (some none) && (He.eqO (PySem.W.findIn K (.ref (He.ga K x)) "__init__") (some (some (.ref (He.ma K (He.ga K x) "__init__")))) &&
  (decide (PySem.W.typeIn K (.ref (He.ma K (He.ga K x) "__init__")) = some (.type "function")) && xfB K (He.ga K x))))))))
/-- a class of errors at C, its `__init__` at fI, its one field fld -/
structure ErrC (K : PySem.W.Frag) (C fI : Addr) (fld : Str) : Prop where
  o : OexC K C
  no : PySem.W.findIn K (.ref C) fld = some none
  ini : PySem.W.findIn K (.ref C) "__init__" = some (some (.ref fI))
  fn : PySem.W.typeIn K (.ref fI) = some (.type "function")
  xf : XfC K C
theorem errB_ok {K : PySem.W.Frag} {x f : Str} (h : errB K x f = true) : ErrC K (He.ga K x) (He.ma K (He.ga K x) "__init__") f := by
  obtain ⟨h1, h⟩ := He.ba h
  obtain ⟨h2, h⟩ := He.ba h
  obtain ⟨h3, h⟩ := He.ba h
  obtain ⟨h4, h⟩ := He.ba h
  obtain ⟨h5, h⟩ := He.ba h
  obtain ⟨h6, h⟩ := He.ba h
  obtain ⟨h7, h⟩ := He.ba h
  obtain ⟨h8, h9⟩ := He.ba h
  exact ⟨⟨ownB_ok h1, He.eqO_ok h2, of_decide_eq_true h3, of_decide_eq_true h4, h5⟩, He.eqO_ok h6, He.eqO_ok h7, of_decide_eq_true h8, xfB_ok h9⟩
/-- self.fld = it -/
def spErr (K : PySem.W.Frag) (fld : Str) : Sp := fun vs H Q _ => ∃ (a C : Addr) (v : V), vs = [.ref a, v] ∧ OexC K C ∧ PySem.W.findIn K (.ref C) fld = some none ∧ H a = some (exo a C none) ∧
  ∀ dx, H dx = none → dx ≠ a → Q .non (upd (upd H dx (exd dx [(fld, v)])) a (exo a C (some dx)))
section
variable {P : Program} {w : World} {K : PySem.W.Frag} {mg : Str → Option Value} {base : Heap} {f : Addr} {fd : FuncData}
theorem ok_errInit {q y fld : Str} {st : Stmt} {p0 p1 p2 p3 : Pos} (F : Fun K "__init__" q st f fd) (S : FnScope ["self", y] ["self", y] (defScope st)) (hb : defBody st = [.Assign [.Attribute (.Name "self" p0) fld p1] (.Name y p2) p3])
    (hv0 : Vis (defScope st) "self") (hv1 : Vis (defScope st) y) (hdy : (y == ("__debug__" : Str)) = false) (hcy : (y == ("__classdict__" : Str)) = false) : FnOk P w K mg base CX0 1 f fd ["self", y] (spErr K fld) := by
  refine F.ok S (fun vs H Q E h => by obtain ⟨a, C, v, e, _⟩ := h; rw [e]; rfl) fun cdv A outer s H vs Q E hr hsp => ?_
  obtain ⟨a, C, v, rfl, T, no, ha, hq⟩ := hsp
  rw [hb]
  refine ⟨_, pss_one (ps_ost (pe_var (i := 0) rfl hv0 (by decide) (by decide)) (pe_var (i := 1) rfl hv1 hdy hcy) rfl), ?_⟩
  exact ⟨_, rfl, _, rfl, a, C, rfl, T, no, .inl ⟨ha, hq⟩⟩
end
/-- x(e), to be raised -/
theorem pmk_err {X : Cx} {x fld : Str} {C fI : Addr} {fd : FuncData} {y : Str} {e : Expr} {te : TE} {p pos : Pos} (E : ErrC X.K C fI fld) (F : FnOk X.prog X.w X.K X.mg X.base CX0 1 fI fd ["self", y] (spErr X.K fld)) (hb : Binds X.K fd ["self", y] [])
    (hr : Room 2 X.A) (hg : Gl X x) (hm : X.mg x = some (.ref C)) (he : PE X e te) (hdb : (x == ("__debug__" : Str)) = false := by decide) (hs : starEach [e] X.env = (false, eval e X.env) :: starEach [] X.env := by rfl) :
    PMk X (.Call (.Name x p) [e] [] pos) (tMkO C (spErr X.K fld) [] (tCons te tNil)) := pmk_oex (x := x) (es := []) (ta := tCons te tNil) (ds := []) (dvs := []) E.o E.ini E.fn F hr hb .nil pass0 hg hm (pa_cons he pa_nil (hs := hs)) hdb hs rfl
/-- what must hold where x(v) flies: d is its dict -/
theorem mk_rs {K : PySem.W.Frag} {fld : Str} {C fI : Addr} {v : V} {H1 : Hp} {Q : XK} (E : ErrC K C fI fld) (h : ∀ d, H1 d = none → Q (.ref C) (some d) (upd H1 d (.xd [(fld, v)]))) :
    [v].length ≤ 1000 ∧ ∀ a, H1 a = none → spErr K fld (.ref a :: ([v] ++ [])) (upd H1 a (exo a C none))
      (fun v H2 => v = .non ∧ ∃ (d : Addr) (fs : List (Str × V)), H2 a = some (exo a C (some d)) ∧ H2 d = some (exd d fs) ∧ H1 d = none ∧ Q (.ref C) (some d) (upd (del H2 a) d (.xd fs))) (fun _ _ _ => False) := by
  refine ⟨by show 1 ≤ 1000; omega, fun a ha => ⟨a, C, v, rfl, E.o, E.no, upd_same, fun dx hdx ne => ⟨rfl, dx, _, upd_same, by rw [upd_ne ne, upd_same], ?_, ?_⟩⟩⟩
  · rw [upd_ne ne] at hdx; exact hdx
  · have n1 : H1 dx = none := by rw [upd_ne ne] at hdx; exact hdx
    have e : upd (del (upd (upd (upd H1 a (exo a C none)) dx (exd dx [(fld, v)])) a (exo a C (some dx))) a) dx (.xd [(fld, v)]) = upd H1 dx (.xd [(fld, v)]) := by
      funext b
      by_cases h1 : b = dx
      · subst h1; rw [upd_same, upd_same]
      · rw [upd_ne h1, upd_ne h1]
        by_cases h2 : b = a
        · subst h2; rw [del_same, ha]
        · rw [del_ne h2, upd_ne h2, upd_ne h1, upd_ne h2]
    rw [e]
    exact h dx n1
/-- an error of the class at C flies from here, v in its field -/
def Flies (C : Addr) (fld : Str) (v : V) (H : Hp) (E : XK) : Prop := ∀ d H', Same H H' → H d = none → H' d = some (.xd [(fld, v)]) → E (.ref C) (some d) H'
theorem Flies.same {C : Addr} {fld : Str} {v : V} {H H' : Hp} {E : XK} (h : Flies C fld v H E) (s : Same H H') : Flies C fld v H' E := fun d H2 s2 n e => h d H2 (s.trans s2) (by
  cases q : H d with
  | none => rfl
  | some o => rw [s _ _ q] at n; cases n) e
theorem Flies.mk {K : PySem.W.Frag} {fld : Str} {C fI : Addr} {v : V} {H1 : Hp} {Q : XK} (E : ErrC K C fI fld) (h : Flies C fld v H1 Q) :
    [v].length ≤ 1000 ∧ ∀ a, H1 a = none → spErr K fld (.ref a :: ([v] ++ [])) (upd H1 a (exo a C none))
      (fun v H2 => v = .non ∧ ∃ (d : Addr) (fs : List (Str × V)), H2 a = some (exo a C (some d)) ∧ H2 d = some (exd d fs) ∧ H1 d = none ∧ Q (.ref C) (some d) (upd (del H2 a) d (.xd fs))) (fun _ _ _ => False) :=
  mk_rs E fun d n => h d _ (fun b o e => by rw [upd_ne (ne_of_none e n)]; exact e) n upd_same
end L2.TB
namespace L2.TB
open PySem PySem.Spec PyProof.Rows
/-! ### what the top leaves, by addresses -/
def asK : List Nat := ([3, 6, 4, 49, 59, 79, 98, 117, 136, 155, 174, 193, 205, 224, 243, 252, 259, 266, 273, 278, 285, 290, 297, 304, 311, 318, 323, 330, 335, 405, 415, 421, 429, 437, 445, 453, 458, 605, 614, 619] : List Nat) ++
  ([624, 629, 636, 643, 650, 657, 662, 667, 674, 679, 686, 693, 700, 707, 712, 717, 48, 58, 78, 97, 116, 135, 154, 173, 192, 204, 223, 242, 251, 258, 265, 272, 277, 284, 289, 296, 303, 310, 317, 322] : List Nat) ++
  ([329, 334, 404, 414, 410, 420, 416, 428, 422, 436, 430, 444, 438, 452, 446, 457, 604, 613, 618, 623, 628, 635, 642, 649, 656, 661, 666, 673, 678, 685, 692, 699, 706, 711, 716, 43, 44, 45, 46, 47] : List Nat) ++
  ([57, 60, 76, 77, 95, 96, 114, 115, 133, 134, 152, 153, 171, 172, 190, 191, 203, 221, 222, 240, 241, 246, 247, 248, 249, 250, 253, 254, 255, 256, 257, 260, 261, 262, 263, 264, 267, 268, 269, 270] : List Nat) ++
  ([271, 274, 275, 276, 279, 280, 281, 282, 283, 286, 287, 288, 291, 292, 293, 294, 295, 298, 299, 300, 301, 302, 305, 306, 307, 308, 309, 312, 313, 314, 315, 316, 319, 320, 321, 324, 325, 326, 327, 328] : List Nat) ++
  ([331, 332, 333, 349, 356, 361, 368, 373, 378, 385, 392, 397, 402, 403, 406, 407, 411, 412, 413, 417, 418, 419, 423, 424, 425, 426, 427, 431, 432, 433, 434, 435, 439, 440, 441, 442, 443, 447, 448, 449] : List Nat) ++
  ([450, 451, 454, 455, 456, 470, 477, 484, 491, 498, 505, 510, 517, 524, 529, 534, 541, 548, 553, 558, 565, 572, 577, 582, 587, 592, 597, 602, 603, 606, 607, 610, 611, 612, 615, 616, 617, 620, 621, 622] : List Nat) ++
  ([625, 626, 627, 630, 631, 632, 633, 634, 637, 638, 639, 640, 641, 644, 645, 646, 647, 648, 651, 652, 653, 654, 655, 658, 659, 660, 663, 664, 665, 668, 669, 670, 671, 672, 675, 676, 677, 680, 681, 682] : List Nat) ++
  ([683, 684, 687, 688, 689, 690, 691, 694, 695, 696, 697, 698, 701, 702, 703, 704, 705, 708, 709, 710, 713, 714, 715, 75, 94, 113, 132, 151, 170, 189, 220, 239, 348, 355, 360, 367, 372, 377, 384, 391] : List Nat) ++
  ([396, 401, 469, 476, 483, 490, 497, 504, 509, 516, 523, 528, 533, 540, 547, 552, 557, 564, 571, 576, 581, 586, 591, 596, 601, 70, 71, 72, 73, 74, 89, 90, 91, 92, 93, 108, 109, 110, 111, 112] : List Nat) ++
  ([127, 128, 129, 130, 131, 146, 147, 148, 149, 150, 165, 166, 167, 168, 169, 184, 185, 186, 187, 188, 215, 216, 217, 218, 219, 234, 235, 236, 237, 238, 343, 344, 345, 346, 347, 350, 351, 352, 353, 354] : List Nat) ++
  ([357, 358, 359, 362, 363, 364, 365, 366, 369, 370, 371, 374, 375, 376, 379, 380, 381, 382, 383, 386, 387, 388, 389, 390, 393, 394, 395, 398, 399, 400, 466, 467, 468, 471, 472, 473, 474, 475, 478, 479] : List Nat) ++
  ([480, 481, 482, 485, 486, 487, 488, 489, 492, 493, 494, 495, 496, 499, 500, 501, 502, 503, 506, 507, 508, 511, 512, 513, 514, 515, 518, 519, 520, 521, 522, 525, 526, 527, 530, 531, 532, 535, 536, 537] : List Nat) ++
  ([538, 539, 542, 543, 544, 545, 546, 549, 550, 551, 554, 555, 556, 559, 560, 561, 562, 563, 566, 567, 568, 569, 570, 573, 574, 575, 578, 579, 580, 583, 584, 585, 588, 589, 590, 593, 594, 595, 598, 599] : List Nat) ++
  ([600] : List Nat)
def dd (p : Str × Option Str) (x q : Str) (st : Stmt) (dv : List He.Dv) : He.DefD := { at_ := p, name := x, qual := q, params := defArgs st, body := defBody st, scope := defScope st, dfl := dv }
def fnT : List He.DefD := ([dd ("_law_start", none) "_law_start" "_law_start" sStart [], dd ("_law_draw", none) "_law_draw" "_law_draw" sDraw [], dd ("_law_pick", none) "_law_pick" "_law_pick" sPick [], dd ("_law_mixed", none) "_law_mixed" "_law_mixed" sMixed [], dd ("_law_t_names", none) "_law_t_names" "_law_t_names" sNames [], dd ("_law_t_rows", none) "_law_t_rows" "_law_t_rows" sRows [], dd ("_law_t_some", none) "_law_t_some" "_law_t_some" sSome [], dd ("_law_same", none) "_law_same" "_law_same" sSame []] : List He.DefD) ++
  ([dd ("_law_parts", none) "_law_parts" "_law_parts" sParts [], dd ("_law_least", none) "_law_least" "_law_least" sLeastL [], dd ("_law_finds", none) "_law_finds" "_law_finds" sFinds [], dd ("_law_cost", none) "_law_cost" "_law_cost" sCostL [], dd ("_law_lowest", none) "_law_lowest" "_law_lowest" sLowest [], dd ("_law_holds_right", none) "_law_holds_right" "_law_holds_right" sHoldsR [], dd ("_law_defaults_right", none) "_law_defaults_right" "_law_defaults_right" sDefR [], dd ("law", none) "law" "law" sLaw []] : List He.DefD) ++
  ([dd ("is_integer", none) "is_integer" "is_integer" sIsInt [], dd ("is_list", none) "is_list" "is_list" sIsList [], dd ("is_pair", none) "is_pair" "is_pair" sIsPair [], dd ("is_count", none) "is_count" "is_count" sIsCount [], dd ("is_name", none) "is_name" "is_name" sIsName [], dd ("is_one_of", none) "is_one_of" "is_one_of" sIsOne [], dd ("has_just", none) "has_just" "has_just" sHasJust [], dd ("first_bad", none) "first_bad" "first_bad" sFirst []] : List He.DefD) ++
  ([dd ("check_known", none) "check_known" "check_known" sCkK [], dd ("check_asked", none) "check_asked" "check_asked" sCkA [], dd ("check_both", none) "check_both" "check_both" sCkB [], dd ("check_lacking", none) "check_lacking" "check_lacking" sCkLack [], dd ("check_weights", none) "check_weights" "check_weights" sCkW [], dd ("asked_files", none) "asked_files" "asked_files" sAskF [], dd ("fewest", none) "fewest" "fewest" sFewest [.non], dd ("mean_fewest", none) "mean_fewest" "mean_fewest" sMeanF [.non]] : List He.DefD) ++
  ([dd ("hold", none) "hold" "hold" sHoldF [.non], dd ("is_hold", none) "is_hold" "is_hold" sIsHold [.non], dd ("is_tree", none) "is_tree" "is_tree" sIsTree [.non], dd ("depth_of", none) "depth_of" "depth_of" sDepthOf [.non], dd ("_has_integers", none) "_has_integers" "_has_integers" sHasInts [], dd ("_are_integers", none) "_are_integers" "_are_integers" sAreInts [], dd ("_first_bad_row", none) "_first_bad_row" "_first_bad_row" sBadRow [], dd ("Table", some "__init__") "__init__" "Table.__init__" sInit []] : List He.DefD) ++
  ([dd ("Table", some "__len__") "__len__" "Table.__len__" sLenM [], dd ("Table", some "questions") "questions" "Table.questions" sQs [], dd ("Table", some "rows") "rows" "Table.rows" sRowsM [], dd ("Table", some "_dict_of") "_dict_of" "Table._dict_of" sDictOf [], dd ("Table", some "is_told") "is_told" "Table.is_told" sIsTold [], dd ("Table", some "plan") "plan" "Table.plan" sPlan [], dd ("Table", some "is_plan") "is_plan" "Table.is_plan" sIsPlan [], dd ("Table", some "__add__") "__add__" "Table.__add__" sAdd []] : List He.DefD) ++
  ([dd ("Table", some "answers") "answers" "Table.answers" sAnswers [], dd ("Table", some "found") "found" "Table.found" sFound [], dd ("Table", some "apart") "apart" "Table.apart" sApart [], dd ("Table", some "are_apart") "are_apart" "Table.are_apart" sAreAp [], dd ("Table", some "left") "left" "Table.left" sLeft [], dd ("Table", some "may_be") "may_be" "Table.may_be" sMayBe [], dd ("Table", some "only") "only" "Table.only" sOnly [], dd ("Table", some "_is_world") "_is_world" "Table._is_world" sIsWorld []] : List He.DefD) ++
  ([dd ("Table", some "_check_answers") "_check_answers" "Table._check_answers" sCkAns [], dd ("Table", some "_places") "_places" "Table._places" sPlaces [], dd ("Table", some "_parting_rows") "_parting_rows" "Table._parting_rows" sParting [], dd ("Table", some "_plan_of") "_plan_of" "Table._plan_of" sPlanOf [], dd ("Search", some "__init__") "__init__" "Search.__init__" sSInit [], dd ("Search", some "whole") "whole" "Search.whole" sWhole [], dd ("Search", some "parts_of") "parts_of" "Search.parts_of" sPartsOf [], dd ("Search", some "cost") "cost" "Search.cost" sCost []] : List He.DefD) ++
  ([dd ("Search", some "tree") "tree" "Search.tree" sTreeM [], dd ("Search", some "hold") "hold" "Search.hold" sHoldM [], dd ("Search", some "is_hard") "is_hard" "Search.is_hard" sIsHard [], dd ("Search", some "_best") "_best" "Search._best" sBest [], dd ("Search", some "_best_question") "_best_question" "Search._best_question" sBestQ [], dd ("Search", some "_cost_of") "_cost_of" "Search._cost_of" sCostOf [], dd ("BadRow", some "__init__") "__init__" "BadRow.__init__" sIBadRow [], dd ("BadKnown", some "__init__") "__init__" "BadKnown.__init__" sIBadKnown []] : List He.DefD) ++
  ([dd ("NoQuestion", some "__init__") "__init__" "NoQuestion.__init__" sINoQuestion [], dd ("BadNumber", some "__init__") "__init__" "BadNumber.__init__" sIBadNumber [], dd ("BadWeight", some "__init__") "__init__" "BadWeight.__init__" sIBadWeight []] : List He.DefD)
def faT : List He.Fa := ([.glo "_law_start", .glo "_law_draw", .glo "_law_pick", .glo "_law_mixed", .glo "_law_t_names", .glo "_law_t_rows", .glo "_law_t_some", .glo "_law_same", .glo "_law_parts", .glo "_law_least", .glo "_law_finds", .glo "_law_cost", .glo "_law_lowest", .glo "_law_holds_right", .glo "_law_defaults_right", .glo "law"] : List He.Fa) ++
  ([.glo "is_integer", .glo "is_list", .glo "is_pair", .glo "is_count", .glo "is_name", .glo "is_one_of", .glo "has_just", .glo "first_bad", .glo "check_known", .glo "check_asked", .glo "check_both", .glo "check_lacking", .glo "check_weights", .glo "asked_files", .glo "fewest", .glo "mean_fewest"] : List He.Fa) ++
  ([.glo "hold", .glo "is_hold", .glo "is_tree", .glo "depth_of", .glo "_has_integers", .glo "_are_integers", .glo "_first_bad_row", .glo "Table", .glo "Search", .free "list", .free "len", .free "int", .free "range", .free "dict", .free "tuple", .free "str"] : List He.Fa) ++
  ([.free "bool", .free "isinstance", .free "all", .free "any", .free "enumerate", .free "zip", .free "set", .free "max", .free "sorted", .free "sum", .free "min", .free "abs", .int "LONGEST" 40, .str "SIGNS" "abcdefghijklmnopqrstuvwxyz0123456789.", .cls "Table", .noat "Table" "_questions"] : List He.Fa) ++
  ([.noat "Table" "_rows", .meth "Table" "__len__", .meth "Table" "questions", .meth "Table" "rows", .meth "Table" "_dict_of", .meth "Table" "is_told", .meth "Table" "plan", .meth "Table" "is_plan", .meth "Table" "__add__", .meth "Table" "answers", .meth "Table" "found", .meth "Table" "apart", .meth "Table" "are_apart", .meth "Table" "left", .meth "Table" "may_be", .meth "Table" "only"] : List He.Fa) ++
  ([.meth "Table" "_is_world", .meth "Table" "_check_answers", .meth "Table" "_places", .meth "Table" "_parting_rows", .meth "Table" "_plan_of", .cls "Search", .noat "Search" "_rows", .noat "Search" "_asked", .noat "Search" "_of", .noat "Search" "_weights", .noat "Search" "_bests", .meth "Search" "whole", .meth "Search" "parts_of", .meth "Search" "cost", .meth "Search" "tree", .meth "Search" "hold"] : List He.Fa) ++
  ([.meth "Search" "is_hard", .meth "Search" "_best", .meth "Search" "_best_question", .meth "Search" "_cost_of", .meth "Table" "__init__", .mkr "Table", .meth "Search" "__init__", .mkr "Search", .glo "BadRow", .glo "BadKnown", .glo "NoQuestion", .glo "BadNumber", .glo "BadWeight", .exm "BadRow" "BadRow" true, .exm "BadRow" "BadKnown" false, .exm "BadRow" "NoQuestion" false] : List He.Fa) ++
  ([.exm "BadRow" "BadNumber" false, .exm "BadRow" "BadWeight" false, .exm "BadKnown" "BadRow" false, .exm "BadKnown" "BadKnown" true, .exm "BadKnown" "NoQuestion" false, .exm "BadKnown" "BadNumber" false, .exm "BadKnown" "BadWeight" false, .exm "NoQuestion" "BadRow" false, .exm "NoQuestion" "BadKnown" false, .exm "NoQuestion" "NoQuestion" true, .exm "NoQuestion" "BadNumber" false, .exm "NoQuestion" "BadWeight" false, .exm "BadNumber" "BadRow" false, .exm "BadNumber" "BadKnown" false, .exm "BadNumber" "NoQuestion" false, .exm "BadNumber" "BadNumber" true] : List He.Fa) ++
  ([.exm "BadNumber" "BadWeight" false, .exm "BadWeight" "BadRow" false, .exm "BadWeight" "BadKnown" false, .exm "BadWeight" "NoQuestion" false, .exm "BadWeight" "BadNumber" false, .exm "BadWeight" "BadWeight" true] : List He.Fa)
/-- the defs that hold a def, a lambda -/
def tfT : List He.Defn := []
/-- the classes of errors, each with its field -/
def erT : List (Str × Str) := [("BadRow", "index"), ("BadKnown", "index"), ("NoQuestion", "name"), ("BadNumber", "thing"), ("BadWeight", "index")]
/-- of the class besides -/
def moreT (K : PySem.W.Frag) : Bool := He.eqO (PySem.W.nsIn K mainGlobals "gcd") (some (some (.builtin "math.gcd")))
def csL (K : PySem.W.Frag) : List (Addr × Addr) := tfT.map (He.cT K)
def diffT (K : PySem.W.Frag) : Bool := decide ((tfT.map fun p => (He.cT K p).2).Nodup) && ((erT.all fun p => errB K p.1 p.2) && moreT K)
def obsK (g : Addr → Option Obj) : He.AlD × Bool := (He.obsD faT fnT (He.frT g asK), diffT (He.frT g asK) && He.tabsB g tfT (He.frT g asK))
structure SaysK (h : Heap) (K : PySem.W.Frag) : Prop where
  d : He.SaysD faT fnT K
  np : (tfT.map fun p => (He.cT K p).2).Nodup
  er : ∀ p ∈ erT, errB K p.1 p.2 = true
  mo : moreT K = true
  hd : ∀ p ∈ tfT, PySem.W.codeHdIn K (He.cT K p).1 (He.cT K p).2 = true
  out : ∀ p ∈ tfT, K.lookup (He.cT K p).2 = none
  empty : ∀ p ∈ tfT, h.get? (He.cT K p).2 = some { cls := .none, data := .fields #[] }
theorem saysK_of {h : Heap} (e : obsK h.get? = (He.valD fnT, true)) : SaysK h (He.frT h.get? asK) := by
  have e1 : He.obsD faT fnT (He.frT h.get? asK) = He.valD fnT := congrArg (fun z : He.AlD × Bool => z.1) e
  have e2 : (diffT (He.frT h.get? asK) && He.tabsB h.get? tfT (He.frT h.get? asK)) = true := congrArg (fun z : He.AlD × Bool => z.2) e
  obtain ⟨h1, h2⟩ := He.ba e2
  have key : ∀ p ∈ tfT, PySem.W.codeHdIn (He.frT h.get? asK) (He.cT (He.frT h.get? asK) p).1 (He.cT (He.frT h.get? asK) p).2 = true ∧ ∃ o, h.get? (He.cT (He.frT h.get? asK) p).2 = some o ∧ He.emptyTab o = true := fun p hp => by
    obtain ⟨h3, h4⟩ := He.ba (List.all_eq_true.mp h2 p hp)
    refine ⟨h3, ?_⟩
    cases q : h.get? (He.cT (He.frT h.get? asK) p).2 with
    | none => rw [q] at h4; cases h4
    | some o => rw [q] at h4; exact ⟨o, rfl, h4⟩
  obtain ⟨h5, h6⟩ := He.ba h1
  obtain ⟨h6, h7⟩ := He.ba h6
  exact ⟨e1, of_decide_eq_true h5, fun p hp => List.all_eq_true.mp h6 p hp, h7, fun p hp => (key p hp).1, (fun p hp => by
    obtain ⟨_, o, q, z⟩ := key p hp
    exact He.frT_none q z), (fun p hp => by
    obtain ⟨_, o, q, z⟩ := key p hp
    rw [q, He.emptyTab_eq z])⟩
section
variable {h : Heap} {K : PySem.W.Frag}
theorem SaysK.hdC (c : SaysK h K) {p : Addr × Addr} (hp : p ∈ csL K) : PySem.W.codeHdIn K p.1 p.2 = true := by
  obtain ⟨q, hq, e⟩ := List.mem_map.mp hp
  rw [← e]
  exact c.hd q hq
theorem SaysK.outC (c : SaysK h K) {p : Addr × Addr} (hp : p ∈ csL K) : K.lookup p.2 = none := by
  obtain ⟨q, hq, e⟩ := List.mem_map.mp hp
  rw [← e]
  exact c.out q hq
theorem SaysK.emptyC (c : SaysK h K) {p : Addr × Addr} (hp : p ∈ csL K) : h.get? p.2 = some { cls := .none, data := .fields #[] } := by
  obtain ⟨q, hq, e⟩ := List.mem_map.mp hp
  rw [← e]
  exact c.empty q hq
end
def hookK : PySem.W.Hook where
  α := He.AlD × Bool
  obs := fun s => obsK s.heap.get?
  val := fun _ => (He.valD fnT, true)
  says := fun _ h => ∃ K : PySem.W.Frag, K.In h ∧ SaysK h K
  of := fun _ _ e => ⟨_, He.frT_in, saysK_of e⟩
  keeps := fun _ _ _ ⟨K, hK, c⟩ k => ⟨K, PySem.W.Frag.In.keeps hK k, ⟨c.d, c.np, c.er, c.mo, c.hd, c.out, fun p hp => k _ _ (c.empty p hp)⟩⟩
def obT (s : PySem.W.SharedT) : He.AlD × Bool := obsK (HandSHeadRun.getT s)
theorem obT_eq (s : PySem.W.SharedT) : obT s = hookK.obs s.abs := by
  have e : HandSHeadRun.getT s = s.abs.heap.get? := funext fun a => HandSHeadRun.getT_eq s a
  unfold obT
  rw [e] <;> rfl
namespace HdR
open PySem PySem.W PySem.Calls PyProof.Rows
abbrev R : OpenRow := OpenLaw.row PySem.Challenge.rw_twoworlds_k09_whole_fewest_questions
abbrev qv : Program := view R.prog [0, 60]
def names : List PySem.Str := (["_wall", "WorldError", "BadWorld", "BadKnown", "NoQuestion", "BadPlan", "BadAnswers", "BadNumber", "BadRow", "UnlikeQuestions", "BadTree", "BadWeight", "is_integer", "is_count", "is_list", "is_pair", "is_name", "is_one_of", "has_just", "first_bad", "check_known", "check_asked", "check_both", "check_lacking", "check_weights", "asked_files", "Search", "is_tree", "depth_of", "fewest"] : List PySem.Str) ++
  (["mean_fewest", "hold", "is_hold", "_has_integers", "Table", "_are_integers", "_first_bad_row", "_law_t_names", "_law_t_rows", "_law_t_some", "_law_start", "_law_draw", "_law_pick", "_law_mixed", "_law_same", "_law_parts", "_law_least", "_law_finds", "_law_cost", "_law_lowest", "_law_holds_right", "_law_defaults_right", "SIGNS", "LONGEST"] : List PySem.Str)
set_option maxHeartbeats 0 in
theorem run (w : World) : HandSHeadRun.RunEqI R qv L2.TB.hookK L2.TB.obT 16000 names w := by
  unfold HandSHeadRun.RunEqI
  kernel_rfl
end HdR
end L2.TB
namespace L2.TB
open PySem PySem.Spec PyProof.Rows
/-! ### the spring of draws -/
structure StrmAt (H : Hp) (l ls : Addr) (cs : List Int) (g k m N : Int) : Prop where
  o : H l = some (.lst [.ref ls, .int g, .int k, .int m])
  c : H ls = some (.lst (cs.map V.int))
  ne : ls ≠ l
  g0 : 0 ≤ g
  k0 : 0 ≤ k
  k1 : k ≤ N
  m0 : 0 ≤ m
  m1 : m < 2147483647
  sz : cs.length ≤ 100
def Strm (H : Hp) (l ls : Addr) (N : Int) : Prop := ∃ cs g k m, StrmAt H l ls cs g k m N
/-- all but the spring is as it was -/
def But (l ls : Addr) (H H' : Hp) : Prop := ∀ b o, b ≠ l → b ≠ ls → H b = some o → H' b = some o
theorem But.refl (l ls : Addr) (H : Hp) : But l ls H H := fun _ _ _ _ e => e
theorem But.trans {l ls : Addr} {H H1 H2 : Hp} (a : But l ls H H1) (b : But l ls H1 H2) : But l ls H H2 := fun c o h1 h2 e => b c o h1 h2 (a c o h1 h2 e)
theorem But.of {l ls : Addr} {H H' : Hp} (a : Same H H') : But l ls H H' := fun c o _ _ e => a c o e
theorem But.upd {l ls a : Addr} {H : Hp} {o : HO} (h : a = l ∨ a = ls) : But l ls H (upd H a o) := fun b u h1 h2 e => by
  have ne : b ≠ a := by rcases h with h | h <;> (subst h; assumption)
  rw [upd_ne ne]; exact e
theorem dp_ints {K : PySem.W.Frag} {H : Hp} : ∀ cs : List Int, DpAll K H (cs.map V.int) (cs.map PyData.int)
  | [] => .nil
  | c :: cs => .cons (.int c) (dp_ints cs)
def spDraw : Sp := fun vs H Q _ => ∃ (l ls : Addr) (many N : Int), vs = [.ref l, .int many] ∧ Strm H l ls N ∧ N ≤ 1000000 ∧ 0 < many ∧ many < 1000 ∧
  ∀ H' r, 0 ≤ r → r < many → Strm H' l ls (N + 1) → But l ls H H' → Q (.int r) H'
theorem scDraw : FnScope ["stream", "many", "cell", "digit", "mixed"] ["stream", "many"] (defScope sDraw) := ⟨rfl, rfl, rfl, by decide +kernel, rfl, by decide +kernel, by decide +kernel⟩
theorem pow_nn (a : Int) (h : 0 ≤ a) : 0 ≤ a ^ (Int.toNat 5) := Int.pow_nonneg h
theorem at0 {a b c d : V} : atI [a, b, c, d] 0 = some a := rfl
theorem at1 {a b c d : V} : atI [a, b, c, d] 1 = some b := rfl
theorem at2 {a b c d : V} : atI [a, b, c, d] 2 = some c := rfl
theorem at3 {a b c d : V} : atI [a, b, c, d] 3 = some d := rfl
theorem draw_end {A B C many : Int} (h : 0 < many) : 0 ≤ A % B % many ∧ A % B % many < many :=
  ⟨Int.emod_nonneg _ (by omega), Int.emod_lt_of_pos _ h⟩
section
variable {P : Program} {w : World} {K : PySem.W.Frag} {mg : Str → Option Value} {base : Heap} {f : Addr} {fd : FuncData}
theorem ok_draw (F : Fun K "_law_draw" "_law_draw" sDraw f fd) (gI : mg "int" = none) : FnOk P w K mg base CX0 1 f fd ["stream", "many"] spDraw := by
  refine F.ok scDraw (fun vs H Q E h => by obtain ⟨l, ls, many, N, e, _⟩ := h; rw [e]; rfl) fun cdv A outer s H vs Q E hr hsp => ?_
  obtain ⟨l, ls, many, N, rfl, ⟨cs, g, k, m, S⟩, hN, h0, h1, hq⟩ := hsp
  have nd := scDraw.nd
  have hu := hu_of hr
  have hu64 := hr.units
  obtain ⟨tl, ptl, htl⟩ : ∃ t, PSs (cxOf CX0 P w K mg base ["stream", "many", "cell", "digit", "mixed"] "_law_draw" (defScope sDraw) f cdv A outer s H E).nox ((defBody sDraw).drop 2) t ∧
      ∀ (H1 : Hp) (c : Option V) (cs : List Int) (g k m : Int), StrmAt H1 l ls cs g k m (N + 1) → But l ls H H1 →
        t { nx := fun _ H' => Q .non H', rt := Q } [some (.ref l), some (.int many), c, none, none] H1 := by
    refine ⟨_, pss_cons (ps_if (pt_cmpR op_gt (pe_ix ix_list (pv 0) pe_int (fun _ _ => rfl)) pe_int (nomark _))
      (pss_cons (ps_set (i := 3) nd rfl (Or.inl rfl) (pe_op op_mod (pe_callTy call_int1 rfl gI boot_int (pa_cons (pe_ix ix_list (pv 0) pe_int (fun _ _ => rfl)) pa_nil)) (pv 1)))
      (pss_cons (ps_asg (pe_op op_fdiv (pe_ix ix_list (pv 0) pe_int (fun _ _ => rfl)) (pv 1)) (pg_sub (pv 0) pe_int set_list))
      (pss_one (ps_ret (pv 3)))))
      pss_nil)
    (pss_cons (ps_set (i := 4) nd rfl (Or.inl rfl) (pe_op op_mod (pe_callTy call_int1 rfl gI boot_int (pa_cons (pe_op op_pow (pe_op op_add (pe_op op_add (pe_ix ix_list (pv 0) pe_int (fun _ _ => rfl)) (pe_op op_mul pe_int (pe_ix ix_list (pv 0) pe_int (fun _ _ => rfl)))) pe_int) pe_int) pa_nil)) pe_int))
    (pss_one (ps_ret (pe_op op_mod (pe_op op_mod (pe_callTy call_int1 rfl gI boot_int (pa_cons (pe_op op_pow (pe_op op_add (pe_op op_add (pe_op op_mul (pv 4) pe_int) (pe_op op_mul pe_int (pe_ix ix_list (pv 0) pe_int (fun _ _ => rfl)))) pe_int) pe_int) pa_nil)) pe_int) (pv 1))))), fun H1 c cs g k m S hB => ?_⟩
    refine ⟨_, rfl, _, _, _, _, rfl, rfl, SqL.of S.o, at1, _, _, rfl, rfl, _, rfl, ite2 (fun e => ?_) (fun e => ?_)⟩
    · refine ⟨_, rfl, _, _, _, _, rfl, rfl, SqL.of S.o, at1, .inl ⟨_, rfl, ?_⟩⟩
      refine ⟨_, rfl, _, _, rfl, rfl, h0, ?_⟩
      refine ⟨_, rfl, _, _, _, _, rfl, rfl, SqL.of S.o, at1, _, rfl, _, _, rfl, rfl, ⟨h0, by omega⟩, ?_⟩
      refine ⟨_, rfl, _, _, _, _, rfl, rfl, S.o, rfl, ?_⟩
      refine ⟨_, rfl, ?_⟩
      refine hq _ _ (Int.emod_nonneg _ (by omega)) (Int.emod_lt_of_pos _ h0) ⟨cs, g / many, k, m, ⟨upd_same, ?_, S.ne, Int.ediv_nonneg S.g0 (by omega), S.k0, S.k1, S.m0, S.m1, S.sz⟩⟩ (hB.trans (But.upd (.inl rfl)))
      rw [upd_ne S.ne]; exact S.c
    · have hk := S.k1
      have hk0 := S.k0
      have hm := S.m0
      have hm1 := S.m1
      refine ⟨_, rfl, _, _, _, _, rfl, rfl, SqL.of S.o, at3, _, rfl, _, _, _, _, rfl, rfl, SqL.of S.o, at2, _, _, rfl, rfl, .inl ⟨by decide, by decide⟩, _, _, rfl, rfl, _, _, rfl, rfl, _, _, rfl, rfl, ⟨by decide, by decide, ?_⟩, ?_⟩
      · omega
      refine .inl ⟨_, rfl, _, _, rfl, rfl, (by show (0 : Int) < 2147483629; decide), ?_⟩
      have e1 := Int.emod_nonneg ((m + 7919 * k + 104729) ^ Int.toNat 5) (show (2147483629 : Int) ≠ 0 by decide)
      have e2 := Int.emod_lt_of_pos ((m + 7919 * k + 104729) ^ Int.toNat 5) (show (0 : Int) < 2147483629 by decide)
      generalize (m + 7919 * k + 104729) ^ Int.toNat 5 % 2147483629 = z at e1 e2 ⊢
      refine ⟨_, rfl, _, _, rfl, rfl, .inr ⟨by decide, by decide⟩, _, rfl, _, _, _, _, rfl, rfl, SqL.of S.o, at2, _, _, rfl, rfl, .inl ⟨by decide, by decide⟩, _, _, rfl, rfl, _, _, rfl, rfl, _, _, rfl, rfl, ⟨by decide, by decide, ?_⟩, ?_⟩
      · omega
      refine .inl ⟨_, rfl, _, _, rfl, rfl, (by show (0 : Int) < 1000000007; decide), _, rfl, _, _, rfl, rfl, h0, ?_⟩
      exact hq _ _ (Int.emod_nonneg _ (by omega)) (Int.emod_lt_of_pos _ h0) ⟨cs, g, k, m, S⟩ hB
  refine ⟨_, pss_cons (ps_asg (pe_op op_add (pe_ix ix_list (pv 0) pe_int (fun _ _ => rfl)) pe_int) (pg_sub (pv 0) pe_int set_list))
    (pss_cons (ps_if (PW.pt (pw_and (pt_cmpR op_eq (pe_ix ix_list (pv 0) pe_int (fun _ _ => rfl)) pe_int (nomark _))
        (pw_and1 (pt_cmpR (op_neD hu64) (pe_ix ix_list (pv 0) pe_int (fun _ _ => rfl)) (pe_lst pa_nil) (nomark _)))))
      (pss_cons (ps_set (i := 2) nd rfl (Or.inl rfl) (pe_bm PySem.F.plainAttrs_list PySem.F.slot_list_pop PySem.F.type_list_pop mt_popAt (pe_ix ix_list (pv 0) pe_int (fun _ _ => rfl)) (pa_cons pe_int pa_nil)))
      (pss_cons (ps_asg (pe_op op_mod (pe_callTy call_int1 rfl gI boot_int (pa_cons (pe_op op_add (pe_op op_add (pe_op op_mul (pe_ix ix_list (pv 0) pe_int (fun _ _ => rfl)) pe_int) (pv 2)) pe_int) pa_nil)) pe_int) (pg_sub (pv 0) pe_int set_list))
      (pss_one (ps_asg (pe_ifExp (pt_cmpR op_ge (pv 2) (pe_op op_pow pe_int pe_int) (nomark _)) (pv 2) pe_int) (pg_sub (pv 0) pe_int set_list)))))
      pss_nil) ptl), ?_⟩
  refine ⟨_, rfl, _, _, _, _, rfl, rfl, SqL.of S.o, at2, _, _, rfl, rfl, _, rfl, _, _, _, _, rfl, rfl, S.o, rfl, ?_⟩
  have S1 : StrmAt (upd H l (.lst [.ref ls, .int g, .int (k + 1), .int m])) l ls cs g (k + 1) m (N + 1) :=
    ⟨upd_same, by rw [upd_ne S.ne]; exact S.c, S.ne, S.g0, by have := S.k0; omega, by have := S.k1; omega, S.m0, S.m1, S.sz⟩
  have B1 : But l ls H (upd H l (.lst [.ref ls, .int g, .int (k + 1), .int m])) := But.upd (.inl rfl)
  refine ⟨_, rfl, _, _, _, _, rfl, rfl, SqL.of S1.o, at1, rfl, _, rfl, ite2 (fun e => ?_) (fun e => ?_)⟩
  · refine ⟨_, rfl, _, _, _, _, rfl, rfl, SqL.of S1.o, at0, Nat.zero_le _, fun q nq => ?_⟩
    have ql : q ≠ l := by
      intro z; rw [z, upd_same] at nq; cases nq
    have qs : q ≠ ls := by
      intro z; rw [z, upd_ne S.ne] at nq; rw [S.c] at nq; cases nq
    have S2 : StrmAt (upd (upd H l (.lst [.ref ls, .int g, .int (k + 1), .int m])) q (.lst [])) l ls cs g (k + 1) m (N + 1) :=
      ⟨by rw [upd_ne (Ne.symm ql)]; exact S1.o, by rw [upd_ne (Ne.symm qs)]; exact S1.c, S.ne, S1.g0, S1.k0, S1.k1, S1.m0, S1.m1, S1.sz⟩
    have B2 : But l ls H (upd (upd H l (.lst [.ref ls, .int g, .int (k + 1), .int m])) q (.lst [])) := B1.trans (But.of fun b o eb => by
      rw [upd_ne (ne_of_none eb nq)]; exact eb)
    refine ⟨.list (cs.map .int), .list [], .lst (SqL.of S2.c) (dp_ints cs), .lst (SqL.of upd_same) .nil, PySem.W.shaped_ints cs, by decide, ?_⟩
    cases cs with
    | nil =>
      refine ⟨_, rfl, iteF ?_⟩
      exact htl _ none [] g (k + 1) m S2 B2
    | cons c cs =>
      refine ⟨_, rfl, iteT ?_⟩
      refine ⟨_, rfl, _, _, _, _, rfl, rfl, SqL.of S2.o, at0, .inl ⟨rfl, _, SqL.of S2.c⟩, ?_⟩
      have ix0 : ixN ((c :: cs).map V.int).length 0 = some 0 := by
        simp [ixN]
      refine ⟨ls, _, 0, 0, .int c, rfl, rfl, S2.c, by decide, by decide, (ixN_seq ix0).1, rfl, ?_⟩
      have S3 : StrmAt (upd (upd (upd H l (.lst [.ref ls, .int g, .int (k + 1), .int m])) q (.lst [])) ls (.lst (cs.map V.int))) l ls cs g (k + 1) m (N + 1) :=
        ⟨by rw [upd_ne (Ne.symm S.ne)]; exact S2.o, upd_same, S.ne, S2.g0, S2.k0, S2.k1, S2.m0, S2.m1, by have := S2.sz; simp only [List.length_cons] at this; omega⟩
      have B3 := B2.trans (But.upd (l := l) (ls := ls) (a := ls) (H := upd (upd H l (.lst [.ref ls, .int g, .int (k + 1), .int m])) q (.lst [])) (o := .lst (cs.map V.int)) (.inr rfl))
      have hm0 := S.m0
      have hm1 := S.m1
      refine ⟨_, rfl, _, _, _, _, rfl, rfl, SqL.of S3.o, at3, _, _, rfl, rfl, .inl ⟨by omega, by omega⟩, _, rfl, _, _, rfl, rfl, _, _, rfl, rfl, .inl ⟨_, rfl, _, _, rfl, rfl, (by show (0 : Int) < 2147483647; decide), ?_⟩⟩
      refine ⟨_, rfl, _, _, _, _, rfl, rfl, S3.o, rfl, ?_⟩
      have S4 : StrmAt (upd (upd (upd (upd H l (.lst [.ref ls, .int g, .int (k + 1), .int m])) q (.lst [])) ls (.lst (cs.map V.int))) l (.lst [.ref ls, .int g, .int (k + 1), .int ((m * 8191 + c + 3) % 2147483647)])) l ls cs g (k + 1) ((m * 8191 + c + 3) % 2147483647) (N + 1) :=
        ⟨upd_same, by rw [upd_ne S.ne]; exact S3.c, S.ne, S3.g0, S3.k0, S3.k1, Int.emod_nonneg _ (by decide), Int.emod_lt_of_pos _ (by decide), S3.sz⟩
      have B4 := B3.trans (But.upd (l := l) (ls := ls) (a := l) (o := .lst [.ref ls, .int g, .int (k + 1), .int ((m * 8191 + c + 3) % 2147483647)]) (.inl rfl))
      refine ⟨_, rfl, _, _, rfl, rfl, ⟨by decide, by decide, by decide⟩, _, _, rfl, rfl, _, rfl, ite2 (fun e4 => ?_) (fun e4 => ?_)⟩
      · refine ⟨_, rfl, _, rfl, _, _, _, _, rfl, rfl, S4.o, rfl, ?_⟩
        have hc : (0 : Int) ≤ c := by
          have z := of_decide_eq_true e4
          have z2 : (0 : Int) ≤ 10 ^ (Int.toNat 18) := Int.pow_nonneg (by decide)
          omega
        exact htl _ (some (.int c)) cs c (k + 1) ((m * 8191 + c + 3) % 2147483647)
          ⟨upd_same, by rw [upd_ne S.ne]; exact S4.c, S.ne, hc, S4.k0, S4.k1, S4.m0, S4.m1, S4.sz⟩ (B4.trans (But.upd (.inl rfl)))
      · refine ⟨_, rfl, _, _, _, _, rfl, rfl, S4.o, rfl, ?_⟩
        exact htl _ (some (.int c)) cs 0 (k + 1) ((m * 8191 + c + 3) % 2147483647)
          ⟨upd_same, by rw [upd_ne S.ne]; exact S4.c, S.ne, by decide, S4.k0, S4.k1, S4.m0, S4.m1, S4.sz⟩ (B4.trans (But.upd (.inl rfl)))
  · refine iteF ?_
    exact htl _ none cs g (k + 1) m S1 B1
def spStart (K : PySem.W.Frag) : Sp := fun vs H Q _ => ∃ (a : Addr) (ns : List Int), vs = [.ref a] ∧ SqL K H a (ns.map V.int) ∧ ns.length ≤ 100 ∧
  ∀ H' l ls, H l = none → Same H H' → Strm H' l ls 0 → H ls = none → Q (.ref l) H'
theorem scStart : FnScope ["script"] ["script"] (defScope sStart) := ⟨rfl, rfl, rfl, by decide +kernel, rfl, by decide +kernel, by decide +kernel⟩
theorem ok_start (F : Fun K "_law_start" "_law_start" sStart f fd) (gL : mg "list" = none) : FnOk P w K mg base CX0 1 f fd ["script"] (spStart K) := by
  refine F.ok scStart (fun vs H Q E h => by obtain ⟨a, ns, e, _⟩ := h; rw [e]; rfl) fun cdv A outer s H vs Q E hr hsp => ?_
  obtain ⟨a, ns, rfl, hS, hn, hq⟩ := hsp
  refine ⟨_, pss_one (ps_ret (pe_lst (pa_cons (pe_callTy call_list_of rfl gL (by decide +kernel) (pa_cons (pv 0) pa_nil)) (pa_cons pe_int (pa_cons pe_int (pa_cons pe_int pa_nil)))))), ?_⟩
  refine ⟨_, rfl, _, _, rfl, .inl hS, fun ls hls => ⟨by rw [sizeLine_eq]; show 4 ≤ _; omega, fun l hl => ?_⟩⟩
  have ne : ls ≠ l := by
    intro z; rw [← z, upd_same] at hl; cases hl
  have hl2 : H l = none := by rw [upd_ne (Ne.symm ne)] at hl; exact hl
  exact hq _ l ls hl2 (fun b o e => by rw [upd_ne (ne_of_none e hl2), upd_ne (ne_of_none e hls)]; exact e)
    ⟨ns, 0, 0, 11, ⟨upd_same, by rw [upd_ne ne, upd_same], ne, by decide, by decide, by decide, by decide, by decide, hn⟩⟩ hls
def spPick (K : PySem.W.Frag) : Sp := fun vs H Q _ => ∃ (l ls c : Addr) (xs : List V) (N : Int), vs = [.ref l, .ref c] ∧ Strm H l ls N ∧ N ≤ 1000000 ∧
  c ≠ l ∧ c ≠ ls ∧ H c = some (.lst xs) ∧ 0 < xs.length ∧ xs.length < 1000 ∧
  ∀ H' x, x ∈ xs → Strm H' l ls (N + 1) → But l ls H H' → Q x H'
theorem scPick : FnScope ["stream", "some"] ["stream", "some"] (defScope sPick) := ⟨rfl, rfl, rfl, by decide +kernel, rfl, by decide +kernel, by decide +kernel⟩
theorem ok_pick {fD : Addr} {fdD : FuncData} (F : Fun K "_law_pick" "_law_pick" sPick f fd) (FD : Fun K "_law_draw" "_law_draw" sDraw fD fdD)
    (gD : mg "_law_draw" = some (.ref fD)) (gI : mg "int" = none) (gN : mg "len" = none) : FnOk P w K mg base CX0 2 f fd ["stream", "some"] (spPick K) := by
  have G : FnOk P w K mg base CX0 1 fD fdD ["stream", "many"] spDraw := ok_draw FD gI
  have b := FD.binds (ps := ["stream", "many"]) fun _ _ _ _ _ _ us hl => match us, hl with | [_, _], _ => rfl
  refine F.ok scPick (fun vs H Q E h => by obtain ⟨l, ls, c, xs, N, e, _⟩ := h; rw [e]; rfl) fun cdv A outer s H vs Q E hr hsp => ?_
  obtain ⟨l, ls, c, xs, N, rfl, hS, hN, n1, n2, hc, h0, h1, hq⟩ := hsp
  refine ⟨_, pss_one (ps_ret (pe_ix ix_list (pv 1) (pe_call G hr rfl gD FD.kp b .nil pass0 (pa_cons (pv 0) (pa_cons (pe_callB call_len rfl gN boot_len (pa_cons (pv 1) pa_nil)) pa_nil))) (fun _ _ => rfl))), ?_⟩
  refine ⟨_, rfl, _, rfl, _, rfl, _, xs.length, rfl, .inl ⟨_, SqL.of hc, rfl⟩, ?_⟩
  refine ⟨l, ls, _, N, rfl, hS, hN, by omega, by omega, fun H' r r0 r1 S' B' => ?_⟩
  have hr2 : r.toNat < xs.length := by omega
  refine ⟨_, _, _, xs[r.toNat], rfl, rfl, SqL.of (B' c _ n1 n2 hc), ?_, hq H' _ (List.getElem_mem _) S' B'⟩
  have e : ((r.toNat : Nat) : Int) = r := by omega
  have z := atI_nat (xs := xs) (j := r.toNat) (v := xs[r.toNat]) (by simp)
  rw [e] at z
  exact z
end
end L2.TB
namespace L2.TB
open PySem PySem.Spec PyProof.Rows
theorem same_new {H : Hp} {p : Addr} {o : HO} (n : H p = none) : Same H (upd H p o) := fun c u z => by rw [upd_ne (ne_of_none z n)]; exact z
theorem Strm.same {H H' : Hp} {l ls : Addr} {N : Int} (h : Strm H l ls N) (s : Same H H') : Strm H' l ls N := by
  obtain ⟨cs, g, k, m, S⟩ := h
  exact ⟨cs, g, k, m, s _ _ S.o, s _ _ S.c, S.ne, S.g0, S.k0, S.k1, S.m0, S.m1, S.sz⟩
theorem Strm.some {H : Hp} {l ls : Addr} {N : Int} (h : Strm H l ls N) : (∃ o, H l = some o) ∧ ∃ o, H ls = some o := by
  obtain ⟨cs, g, k, m, S⟩ := h
  exact ⟨⟨_, S.o⟩, ⟨_, S.c⟩⟩
/-- what was not there is not the spring -/
theorem Strm.apart {H H' : Hp} {l ls p : Addr} {N : Int} (h : Strm H l ls N) (s : Same H H') (n : H' p = none) : p ≠ l ∧ p ≠ ls := by
  obtain ⟨⟨o, e⟩, ⟨o', e'⟩⟩ := h.some
  exact ⟨(fun z => by rw [z, s _ _ e] at n; cases n), (fun z => by rw [z, s _ _ e'] at n; cases n)⟩
def spPickS : Sp := fun vs H Q _ => ∃ (l ls : Addr) (x : Str) (N : Int), vs = [.ref l, .str x] ∧ Strm H l ls N ∧ N ≤ 1000000 ∧ 0 < x.cps.size ∧ x.cps.size < 1000 ∧
  ∀ H' c, c ∈ x.cps.toList → Strm H' l ls (N + 1) → But l ls H H' → Q (.str ⟨#[c]⟩) H'
/-- a mixed list: what was in it, in some order -/
def spMixed (K : PySem.W.Frag) : Sp := fun vs H Q _ => ∃ (l ls c : Addr) (xs : List V) (N : Int), vs = [.ref l, .ref c] ∧ Strm H l ls N ∧ N ≤ 900000 ∧ SqL K H c xs ∧ xs.length < 1000 ∧
  ∀ H' q ys, ys.Perm xs → H q = none → H' q = some (.lst ys) → Strm H' l ls (N + xs.length) → But l ls H H' → Q (.ref q) H'
theorem scMixed : FnScope ["stream", "some", "left", "k"] ["stream", "some"] (defScope sMixed) := ⟨rfl, rfl, rfl, by decide +kernel, rfl, by decide +kernel, by decide +kernel⟩
theorem pop_perm : ∀ (l : List V) (k : Nat) (y : V), l[k]? = some y → (y :: l.eraseIdx k).Perm l
  | [], k, y, h => by simp at h
  | a :: l, 0, y, h => by
    obtain rfl : a = y := by simpa using h
    exact List.Perm.refl _
  | a :: l, k + 1, y, h => by
    have z := pop_perm l k y (by simpa using h)
    exact (List.Perm.swap a y _).trans (z.cons a)
section
variable {P : Program} {w : World} {K : PySem.W.Frag} {mg : Str → Option Value} {base : Heap} {f fD fP fM : Addr} {fd fdD fdP fdM : FuncData}
theorem ok_pickS (F : Fun K "_law_pick" "_law_pick" sPick f fd) (FD : Fun K "_law_draw" "_law_draw" sDraw fD fdD)
    (gD : mg "_law_draw" = some (.ref fD)) (gI : mg "int" = none) (gN : mg "len" = none) : FnOk P w K mg base CX0 2 f fd ["stream", "some"] spPickS := by
  have G : FnOk P w K mg base CX0 1 fD fdD ["stream", "many"] spDraw := ok_draw FD gI
  have b := FD.binds (ps := ["stream", "many"]) fun _ _ _ _ _ _ us hl => match us, hl with | [_, _], _ => rfl
  refine F.ok scPick (fun vs H Q E h => by obtain ⟨l, ls, x, N, e, _⟩ := h; rw [e]; rfl) fun cdv A outer s H vs Q E hr hsp => ?_
  obtain ⟨l, ls, x, N, rfl, hS, hN, h0, h1, hq⟩ := hsp
  refine ⟨_, pss_one (ps_ret (pe_ix ix_str (pv 1) (pe_call G hr rfl gD FD.kp b .nil pass0 (pa_cons (pv 0) (pa_cons (pe_callB call_len rfl gN boot_len (pa_cons (pv 1) pa_nil)) pa_nil))) (fun _ _ => rfl))), ?_⟩
  have hz : x.length ≤ sizeLine := by rw [sizeLine_eq]; show x.cps.size ≤ _; omega
  have hl : ((x.length : Nat) : Int) = (x.cps.size : Int) := rfl
  refine ⟨_, rfl, _, rfl, _, rfl, _, x.length, rfl, ⟨hz, rfl⟩, ?_⟩
  refine ⟨l, ls, _, N, rfl, hS, hN, by omega, by omega, fun H' r r0 r1 S' B' => ?_⟩
  have hr2 : r.toNat < x.cps.toList.length := by rw [Array.length_toList]; omega
  refine ⟨x, r, x.cps.toList[r.toNat], rfl, rfl, hz, ?_, hq H' _ (List.getElem_mem _) S' B'⟩
  have e : ((r.toNat : Nat) : Int) = r := by omega
  have z := atI_nat (xs := x.cps.toList) (j := r.toNat) (v := x.cps.toList[r.toNat]) (by simp)
  rw [e] at z
  exact z
theorem ok_mixed (F : Fun K "_law_mixed" "_law_mixed" sMixed f fd) (FD : Fun K "_law_draw" "_law_draw" sDraw fD fdD)
    (gD : mg "_law_draw" = some (.ref fD)) (gI : mg "int" = none) (gN : mg "len" = none) (gL : mg "list" = none) (gR : mg "range" = none) : FnOk P w K mg base CX0 2 f fd ["stream", "some"] (spMixed K) := by
  have G : FnOk P w K mg base CX0 1 fD fdD ["stream", "many"] spDraw := ok_draw FD gI
  have b := FD.binds (ps := ["stream", "many"]) fun _ _ _ _ _ _ us hl => match us, hl with | [_, _], _ => rfl
  refine F.ok scMixed (fun vs H Q E h => by obtain ⟨l, ls, c, xs, N, e, _⟩ := h; rw [e]; rfl) fun cdv A outer s H vs Q E hr hsp => ?_
  obtain ⟨l, ls, c, xs, N, rfl, hS, hN, hc, h1, hq⟩ := hsp
  have nd := scMixed.nd
  refine ⟨_, pss_cons (ps_set (i := 2) nd rfl (Or.inr rfl) (pe_callTy call_list_of rfl gL (by decide +kernel) (pa_cons (pv 1) pa_nil)))
    (pss_one (ps_ret (pe_lc (own := [("k", 3)]) (tt := tYes) (te := tBM K "list" rPopAt (tVar 2) (tCons (tCall spDraw [] E0 (tCons (tVar 0) (tCons (tCB (rLen K) (tCons (tVar 2) tNil)) tNil))) tNil)) rfl nd (pi_range1 rfl gR (pa_cons (pe_callB call_len rfl gN boot_len (pa_cons (pv 2) pa_nil)) pa_nil)) (blkOk_by (N := ["stream", "some", "left", "k"]) (sc := defScope sMixed) (by decide +kernel))
      (fun _ _ _ _ _ => pg_name (i := 3) nd rfl (Or.inl rfl)) (fun _ _ _ _ _ => pts_nil)
      (fun _ _ _ _ _ => pe_bm PySem.F.plainAttrs_list PySem.F.slot_list_pop PySem.F.type_list_pop mt_popAt (pv 2) (pa_cons (pe_call G hr rfl gD FD.kp b .nil pass0 (pa_cons (pv 0) (pa_cons (pe_callB call_len rfl gN boot_len (pa_cons (pv 2) pa_nil)) pa_nil))) pa_nil))))), ?_⟩
  refine ⟨_, rfl, c, xs, rfl, .inl hc, fun p np => ?_⟩
  have kp := same_new (o := .lst xs) np
  have ap := hS.apart (Same.refl _) np
  refine ⟨_, rfl, .ref p, xs.length, rfl, .inl ⟨_, SqL.of upd_same, rfl⟩, _, rfl, by omega, by omega, fun q nq => ?_⟩
  have aq := hS.apart kp nq
  have pq : p ≠ q := fun z => by rw [← z, upd_same] at nq; cases nq
  have nq0 : H q = none := Same.free kp nq
  refine lc_range (n := xs.length) (fun i H' => ∃ done rest, H' q = some (.lst done) ∧ H' p = some (.lst rest) ∧ done.length = i ∧ (done ++ rest).Perm xs ∧ Strm H' l ls (N + i) ∧ But l ls H H')
    ⟨[], xs, upd_same, by rw [upd_ne pq]; exact upd_same, rfl, List.Perm.refl _, by simpa using ((hS.same kp).same (same_new nq)), But.of (kp.trans (same_new nq))⟩ ?_ ?_
  · rintro i H3 hi ⟨done, rest, oq, op, ln, pm, S3, B3⟩
    have hlen : done.length + rest.length = xs.length := by rw [← pm.length_eq, List.length_append]
    refine ⟨rfl, ?_⟩
    refine ⟨_, rfl, .inl ⟨rfl, _, SqL.of op⟩, _, rfl, _, rfl, .ref p, rest.length, rfl, .inl ⟨_, SqL.of op, rfl⟩, ?_⟩
    refine ⟨l, ls, _, _, rfl, S3, by omega, by omega, by omega, fun H4 r r0 r1 S4 B4 => ?_⟩
    have hr2 : r.toNat < rest.length := by omega
    have er : ((r.toNat : Nat) : Int) = r := by omega
    have ix0 : ixN rest.length r = some r.toNat := by
      unfold ixN
      rw [if_pos r0, if_pos r1]
    refine ⟨p, rest, r, r.toNat, rest[r.toNat], rfl, rfl, B4 _ _ ap.1 ap.2 op, by omega, by omega, (ixN_seq ix0).1, by simp, done, ?_, (by rw [sizeLine_eq]; omega), done ++ [rest[r.toNat]], rest.eraseIdx r.toNat, upd_same, ?_, by simp [ln], ?_, ?_, ?_⟩
    · rw [upd_ne (Ne.symm pq)]; exact B4 _ _ aq.1 aq.2 oq
    · rw [upd_ne pq, upd_same]
    · have z := pop_perm rest r.toNat rest[r.toNat] (by simp)
      rw [List.append_assoc]
      exact (List.Perm.append_left done z).trans pm
    · obtain ⟨cs, g, k, m, S⟩ := S4
      have e1 : N + ((i + 1 : Nat) : Int) = N + (i : Int) + 1 := by omega
      rw [e1]
      exact ⟨cs, g, k, m, by rw [upd_ne (Ne.symm aq.1), upd_ne (Ne.symm ap.1)]; exact S.o, by rw [upd_ne (Ne.symm aq.2), upd_ne (Ne.symm ap.2)]; exact S.c, S.ne, S.g0, S.k0, S.k1, S.m0, S.m1, S.sz⟩
    · intro b o h1 h2 e
      have nb : b ≠ q := ne_of_none e nq0
      have nb2 : b ≠ p := ne_of_none e np
      rw [upd_ne nb, upd_ne nb2]
      exact B4 _ _ h1 h2 (B3 _ _ h1 h2 e)
  · rintro H3 ⟨done, rest, oq, op, ln, pm, S3, B3⟩
    have hlen : done.length + rest.length = xs.length := by rw [← pm.length_eq, List.length_append]
    have er : rest = [] := List.eq_nil_of_length_eq_zero (by omega)
    subst er
    rw [List.append_nil] at pm
    exact hq H3 q done pm nq0 oq S3 B3
end
end L2.TB
namespace L2.TB
open PySem PySem.Spec PyProof.Rows
theorem Strm.mono {H : Hp} {l ls : Addr} {N M : Int} (h : Strm H l ls N) (le : N ≤ M) : Strm H l ls M := by
  obtain ⟨cs, g, k, m, S⟩ := h
  exact ⟨cs, g, k, m, S.o, S.c, S.ne, S.g0, S.k0, by have := S.k1; omega, S.m0, S.m1, S.sz⟩
/-- some of a mixed list -/
def spSome (K : PySem.W.Frag) : Sp := fun vs H Q _ => ∃ (l ls c : Addr) (xs : List V) (N : Int), vs = [.ref l, .ref c] ∧ Strm H l ls N ∧ N ≤ 800000 ∧ H c = some (.lst xs) ∧ c ≠ l ∧ c ≠ ls ∧ xs.length < 100 ∧
  ∀ H' q ys zs, (ys ++ zs).Perm xs → H q = none → H' q = some (.lst ys) → Strm H' l ls (N + 200) → But l ls H H' → Q (.ref q) H'
theorem scSome : FnScope ["stream", "names"] ["stream", "names"] (defScope sSome) := ⟨rfl, rfl, rfl, by decide +kernel, rfl, by decide +kernel, by decide +kernel⟩
theorem cut_to (xs : List V) (r : Int) (h0 : 0 ≤ r) (h1 : r < xs.length + 1) : cutV xs none (some r) = xs.take r.toNat := by
  have e1 : HT.sIx xs.length 0 none = 0 := rfl
  have e2 : HT.sIx xs.length xs.length (some r) = r.toNat := by
    unfold HT.sIx
    simp only []
    rw [if_neg (show ¬ r < 0 by omega)]
    omega
  unfold cutV
  rw [e1, e2]; simp
section
variable {P : Program} {w : World} {K : PySem.W.Frag} {mg : Str → Option Value} {base : Heap} {f fD fP fM : Addr} {fd fdD fdP fdM : FuncData}
theorem ok_some (F : Fun K "_law_t_some" "_law_t_some" sSome f fd) (FM : Fun K "_law_mixed" "_law_mixed" sMixed fM fdM) (gM : mg "_law_mixed" = some (.ref fM)) (FD : Fun K "_law_draw" "_law_draw" sDraw fD fdD)
    (gD : mg "_law_draw" = some (.ref fD)) (gI : mg "int" = none) (gN : mg "len" = none) (gL : mg "list" = none) (gR : mg "range" = none) : FnOk P w K mg base CX0 3 f fd ["stream", "names"] (spSome K) := by
  have G : FnOk P w K mg base CX0 1 fD fdD ["stream", "many"] spDraw := ok_draw FD gI
  have b := FD.binds (ps := ["stream", "many"]) fun _ _ _ _ _ _ us hl => match us, hl with | [_, _], _ => rfl
  have GM : FnOk P w K mg base CX0 2 fM fdM ["stream", "some"] (spMixed K) := ok_mixed FM FD gD gI gN gL gR
  have bM := FM.binds (ps := ["stream", "some"]) fun _ _ _ _ _ _ us hl => match us, hl with | [_, _], _ => rfl
  refine F.ok scSome (fun vs H Q E h => by obtain ⟨l, ls, c, xs, N, e, _⟩ := h; rw [e]; rfl) fun cdv A outer s H vs Q E hr hsp => ?_
  obtain ⟨l, ls, c, xs, N, rfl, hS, hN, hc, cl, cls, h1, hq⟩ := hsp
  refine ⟨_, pss_one (ps_ret (pe_slice sl_list (pe_call GM hr rfl gM FM.kp bM .nil pass0 (pa_cons (pv 0) (pa_cons (pv 1) pa_nil))) po_none (po_some (pe_call G (hr.mono (by decide)) rfl gD FD.kp b .nil pass0 (pa_cons (pv 0) (pa_cons (pe_op op_add (pe_callB call_len rfl gN boot_len (pa_cons (pv 1) pa_nil)) pe_int) pa_nil)))))), ?_⟩
  refine ⟨_, rfl, _, rfl, l, ls, c, xs, N, rfl, hS, by omega, SqL.of hc, by omega, fun H1 q ys pm nq oq S1 B1 => ?_⟩
  have aq := hS.apart (Same.refl _) nq
  have hcl := B1 _ _ cl cls hc
  refine ⟨_, rfl, _, rfl, .ref c, xs.length, rfl, .inl ⟨_, SqL.of hcl, rfl⟩, _, _, rfl, rfl, ?_⟩
  refine ⟨l, ls, _, _, rfl, S1, by omega, by omega, by omega, fun H2 r r0 r1 S2 B2 => ?_⟩
  refine ⟨r, rfl, q, ys, rfl, SqL.of (B2 _ _ aq.1 aq.2 oq), fun p np => ?_⟩
  have ly : ys.length = xs.length := pm.length_eq
  rw [cut_to ys r r0 (by rw [ly]; exact r1)]
  refine hq _ p (ys.take r.toNat) (ys.drop r.toNat) (by rw [List.take_append_drop]; exact pm) ?_ upd_same ((S2.same (same_new np)).mono (by omega)) ((B1.trans B2).trans (But.of (same_new np)))
  have ap := S2.apart (Same.refl _) np
  cases e : H p with
  | none => rfl
  | some o => have z := (B1.trans B2) _ _ ap.1 ap.2 e; rw [z] at np; cases np
end
end L2.TB
namespace L2.TB
open PySem PySem.Spec PyProof.Rows
def signsL : List Nat := (Str.ofString "abcdefghijklmnopqrstuvwxyz0123456789.").cps.toList
/-- a name that is_name lets pass -/
def NmOk (x : Str) : Prop := 1 ≤ x.cps.toList.length ∧ x.cps.toList.length ≤ 40 ∧ ∀ c ∈ x.cps.toList, c ∈ signsL
def wordL : List Nat := (Str.ofString "abcxyz019").cps.toList
def letL : List Nat := (Str.ofString "abcdefghijklmnopqrstuvwxyz").cps.toList
/-- a name as the law draws it -/
def NmS (x : Str) : Prop := NmOk x ∧ x.cps.toList.length ≤ 3
theorem word_sub : ∀ c ∈ wordL, c ∈ signsL := by decide +kernel
theorem let_sub : ∀ c ∈ letL, c ∈ signsL := by decide +kernel
theorem join_flat : ∀ cs : List Nat, TL.joinL [] (cs.map fun c => [c]) = cs
  | [] => rfl
  | [c] => rfl
  | c :: d :: r => by
    show [c] ++ ([] ++ TL.joinL [] ((d :: r).map fun c => [c])) = _
    rw [join_flat (d :: r)]; rfl
theorem join_cps (cs : List Nat) : (Txt.join (Str.ofString "") (cs.map fun c => (⟨#[c]⟩ : Str))).cps.toList = cs := by
  rw [TL.join_eq]
  have e := TL.tl_join (Str.ofString "") (cs.map fun c => (⟨#[c]⟩ : Str))
  have e2 : (cs.map fun c => (⟨#[c]⟩ : Str)).map TL.tl = cs.map fun c => [c] := by rw [List.map_map]; rfl
  have e3 : TL.tl (Str.ofString "") = [] := by decide +kernel
  rw [e2, e3, join_flat] at e
  exact e
/-- the spare names: a letter and q -/
def spare (c : Nat) : Str := (⟨#[c]⟩ : Str) ++ Str.ofString "q"
theorem spare_ok : ∀ c ∈ letL, NmS (spare c) := by
  unfold NmS NmOk
  decide +kernel
theorem spare_nd : (letL.map spare).Nodup := by decide +kernel
theorem str_inj (a b : Str) : eqV (.str a) (.str b) = decide (a = b) := by
  show (a == b) = _
  by_cases h : a = b
  · subst h; simp
  · rw [decide_eq_false h]; simpa using h
theorem inV_strs (x : Str) : ∀ xs : List Str, inV (.str x) (xs.map V.str) = decide (x ∈ xs)
  | [] => by simp [inV]
  | a :: xs => by
    have e := inV_strs x xs
    unfold inV at e ⊢
    rw [List.map_cons, List.any_cons, e, str_inj]
    by_cases h : a = x
    · subst h; simp
    · by_cases h2 : x ∈ xs
      · simp [h2]
      · simp [h, h2, Ne.symm h]
theorem flat_strs (xs : List Str) : (xs.map V.str).all flatV = true := by
  rw [List.all_map]; exact List.all_eq_true.mpr fun _ _ => rfl
/-- some spare name is not among the found ones -/
theorem spare_left (w : Str) (found : List Str) (h : found.length < 26) : ((w :: letL.map spare).filter fun x => decide (x ∉ found)) ≠ [] := by
  intro e
  have sub : ∀ x ∈ letL.map spare, x ∈ found := fun x hx => by
    by_cases h2 : x ∈ found
    · exact h2
    · have z : x ∈ (w :: letL.map spare).filter fun x => decide (x ∉ found) := List.mem_filter.mpr ⟨List.mem_cons_of_mem _ hx, by simp [h2]⟩
      rw [e] at z; cases z
  have le := List.Nodup.length_le_of_subset spare_nd (fun x hx => sub x hx)
  have e26 : (letL.map spare).length = 26 := by decide +kernel
  omega
def spNames : Sp := fun vs H Q _ => ∃ (l ls : Addr) (many N : Int), vs = [.ref l, .int many] ∧ Strm H l ls N ∧ N ≤ 900000 ∧ 0 ≤ many ∧ many ≤ 20 ∧
  ∀ H' q (ns : List Str), (ns.length : Int) = many → ns.Nodup → (∀ x ∈ ns, NmS x) → H q = none → H' q = some (.lst (ns.map V.str)) → Strm H' l ls (N + 5 * many) → But l ls H H' → Q (.ref q) H'
abbrev NN : List Str := ["stream", "many", "found", "k", "word", "spares", "sign", "letter", "one"]
theorem scNames : FnScope NN ["stream", "many"] (defScope sNames) := ⟨rfl, rfl, rfl, by decide +kernel, rfl, by decide +kernel, by decide +kernel⟩
section
variable {P : Program} {w : World} {K : PySem.W.Frag} {mg : Str → Option Value} {base : Heap} {f fD fP fM : Addr} {fd fdD fdP fdM : FuncData}
theorem ok_names (F : Fun K "_law_t_names" "_law_t_names" sNames f fd) (FP : Fun K "_law_pick" "_law_pick" sPick fP fdP) (gP : mg "_law_pick" = some (.ref fP)) (FD : Fun K "_law_draw" "_law_draw" sDraw fD fdD)
    (gD : mg "_law_draw" = some (.ref fD)) (gI : mg "int" = none) (gN : mg "len" = none) (gR : mg "range" = none) : FnOk P w K mg base CX0 3 f fd ["stream", "many"] spNames := by
  have G : FnOk P w K mg base CX0 1 fD fdD ["stream", "many"] spDraw := ok_draw FD gI
  have b := FD.binds (ps := ["stream", "many"]) fun _ _ _ _ _ _ us hl => match us, hl with | [_, _], _ => rfl
  have GP : FnOk P w K mg base CX0 2 fP fdP ["stream", "some"] spPickS := ok_pickS FP FD gD gI gN
  have bP := FP.binds (ps := ["stream", "some"]) fun _ _ _ _ _ _ us hl => match us, hl with | [_, _], _ => rfl
  refine F.ok scNames (fun vs H Q E h => by obtain ⟨l, ls, many, N, e, _⟩ := h; rw [e]; rfl) fun cdv A outer s H vs Q E hr hsp => ?_
  obtain ⟨l, ls, many, N, rfl, hS, hN, h0, h1, hq⟩ := hsp
  have nd := scNames.nd
  refine ⟨_, pss_cons (ps_set (i := 2) nd rfl (Or.inr rfl) (pe_lst pa_nil))
    (pss_cons (ps_for PassesOwn.never rfl (pi_range1 rfl gR (pa_cons (pv 1) pa_nil)) (pg_name (i := 3) nd rfl (Or.inl rfl))
      (pss_cons (ps_set (i := 4) nd rfl (Or.inl rfl) (pe_join pe_str (pe_lc (own := [("sign", 6)]) (tt := tYes) rfl nd (pi_range1 rfl gR (pa_cons (pe_op op_add pe_int (pe_call G (hr.mono (by decide)) rfl gD FD.kp b .nil pass0 (pa_cons (pv 0) (pa_cons pe_int pa_nil)))) pa_nil))
          (blkOk_by (N := NN) (sc := defScope sNames) (by decide +kernel)) (fun _ _ _ _ _ => pg_name (i := 6) nd rfl (Or.inl rfl)) (fun _ _ _ _ _ => pts_nil) (fun _ _ _ _ _ => pe_call GP hr rfl gP FP.kp bP .nil pass0 (pa_cons (pv 0) (pa_cons pe_str pa_nil))))))
      (pss_cons (ps_set (i := 5) nd rfl (Or.inl rfl) (pe_op op_cat (pe_lst (pa_cons (pv 4) pa_nil)) (pe_lc (own := [("letter", 7)]) (tt := tYes) rfl nd (pi_str pe_str) (blkOk_by (N := NN) (sc := defScope sNames) (by decide +kernel))
          (fun _ _ _ _ _ => pg_name (i := 7) nd rfl (Or.inl rfl)) (fun _ _ _ _ _ => pts_nil) (fun _ _ _ _ _ => pe_op op_add_str (pv 7) pe_str))))
      (pss_one (ps_expr (pe_bm PySem.F.plainAttrs_list PySem.F.slot_list_append PySem.F.type_list_append mt_append (pv 2) (pa_cons (pe_ix ix_list (pe_lc (own := [("one", 8)]) (tt := tTest (tOp (rIn K true) (tVar 8) (tVar 2))) rfl nd (pi_list (pv 5)) (blkOk_by (N := NN) (sc := defScope sNames) (by decide +kernel))
          (fun _ _ _ _ _ => pg_name (i := 8) nd rfl (Or.inl rfl)) (fun _ _ _ _ _ => pts_one (pt_cmpR op_notIn_seq (pv 8) (pv 2) rfl)) (fun _ _ _ _ _ => pv 8)) pe_int (fun _ _ => rfl)) pa_nil)))))))
    (pss_one (ps_ret (pv 2)))), ?_⟩
  refine ⟨Nat.zero_le _, fun q nq => ?_⟩
  have aq := hS.apart (Same.refl _) nq
  refine ⟨_, rfl, many, rfl, by omega, by omega, for_range (n := many.toNat) (fun i σ H' => ∃ ns : List Str, H' q = some (.lst (ns.map V.str)) ∧ ns.length = i ∧ ns.Nodup ∧ (∀ x ∈ ns, NmS x) ∧ Strm H' l ls (N + 5 * i) ∧ But l ls H H' ∧
    ∃ s3 s4 s5 s6 s7 s8, σ = [some (.ref l), some (.int many), some (.ref q), s3, s4, s5, s6, s7, s8])
    ⟨[], upd_same, rfl, .nil, fun x hx => by simp at hx, by simpa using hS.same (same_new nq), But.of (same_new nq), _, _, _, _, _, _, rfl⟩ ?_ ?_⟩
  · rintro i σ H1 hi ⟨ns, oq, ln, nn, nok, S1, B1, s3, s4, s5, s6, s7, s8, rfl⟩
    have hi2 : (i : Int) < 20 := by omega
    -- the word
    refine ⟨⟨_, rfl⟩, _, rfl, l, ls, 3, _, rfl, S1, by omega, by decide, by decide, fun H2 r r0 r1 S2 B2 => ?_⟩
    refine ⟨_, _, rfl, rfl, 1 + r, rfl, by omega, by omega, fun D nD => ?_⟩
    have aD := S2.apart (Same.refl _) nD
    refine lc_range (n := (1 + r).toNat) (fun j H' => ∃ cs : List Nat, H' D = some (.lst (cs.map fun c => V.str ⟨#[c]⟩)) ∧ cs.length = j ∧ (∀ c ∈ cs, c ∈ wordL) ∧ Strm H' l ls (N + 5 * i + 1 + j) ∧ But l ls H2 H')
      ⟨[], upd_same, rfl, fun c hc => by simp at hc, by simpa using S2.same (same_new nD), But.of (same_new nD)⟩ ?_ ?_
    · rintro j H3 hj ⟨cs, oD, lc, cok, S3, B3⟩
      refine ⟨rfl, ?_⟩
      refine ⟨_, rfl, l, ls, _, _, rfl, S3, by omega, by decide +kernel, by decide +kernel, fun H4 c hc S4 B4 => ?_⟩
      have oD4 := B4 _ _ aD.1 aD.2 oD
      refine ⟨_, oD4, (by rw [sizeLine_eq, List.length_map]; omega), cs ++ [c], by rw [upd_same]; simp, by simp [lc], ?_, ?_, ?_⟩
      · intro d hd
        rcases List.mem_append.mp hd with h | h
        · exact cok d h
        · obtain rfl : d = c := by simpa using h
          exact hc
      · obtain ⟨cs', g, k, m, S⟩ := S4
        exact Strm.mono ⟨cs', g, k, m, by rw [upd_ne (Ne.symm aD.1)]; exact S.o, by rw [upd_ne (Ne.symm aD.2)]; exact S.c, S.ne, S.g0, S.k0, S.k1, S.m0, S.m1, S.sz⟩ (by omega)
      · intro b o h1 h2 e
        have nb : b ≠ D := ne_of_none e nD
        rw [upd_ne nb]
        exact B4 _ _ h1 h2 (B3 _ _ h1 h2 e)
    · rintro H3 ⟨cs, oD, lc, cok, S3, B3⟩
      have lc3 : 1 ≤ cs.length ∧ cs.length ≤ 3 := by omega
      have em : (cs.map fun c => V.str ⟨#[c]⟩) = (cs.map fun c => (⟨#[c]⟩ : Str)).map V.str := by rw [List.map_map]; rfl
      rw [em] at oD
      have sums : ∀ l : List Nat, ((l.map fun c => (⟨#[c]⟩ : Str)).map (·.length)).sum = l.length := fun l => by
        induction l with
        | nil => rfl
        | cons a l ih => rw [List.map_cons, List.map_cons, List.sum_cons, ih, List.length_cons]; show 1 + _ = _; omega
      refine ⟨_, D, _, rfl, rfl, .inl (SqL.of oD), ?_, ?_⟩
      · rw [sums, List.length_map]; show cs.length + cs.length * 0 ≤ _; omega
      have hw : (Txt.join (Str.ofString "") (cs.map fun c => (⟨#[c]⟩ : Str))).cps.toList = cs := join_cps cs
      generalize Txt.join (Str.ofString "") (cs.map fun c => (⟨#[c]⟩ : Str)) = wd at hw
      have wok : NmS wd := by
        unfold NmS NmOk
        rw [hw]
        exact ⟨⟨lc3.1, by omega, fun c hc => word_sub c (cok c hc)⟩, by omega⟩
      have B13 := B2.trans B3
      have oq3 := B13 _ _ aq.1 aq.2 oq
      -- the spare names
      refine ⟨_, rfl, (by rw [sizeLine_eq]; show 1 ≤ _; omega), fun a1 n1 => ?_⟩
      have k1 := same_new (o := .lst [.str wd]) n1
      have e26 : (Str.ofString "abcdefghijklmnopqrstuvwxyz").cps.size = 26 := by decide +kernel
      have l26 : letL.length = 26 := by decide +kernel
      refine ⟨_, rfl, fun D2 nD2 => ⟨fun j m H' => m = 26 - j ∧ j ≤ 26 ∧ H' D2 = some (.lst ((letL.take j).map fun c => V.str (spare c))) ∧ Same (upd H3 a1 (.lst [.str wd])) H',
        ⟨26, rfl, by decide, upd_same, same_new nD2⟩, ?_⟩⟩
      rintro j m H4 ⟨rfl, hj, oD2, sm4⟩
      by_cases lt : j < 26
      · refine .inr ⟨(by show j < _; rw [e26]; exact lt), fun H' => H' D2 = some (.lst ((letL.take (j + 1)).map fun c => V.str (spare c))) ∧ Same (upd H3 a1 (.lst [.str wd])) H', fun H' h => ⟨26 - (j + 1), by omega, rfl, lt, h⟩, ?_⟩
        rintro v H' ⟨rfl, c, hc, rfl⟩
        have hc2 : letL[j]? = some c := by
          unfold letL
          rw [Array.getElem?_toList]; exact hc
        refine ⟨rfl, ?_⟩
        refine ⟨_, rfl, _, _, rfl, rfl, (by rw [sizeLine_eq]; show 1 + 1 ≤ _; omega), _, oD2, (by rw [sizeLine_eq, List.length_map, List.length_take]; omega), ?_, fun b o e => by rw [upd_ne (ne_of_none e nD2)]; exact sm4 b o e⟩
        rw [upd_same, List.take_succ, hc2]
        simp [spare]
      · have j26 : j = 26 := by omega
        refine .inl ⟨(by show _ ≤ j; rw [e26]; omega), ?_⟩
        have et : letL.take j = letL := List.take_of_length_le (by omega)
        rw [et] at oD2
        refine ⟨a1, D2, _, _, rfl, rfl, sm4 _ _ upd_same, oD2, (by rw [sizeLine_eq, List.length_map, l26]; show 1 + 26 ≤ _; omega), fun p np => ?_⟩
        have esp : [V.str wd] ++ letL.map (fun c => V.str (spare c)) = (wd :: letL.map spare).map V.str := by simp [List.map_map]
        rw [esp]
        have spl : (wd :: letL.map spare).length = 27 := by rw [List.length_cons, List.length_map, l26]
        have spok : ∀ x ∈ (wd :: letL.map spare), NmS x := fun x hx => by
          rcases List.mem_cons.mp hx with h | h
          · rw [h]; exact wok
          · obtain ⟨c, hc, rfl⟩ := List.mem_map.mp h
            exact spare_ok c hc
        have hne := spare_left wd ns (by omega)
        generalize wd :: letL.map spare = sp at spl spok hne
        have k5 := same_new (o := .lst (sp.map V.str)) np
        have k35 := (k1.trans sm4).trans k5
        refine ⟨_, rfl, .inl ⟨rfl, _, SqL.of (k35 _ _ oq3)⟩, _, rfl, p, rfl, ⟨_, SqL.of upd_same⟩, fun D3 nD3 => ?_⟩
        refine lc_list (xs := sp.map V.str) (fun j H' => H' D3 = some (.lst (((sp.take j).filter fun x => decide (x ∉ ns)).map V.str)) ∧ Same (upd H4 p (.lst (sp.map V.str))) H')
          ⟨by rw [upd_same]; rfl, same_new nD3⟩ (fun j H' _ h => SqL.of (h.2 _ _ upd_same)) ?_ ?_
        · rintro j v H6 ev ⟨oD3, sm6⟩
          rw [List.getElem?_map] at ev
          obtain ⟨x, ex, rfl⟩ := Option.map_eq_some_iff.mp ev
          have et2 : sp.take (j + 1) = sp.take j ++ [x] := by rw [List.take_succ, ex]; rfl
          refine ⟨rfl, ?_⟩
          refine ⟨_, rfl, _, rfl, q, ns.map V.str, rfl, .inl (SqL.of (sm6 _ _ (k35 _ _ oq3))), rfl, flat_strs ns, _, rfl, ?_⟩
          rw [inV_strs]
          by_cases hx : x ∈ ns
          · rw [decide_eq_true hx]
            refine iteF ?_
            refine ⟨?_, sm6⟩
            rw [et2, List.filter_append]
            simpa [hx] using oD3
          · rw [decide_eq_false hx]
            refine iteT ?_
            refine ⟨_, rfl, _, oD3, ?_, ?_, fun b o e => by rw [upd_ne (ne_of_none e nD3)]; exact sm6 b o e⟩
            · have z := List.length_filter_le (fun x => decide (x ∉ ns)) (sp.take j)
              rw [List.length_take] at z
              rw [sizeLine_eq, List.length_map]; omega
            · rw [upd_same, et2, List.filter_append]
              simp [hx]
        · rintro H6 ⟨oD3, sm6⟩
          have ef : sp.take (sp.map V.str).length = sp := List.take_of_length_le (by rw [List.length_map]; omega)
          rw [ef] at oD3
          have oq6 := sm6 _ _ (k35 _ _ oq3)
          cases efl : sp.filter fun x => decide (x ∉ ns) with
          | nil => exact absurd efl hne
          | cons y rest =>
            rw [efl] at oD3
            have hy : y ∈ sp.filter fun x => decide (x ∉ ns) := by rw [efl]; exact List.mem_cons_self
            obtain ⟨hy1, hy2⟩ := List.mem_filter.mp hy
            have hy3 : y ∉ ns := by simpa using hy2
            refine ⟨D3, _, 0, .str y, rfl, rfl, SqL.of oD3, atI_nat (j := 0) (by simp), ?_⟩
            refine ⟨q, ns.map V.str, .str y, rfl, rfl, oq6, (by rw [sizeLine_eq, List.length_map]; omega), ns ++ [y], by rw [upd_same]; simp, by simp [ln], ?_, ?_, ?_, ?_, _, _, _, _, _, _, rfl⟩
            · rw [List.nodup_append]
              exact ⟨nn, by simp, fun a ha b hb => by
                obtain rfl : b = y := by simpa using hb
                exact fun z => hy3 (z ▸ ha)⟩
            · intro x hx
              rcases List.mem_append.mp hx with h | h
              · exact nok x h
              · obtain rfl : x = y := by simpa using h
                exact spok _ hy1
            · obtain ⟨cs', g, k, m, S⟩ := (S3.same k35).same sm6
              exact Strm.mono ⟨cs', g, k, m, by rw [upd_ne (Ne.symm aq.1)]; exact S.o, by rw [upd_ne (Ne.symm aq.2)]; exact S.c, S.ne, S.g0, S.k0, S.k1, S.m0, S.m1, S.sz⟩ (by omega)
            · intro b o h1 h2 e
              have nb : b ≠ q := ne_of_none e nq
              rw [upd_ne nb]
              exact sm6 _ _ (k35 _ _ (B13 _ _ h1 h2 (B1 _ _ h1 h2 e)))
  · rintro σ H1 ⟨ns, oq, ln, nn, nok, S1, B1, s3, s4, s5, s6, s7, s8, rfl⟩
    have em : ((many.toNat : Nat) : Int) = many := by omega
    rw [em] at S1
    exact ⟨_, rfl, hq H1 q ns (by omega) nn nok nq oq S1 B1⟩
end
end L2.TB
namespace L2.TB
open PySem PySem.Spec PyProof.Rows
theorem paired_snoc {α β : Type} {F : α → β → Prop} {x : α} {y : β} (h : F x y) : ∀ {xs : List α} {ys : List β}, Paired F xs ys → Paired F (xs ++ [x]) (ys ++ [y])
  | _, _, .nil => .cons h .nil
  | _, _, .cons r t => .cons r (paired_snoc h t)
theorem paired_map {α β γ : Type} {F : α → γ → Prop} {g : β → γ} : ∀ {xs : List α} {ys : List β}, Paired (fun x y => F x (g y)) xs ys → Paired F xs (ys.map g)
  | _, _, .nil => .nil
  | _, _, .cons r t => .cons r (paired_map t)
/-- the pairs of a row: names and ints -/
def dk (ns : List Str) (vs : List Int) : List (Key × V) := (ns.zip vs).map fun p => (Sum.inr p.1, V.int p.2)
theorem merge_new : ∀ (more acc : List (Key × V)), ((acc ++ more).map (·.1)).Nodup → mergeK acc more = acc ++ more
  | [], acc, _ => by simp [mergeK]
  | p :: more, acc, h => by
    have hn : valV acc p.1 = none := by
      cases e : valV acc p.1 with
      | none => rfl
      | some v =>
        exfalso
        have z : (valV acc p.1).isSome = true := by rw [e]; rfl
        rw [← valV_any, List.any_eq_true] at z
        obtain ⟨q, hq, hq2⟩ := z
        have hq3 : q.1 = p.1 := of_decide_eq_true hq2
        rw [List.map_append, List.nodup_append] at h
        exact h.2.2 q.1 (List.mem_map_of_mem hq) p.1 (List.mem_map_of_mem List.mem_cons_self) hq3
    show mergeK (putK acc p.1 p.2) more = _
    rw [putK_new p.2 hn, merge_new more _ (by rw [List.append_assoc]; exact h), List.append_assoc]
    rfl
theorem merge_nd {kvs : List (Key × V)} (h : (kvs.map (·.1)).Nodup) : mergeK [] kvs = kvs := by
  rw [merge_new kvs [] (by simpa using h), List.nil_append]
theorem dk_keys {ns : List Str} {vs : List Int} (h : ns.length = vs.length) : (dk ns vs).map (·.1) = ns.map Sum.inr := by
  unfold dk
  rw [List.map_map]
  have e : ((fun x => x.1) ∘ fun p : Str × Int => ((Sum.inr p.1 : Key), V.int p.2)) = (fun p : Str × Int => (Sum.inr p.1 : Key)) := rfl
  rw [e]
  have e2 : (ns.zip vs).map (fun p : Str × Int => (Sum.inr p.1 : Key)) = ((ns.zip vs).map Prod.fst).map Sum.inr := by rw [List.map_map]; rfl
  rw [e2, List.map_fst_zip (by omega)]
theorem dk_nd {ns : List Str} {vs : List Int} (h : ns.length = vs.length) (nd : ns.Nodup) : ((dk ns vs).map (·.1)).Nodup := by
  rw [dk_keys h]
  exact List.Pairwise.map Sum.inr (fun a b h e => h (Sum.inr.inj e)) nd
/-- rows as they are drawn: at as dicts with the names ns and the ints of tbl -/
def RowsAt (H : Hp) (l ls : Addr) (ns : List Str) : List Addr → List (List Int) → Prop :=
  Paired fun a vs => H a = some (.dK (dk ns vs)) ∧ vs.length = ns.length ∧ a ≠ l ∧ a ≠ ls
theorem RowsAt.but {H H' : Hp} {l ls : Addr} {ns : List Str} {as : List Addr} {tbl : List (List Int)} (r : RowsAt H l ls ns as tbl) (b : But l ls H H') : RowsAt H' l ls ns as tbl :=
  Paired.mapP r fun a vs h => ⟨b _ _ h.2.2.1 h.2.2.2 h.1, h.2⟩
def spRows : Sp := fun vs H Q _ => ∃ (l ls : Addr) (many rows values N : Int), vs = [.ref l, .int many, .int rows, .int values] ∧ Strm H l ls N ∧ N ≤ 500000 ∧ 0 < many ∧ many ≤ 10 ∧ 0 < rows ∧ rows ≤ 20 ∧ 0 < values ∧ values ≤ 100 ∧
  ∀ H' q as ns tbl, (ns : List Str).length ≤ 10 → ns ≠ [] → ns.Nodup → (∀ x ∈ ns, NmS x) → (((tbl : List (List Int)).length : Nat) : Int) ≤ rows → tbl ≠ [] → (∀ u ∈ tbl, ∀ z ∈ u, -1 ≤ z ∧ z + 2 ≤ values) → H q = none → q ≠ l → q ≠ ls → H' q = some (.lst (as.map V.ref)) → RowsAt H' l ls ns as tbl →
    Strm H' l ls (N + 1000) → But l ls H H' → Q (.ref q) H'
abbrev NR : List Str := ["stream", "many", "rows", "values", "names", "found", "k", "name"]
theorem scRows : FnScope NR ["stream", "many", "rows", "values"] (defScope sRows) := ⟨rfl, rfl, rfl, by decide +kernel, rfl, by decide +kernel, by decide +kernel⟩
section
variable {P : Program} {w : World} {K : PySem.W.Frag} {mg : Str → Option Value} {base : Heap} {f fD fP fN : Addr} {fd fdD fdP fdN : FuncData}
theorem ok_rows (F : Fun K "_law_t_rows" "_law_t_rows" sRows f fd) (FN : Fun K "_law_t_names" "_law_t_names" sNames fN fdN) (gNm : mg "_law_t_names" = some (.ref fN)) (FP : Fun K "_law_pick" "_law_pick" sPick fP fdP) (gP : mg "_law_pick" = some (.ref fP)) (FD : Fun K "_law_draw" "_law_draw" sDraw fD fdD)
    (gD : mg "_law_draw" = some (.ref fD)) (gI : mg "int" = none) (gN : mg "len" = none) (gR : mg "range" = none) (gDi : mg "dict" = none) : FnOk P w K mg base CX0 4 f fd ["stream", "many", "rows", "values"] spRows := by
  have G : FnOk P w K mg base CX0 1 fD fdD ["stream", "many"] spDraw := ok_draw FD gI
  have b := FD.binds (ps := ["stream", "many"]) fun _ _ _ _ _ _ us hl => match us, hl with | [_, _], _ => rfl
  have GN : FnOk P w K mg base CX0 3 fN fdN ["stream", "many"] spNames := ok_names FN FP gP FD gD gI gN gR
  have bN := FN.binds (ps := ["stream", "many"]) fun _ _ _ _ _ _ us hl => match us, hl with | [_, _], _ => rfl
  refine F.ok scRows (fun vs H Q E h => by obtain ⟨l, ls, a, b, c, N, e, _⟩ := h; rw [e]; rfl) fun cdv A outer s H vs Q E hr hsp => ?_
  obtain ⟨l, ls, many, rws, vals, N, rfl, hS, hN, m0, m1, w0, w1, v0, v1, hq⟩ := hsp
  have nd := scRows.nd
  refine ⟨_, pss_cons (ps_par (i := 4) (j := 5) rfl nd rfl rfl (by decide) rfl rfl (pa_cons (pe_call GN hr rfl gNm FN.kp bN .nil pass0 (pa_cons (pv 0) (pa_cons (pe_op op_add pe_int (pe_call G (hr.mono (by decide)) rfl gD FD.kp b .nil pass0 (pa_cons (pv 0) (pa_cons (pv 1) pa_nil)))) pa_nil))) (pa_cons (pe_lst pa_nil) pa_nil)) (by rfl))
    (pss_cons (ps_for PassesOwn.never rfl (pi_range1 rfl gR (pa_cons (pe_op op_add pe_int (pe_call G (hr.mono (by decide)) rfl gD FD.kp b .nil pass0 (pa_cons (pv 0) (pa_cons (pv 2) pa_nil)))) pa_nil)) (pg_name (i := 6) nd rfl (Or.inl rfl))
      (pss_one (ps_expr (pe_bm PySem.F.plainAttrs_list PySem.F.slot_list_append PySem.F.type_list_append mt_append (pv 5) (pa_cons (pe_callTy (call_dictP rfl) rfl gDi (by decide +kernel) (pa_cons (pe_lc (own := [("name", 7)]) (tt := tYes) rfl nd (pi_list (pv 4)) (blkOk_by (N := NR) (sc := defScope sRows) (by decide +kernel))
        (fun _ _ _ _ _ => pg_name (i := 7) nd rfl (Or.inl rfl)) (fun _ _ _ _ _ => pts_nil) (fun _ _ _ _ _ => pe_tup (pa_cons (pv 7) (pa_cons (pe_op op_sub (pe_call G (hr.mono (by decide)) rfl gD FD.kp b .nil pass0 (pa_cons (pv 0) (pa_cons (pv 3) pa_nil))) pe_int) pa_nil)))) pa_nil)) pa_nil)))))
    (pss_one (ps_ret (pv 5)))), ?_⟩
  refine ⟨_, rfl, _, rfl, _, rfl, l, ls, many, N, rfl, hS, by omega, by omega, by omega, fun H1 r r0 r1 S1 B1 => ?_⟩
  refine ⟨_, _, rfl, rfl, l, ls, 1 + r, N + 1, rfl, S1, by omega, by omega, by omega, fun H2 c ns lns nds oks nc oc S2 B2 => ?_⟩
  have ac := S1.apart (Same.refl _) nc
  have nl : 1 ≤ ns.length ∧ ns.length ≤ 10 := by omega
  refine ⟨Nat.zero_le _, fun q nq => ?_⟩
  have aq := S2.apart (Same.refl _) nq
  have S2' : Strm H2 l ls (N + 60) := S2.mono (by omega)
  have B12 := B1.trans B2
  have cq : c ≠ q := fun z => by rw [z, nq] at oc; cases oc
  refine ⟨_, _, rfl, ?_⟩
  refine ⟨_, rfl, _, rfl, l, ls, rws, _, rfl, S2'.same (same_new nq), by omega, w0, by omega, fun H3 r' r0' r1' S3 B3 => ?_⟩
  have oc3 := B3 _ _ ac.1 ac.2 (same_new nq _ _ oc)
  have oq3 := B3 _ _ aq.1 aq.2 (upd_same (H := H2) (a := q) (o := .lst []))
  have B03 : But l ls H H3 := (B12.trans (But.of (same_new nq))).trans B3
  refine ⟨_, _, rfl, rfl, 1 + r', rfl, by omega, by omega, for_range (n := (1 + r').toNat) (fun i σ H' => (∃ as tbl, H' q = some (.lst ((as : List Addr).map V.ref)) ∧ RowsAt H' l ls ns as tbl ∧ tbl.length = i ∧ ∀ u ∈ tbl, ∀ z ∈ u, -1 ≤ z ∧ z + 2 ≤ vals) ∧ H' c = some (.lst (ns.map V.str)) ∧ Strm H' l ls (N + 70 + 12 * i) ∧ But l ls H H' ∧
    ∃ s6 s7, σ = [some (.ref l), some (.int many), some (.int rws), some (.int vals), some (.ref c), some (.ref q), s6, s7]) ⟨⟨[], [], oq3, .nil, rfl, fun u hu => by cases hu⟩, oc3, S3.mono (by omega), B03, _, _, rfl⟩ ?_ ?_⟩
  · rintro i σ H4 hi ⟨⟨as, tbl, oq4, R4, lt4, bd4⟩, oc4, S4, B4, s6, s7, rfl⟩
    have hi2 : (i : Int) < 20 := by omega
    refine ⟨_, rfl, .inl ⟨rfl, _, SqL.of oq4⟩, _, rfl, c, rfl, ⟨_, SqL.of oc4⟩, fun D nD => ?_⟩
    have aD := S4.apart (Same.refl _) nD
    have Dq : D ≠ q := fun z => by rw [z, oq4] at nD; cases nD
    refine lc_list (xs := ns.map V.str) (fun j H' => ∃ ps vs, H' D = some (.lst ((ps : List Addr).map V.ref)) ∧ Paired (fun p (kv : Str × Int) => H' p = some (.tup [.str kv.1, .int kv.2]) ∧ p ≠ l ∧ p ≠ ls) ps ((ns.take j).zip vs) ∧ vs.length = j ∧ (∀ z ∈ vs, -1 ≤ z ∧ z + 2 ≤ vals) ∧
      Strm H' l ls (N + 70 + 12 * i + j) ∧ But l ls H4 H') ⟨[], [], upd_same, .nil, rfl, (fun z hz => by cases hz), by simpa using S4.same (same_new nD), But.of (same_new nD)⟩ (fun j H' _ h => SqL.of (h.choose_spec.choose_spec.2.2.2.2.2 _ _ ac.1 ac.2 oc4)) ?_ ?_
    · rintro j v H5 ev ⟨ps, vs, oD, pr, lv, bv, S5, B5⟩
      rw [List.getElem?_map] at ev
      obtain ⟨x, ex, rfl⟩ := Option.map_eq_some_iff.mp ev
      have hj : j < ns.length := (List.getElem?_eq_some_iff.mp ex).1
      have et : ns.take (j + 1) = ns.take j ++ [x] := by rw [List.take_succ, ex]; rfl
      refine ⟨rfl, ?_⟩
      refine ⟨_, rfl, _, rfl, _, rfl, l, ls, vals, _, rfl, S5, by omega, v0, by omega, fun H6 z z0 z1 S6 B6 => ?_⟩
      refine ⟨_, _, rfl, rfl, (by rw [sizeLine_eq]; show 2 ≤ _; omega), fun p np => ?_⟩
      have ap := S6.apart (Same.refl _) np
      have k6 := same_new (o := .tup [.str x, .int (z - 1)]) np
      have oD6 := B6 _ _ aD.1 aD.2 oD
      have pD : p ≠ D := fun y => by rw [y, oD6] at np; cases np
      have lps : ps.length = j := by
        have e := Paired.length pr
        rw [List.length_zip, List.length_take] at e
        omega
      refine ⟨_, k6 _ _ oD6, (by rw [sizeLine_eq, List.length_map]; omega), ps ++ [p], vs ++ [z - 1], by rw [upd_same]; simp, ?_, by simp [lv], (fun y hy => by
        rcases List.mem_append.mp hy with hy | hy
        · exact bv y hy
        · rw [List.mem_singleton] at hy; omega), ?_, ?_⟩
      · rw [et, List.zip_append (by rw [List.length_take]; omega)]
        refine paired_snoc ⟨by rw [upd_ne pD, upd_same], ap⟩ (Paired.mapP pr fun a kv h => ⟨?_, h.2⟩)
        have na : a ≠ D := fun y => by rw [y, oD] at h; cases h.1
        rw [upd_ne na]
        exact k6 _ _ (B6 _ _ h.2.1 h.2.2 h.1)
      · obtain ⟨cs', g, k, m, S⟩ := S6.same k6
        exact Strm.mono ⟨cs', g, k, m, by rw [upd_ne (Ne.symm aD.1)]; exact S.o, by rw [upd_ne (Ne.symm aD.2)]; exact S.c, S.ne, S.g0, S.k0, S.k1, S.m0, S.m1, S.sz⟩ (by omega)
      · intro b' o h1 h2 e
        have nb : b' ≠ D := ne_of_none e nD
        rw [upd_ne nb]
        exact k6 _ _ (B6 _ _ h1 h2 (B5 _ _ h1 h2 e))
    · rintro H5 ⟨ps, vs, oD, pr, lv, bv, S5, B5⟩
      have etk : ns.take (ns.map V.str).length = ns := List.take_of_length_le (by rw [List.length_map]; omega)
      rw [etk] at pr
      have lv2 : vs.length = ns.length := by rw [lv, List.length_map]
      refine ⟨D, ps, dk ns vs, rfl, SqL.of oD, paired_map (Paired.mapP pr fun p kv h => SqT.of h.1), fun p np => ?_⟩
      rw [merge_nd (dk_nd lv2.symm nds)]
      have ap := S5.apart (Same.refl _) np
      have k5 := same_new (o := .dK (dk ns vs)) np
      have oq5 := k5 _ _ (B5 _ _ aq.1 aq.2 oq4)
      have las : as.length = i := by rw [Paired.length R4, lt4]
      have pq : p ≠ q := fun y => by rw [y, B5 _ _ aq.1 aq.2 oq4] at np; cases np
      have B6 : But l ls (upd H5 p (.dK (dk ns vs))) (upd (upd H5 p (.dK (dk ns vs))) q (.lst (as.map V.ref ++ [.ref p]))) → True := fun _ => trivial
      refine ⟨q, as.map V.ref, .ref p, rfl, rfl, oq5, (by rw [sizeLine_eq, List.length_map]; omega), ⟨as ++ [p], tbl ++ [vs], by rw [upd_same]; simp, ?_, by simp [lt4], fun u hu => by
        rcases List.mem_append.mp hu with hu | hu
        · exact bd4 u hu
        · rw [List.mem_singleton] at hu; rw [hu]; exact bv⟩, ?_, ?_, ?_, _, _, rfl⟩
      · refine paired_snoc ⟨by rw [upd_ne pq, upd_same], lv2, ap⟩ (Paired.mapP R4 fun a vs' h => ⟨?_, h.2⟩)
        have na : a ≠ q := fun y => by rw [y, oq4] at h; cases h.1
        rw [upd_ne na]
        exact k5 _ _ (B5 _ _ h.2.2.1 h.2.2.2 h.1)
      · rw [upd_ne cq]
        exact k5 _ _ (B5 _ _ ac.1 ac.2 oc4)
      · obtain ⟨cs', g, k, m, S⟩ := S5.same k5
        have lx : (ns.map V.str).length ≤ 10 := by rw [List.length_map]; omega
        exact Strm.mono ⟨cs', g, k, m, by rw [upd_ne (Ne.symm aq.1)]; exact S.o, by rw [upd_ne (Ne.symm aq.2)]; exact S.c, S.ne, S.g0, S.k0, S.k1, S.m0, S.m1, S.sz⟩ (by omega)
      · intro b' o h1 h2 e
        have nb : b' ≠ q := fun y => by
          have z := B12 _ _ h1 h2 e
          rw [y, nq] at z; cases z
        rw [upd_ne nb]
        exact k5 _ _ (B5 _ _ h1 h2 (B4 _ _ h1 h2 e))
  · rintro σ H4 ⟨⟨as, tbl, oq4, R4, lt4, bd4⟩, oc4, S4, B4, s6, s7, rfl⟩
    have nq0 : H q = none := by
      cases e : H q with
      | none => rfl
      | some o => have z := B12 _ _ aq.1 aq.2 e; rw [nq] at z; cases z
    have nn : ns ≠ [] := fun z => by rw [z] at nl; simp at nl
    have tn : tbl ≠ [] := fun z => by rw [z] at lt4; simp at lt4; omega
    exact ⟨_, rfl, hq H4 q as ns tbl nl.2 nn nds oks (by omega) tn bd4 nq0 aq.1 aq.2 oq4 R4 (S4.mono (by omega)) B4⟩
end
end L2.TB
namespace L2.TB
open PySem
open PySem.Spec PyProof.Rows
/-! for i, x in enumerate(thing), thing a list or a tuple -/
abbrev tupIter (t : Addr) : Obj := { cls := .type "tuple_iterator", data := .fields #[.ref t, .int 0 0] }
abbrev enumRec (q : Addr) : Obj := { cls := .type "enumerate", data := .fields #[.none, .bool false, .ref q, rawInt 0, .none, .none] }
section
variable {P : Program} {w : World}
/-- what enumerate's maker does with a tuple -/
theorem made_enum (t : Addr) (ys : Array Value) : Meets (Builtin.«enumerate.__new__» ⟨[.type "enumerate", .ref t], []⟩) fun _ done z =>
    z.heap.IsTuple t ys ∧ done (.ok (.ret (.ref (z.heap.push (tupIter t)).objs.size))) { z with heap := (z.heap.push (tupIter t)).push (enumRec z.heap.objs.size) } :=
  .of_wp fun _ _ _ _ z hz => by
    obtain ⟨h0, gs, ds, tk, os⟩ := z
    obtain ⟨isT, fin⟩ := hz
    have sub := sub_enumerate
    have step : ∀ {A' : Around} {E' : Value → Shared → Prop} {Q' : Value → Shared → Prop} {P' : Program} {w' : World}, Q' (.ref h0.objs.size) ⟨h0.push (tupIter t), gs, ds, tk, os⟩ → wpAny (model P' w') A' (pyIter (.ref t)) Q' E' ⟨h0, gs, ds, tk, os⟩ :=
      fun more => wpAny_pyIter_tuple (s := ⟨h0, gs, ds, tk, os⟩) isT more
    wp_walk using step
    refine wpAny_stack_any (fun _ => wpAny_pure ?_)
    split
    · rename_i c _ _ _ _ _
      rcases (c == Value.type "enumerate") with _ | _ <;> (wp_walk using step; exact ⟨_, rfl, fin⟩)
    · wp_walk using step
      exact ⟨_, rfl, fin⟩
/-- the call -/
theorem enum_of_tuple {A : Around} {z : Shared} {E Q : Value → Shared → Prop} {t : Addr} {ys : Array Value} (isT : z.heap.IsTuple t ys)
    (more : IsEnum ((z.heap.push (tupIter t)).push (enumRec z.heap.objs.size)) (z.heap.objs.size + 1) z.heap.objs.size 0 .none →
      Q (.ref (z.heap.objs.size + 1)) { z with heap := (z.heap.push (tupIter t)).push (enumRec z.heap.objs.size) }) : wpAny (model P w) A (call (.type "enumerate") [.ref t]) Q E z := by
  refine callType_new F.called_enumerate (by decide) (F.typeCall_enumerate_1 _) (F.newCall_enumerate_1 _) (fun b => F.args_object_init_2 b _) F.entry_enumerate_new (made_enum t ys) ⟨isT, ?_⟩
  have size1 : (z.heap.push (tupIter t)).objs.size = z.heap.objs.size + 1 := Heap.size_push ..
  have rec1 := Heap.get?_push_size (z.heap.push (tupIter t)) (o := enumRec z.heap.objs.size) rfl
  rw [size1] at rec1
  show _ ∧ _
  rw [size1]
  exact ⟨⟨_, rec1, rfl⟩, more rec1⟩
end
/-- the items of the tuple at t, each in a new pair with its number -/
def IteT (K : PySem.W.Frag) (t : Addr) : It where
  go i H := ∃ (ys : List V) (y : V), SqT K H t ys ∧ ys[i]? = some y
  yld i H v H' := ∃ T y, v = .ref T ∧ H T = none ∧ H' = upd H T (.tup [.int (i : Nat), y]) ∧ ∀ ys, SqT K H t ys → ys[i]? = some y
  stop i H := ∃ ys : List V, SqT K H t ys ∧ ys.length ≤ i
/-- three records of three classes stand at three places -/
theorem three {h : Heap} {t q r : Addr} {ys : Array Value} {i : Nat} {c : Int} {old : Value} (isT : h.IsTuple t ys) (isQ : h.IsTupleIter q t i) (isR : IsEnum h r q c old) : t ≠ q ∧ r ≠ t := by
  obtain ⟨ot, gt, ct, _⟩ := isT
  obtain ⟨oq, gq, cq, _⟩ := isQ
  have ct : ot.cls = Value.type "tuple" := ct
  have cq : oq.cls = Value.type "tuple_iterator" := cq
  constructor
  · rintro rfl
    rw [gt] at gq
    injection gq with same
    rw [← same, ct] at cq
    exact absurd cq (by decide)
  · rintro rfl
    have gr := isR
    unfold IsEnum at gr
    rw [gt] at gr
    injection gr with same
    rw [same] at ct
    exact absurd (show Value.type "enumerate" = Value.type "tuple" from ct) (by decide)
theorem two_of {b r q : Addr} {p : Addr → Prop} (hr : p r) (hq : p q) (hb : b ∈ [r, q]) : p b := by
  rcases List.mem_cons.mp hb with rfl | hb
  · exact hr
  · obtain rfl := List.mem_singleton.mp hb
    exact hq
theorem turn_enumT {P : Program} {w : World} {K : PySem.W.Frag} {elts : List Expr} {kk : Nat} {tpos : Pos} (t r q : Addr) :
    Turn P w K (.Tuple elts kk tpos) (IteT K t) [r, q] r (fun i h => r ≠ q ∧ h.IsTupleIter q t i ∧ ∃ old, IsEnum h r q ((i : Nat) : Int) old) := by
  refine ⟨List.mem_cons_self, fun i h st b hb => ?_, fun i h h' st same => ?_, ?_, ?_, fun A i z Q E st more => ?_⟩
  · obtain ⟨_, ⟨oq, gq, _, dq⟩, old, gr⟩ := st
    exact two_of (p := fun b => ∃ o, h.get? b = some o ∧ ∀ v, o.data ≠ .cell v) ⟨_, gr, fun _ e => nomatch e⟩ ⟨oq, gq, fun _ e => by rw [dq] at e; exact nomatch e⟩ hb
  · obtain ⟨ne, gq, old, gr⟩ := st
    exact ⟨ne, gq.at fun o e => same q (List.mem_cons_of_mem _ List.mem_cons_self) o e, old, same r List.mem_cons_self _ gr⟩
  · rintro X rfl rfl rfl calm i pins z σ H E I room ⟨ne, gq, old, gr⟩ ⟨ys, y, isY, nth⟩
    obtain ⟨vs, rel, isT, _⟩ := I.tuple isY
    obtain ⟨v, nthV, relV⟩ := rel.get nth
    have isT : z.heap.IsTuple t vs.toArray := isT
    obtain ⟨tq, rt⟩ := three isT gq gr
    have lr : r < z.heap.objs.size := Heap.lt_size gr
    have lq : q < z.heap.objs.size := gq.elim fun _ e => Heap.lt_size e.1
    have inside : i < vs.toArray.size := by
      have := (List.getElem?_eq_some_iff.mp nthV).1
      simpa using this
    have draws := Draws.tuple (prog := X.prog) (w := X.w) (A := X.A.in1) (I.ok.hd calm) q t tq vs.toArray
    refine wpAny_pyNext_enum_itemC draws gr ⟨gq, isT⟩ inside ne (fun m => two_of (p := fun b => r = b → False) ne rt m rfl) fun v' h1 tk hv out stQ newT _ kept1 => ?_
    obtain rfl : v' = v := by
      have hv : vs.toArray[i]? = some v' := hv
      rw [List.getElem?_toArray, nthV] at hv
      exact (Option.some.inj hv).symm
    refine ⟨_, rfl, wpAny_letOwnedTupleGo_enum (s := { z with heap := h1, toks := tk + 1 }) out fun h2 back same2 => ?_⟩
    have at2 : ∀ b o, b ∉ [r, q] → z.heap.get? b = some o → h2.get? b = some o := fun b o away e =>
      (same2.2 b fun k => away (k ▸ List.mem_cons_self)).trans (kept1 b o (fun k => away (k ▸ List.mem_cons_self)) (fun k => away (k ▸ List.mem_cons_of_mem _ List.mem_cons_self)) e)
    have pair : ObjOk X.prog X.w (upd H z.heap.objs.size (.tup [.int (i : Nat), y])) h2 z.heap.objs.size (.tup [.int (i : Nat), y]) :=
      ⟨show 2 ≤ sizeLine by decide, [.int i tk, v'], .cons ⟨tk, rfl⟩ (.cons relV .nil), _, (same2.2 _ (Nat.ne_of_gt lr)).trans newT, rfl, _, rfl⟩
    refine ⟨.ref z.heap.objs.size, _, I.turnedNew (t' := tk + 1) at2 room (Nat.le_refl _) pair, rfl, ⟨_, y, rfl, I.hok.fresh (Nat.le_refl _), rfl, fun ys' is' => ?_⟩, ⟨ne, ?_, v', ?_⟩, fun b hb => ?_⟩
    · rw [I.tuple_inj is' isY]; exact nth
    · exact stQ.1.at fun o e => (same2.2 q ne.symm).trans e
    · rw [show ((i + 1 : Nat) : Int) = (i : Int) + 1 from by omega]; exact back
    · have lb : b < z.heap.objs.size := two_of (p := fun b => b < z.heap.objs.size) lr lq hb
      rw [upd_ne (Nat.ne_of_lt lb)]
      exact (room b hb).1
  · rintro X rfl rfl rfl calm i pins z σ H E I room ⟨ne, gq, old, gr⟩ ⟨ys, isY, past⟩
    obtain ⟨vs, rel, isT, _⟩ := I.tuple isY
    have isT : z.heap.IsTuple t vs.toArray := isT
    obtain ⟨k0, k1, k2, k3, k4, k5⟩ := room q (List.mem_cons_of_mem _ List.mem_cons_self)
    have isE : z.TypeIs (.ref r) "enumerate" := ⟨_, gr, rfl⟩
    have len := rel.length
    have past : vs.toArray[i]? = none := by rw [List.getElem?_toArray, List.getElem?_eq_none_iff]; omega
    unfold pyNext
    refine wpAny_bind (wpAny_attempt (wpAny_callSpecial?_slot (name := Str.ofString "__next__") isE F.slot_enumerate_next (wpAny_call_entry F.slot_enumerate_next isE F.entry_enumerate_next ?_ (F.args_enumerate_next_1 _))))
    show wpAny _ _ (field (.ref r) 2 >>= _) _ _ z
    refine wpAny_bind (wpAny_field gr rfl (x := .ref q) rfl (wpAny_bind (wpAny_nextOf_tuple_end (I.ok.hd calm) gq isT past fun h1 x but ⟨ox, gx, cx⟩ => ?_)))
    exact wpAny_bind (wpAny_isInstance (T := "StopIteration") (b := true) ⟨ox, gx, cx⟩ isSubtype_stop (wpAny_pure ⟨rfl, I.turned (t' := z.toks) (fun b o away e => but b o away e) k0 k1 k3 k4 k5⟩))
  · obtain ⟨_, _, old, gr⟩ := st
    exact wpAny_pyIter_enum gr more
/-- the reading of enumerate over a list or over a tuple -/
def iEnumS (K : PySem.W.Frag) (ta : TA) : TI := fun σ H R => ta σ H fun vs H1 => ∃ a xs, vs = [.ref a] ∧ ((SqL K H1 a xs ∧ R (Ite K a) H1) ∨ (SqT K H1 a xs ∧ R (IteT K a) H1))
theorem pi_enumS {X : Cx} {e : Expr} {ta : TA} {p pos tpos : Pos} {elts : List Expr} {kk : Nat} (hg : Gl X "enumerate") (hm : X.mg "enumerate" = none) (ha : PA X [e] ta) (hs : starEach [e] X.env = [(false, eval e X.env)] := by rfl) :
    PI X (.Tuple elts kk tpos) (.Call (.Name "enumerate" p) [e] [] pos) (iEnumS X.K ta) := by
  refine PI.mk fun pins z σ H R I reading => Call_ (ld_blt I hg hm boot_enumerate (PyProof.Rows.callWith_type1 (thn (ha.run pos pins z σ H _ I reading) fun us z1 hu => ?_) hs rfl))
  obtain ⟨vs, H1, I1, rel, a, xs, rfl, cases2⟩ := hu
  match us, rel with
  | [u], .cons ru .nil =>
    obtain rfl : u = Value.ref a := ru
    have fresh : ∀ b ∈ [z1.heap.objs.size + 1, z1.heap.objs.size], FpOk X pins H1 b := fun b hb =>
      have far : z1.heap.objs.size ≤ b := two_of (p := fun b => z1.heap.objs.size ≤ b) (Nat.le_succ _) (Nat.le_refl _) hb
      I1.fpOk far (I1.hok.fresh far)
    rcases cases2 with ⟨sq, q⟩ | ⟨sq, q⟩
    · obtain ⟨its, rv, isL, _⟩ := I1.list sq
      exact call_enumerate_list isL.isList fun h' gE gI _ kept => wpAny_pyIter_enum gE ⟨_, _, _, _, H1, rfl, I1.kept (t' := z1.toks) kept, turn_enum a _ _, ⟨⟨.none, gE⟩, gI, Nat.succ_ne_self _⟩, fresh, q⟩
    · obtain ⟨its, rv, isT, _⟩ := I1.tuple sq
      have isT : z1.heap.IsTuple a its.toArray := isT
      refine enum_of_tuple isT fun gE => wpAny_pyIter_enum gE ⟨_, _, _, _, H1, rfl, I1.kept (t' := z1.toks) fun b o e => ?_, turn_enumT a _ _, ⟨Nat.succ_ne_self _, ?_, .none, gE⟩, fresh, q⟩
      · exact Heap.get?_push_of_some _ (Heap.get?_push_of_some _ e)
      · exact ⟨_, Heap.get?_push_of_some _ (Heap.get?_push_size _ rfl), rfl, rfl⟩
end L2.TB
namespace L2.TB
open PySem PySem.Spec PyProof.Rows
/-! the program's looks at what it is passed -/
theorem boot_int' : bootBuiltins "int" = some (.type "int") := by decide +kernel
theorem boot_bool' : bootBuiltins "bool" = some (.type "bool") := by decide +kernel
theorem boot_str' : bootBuiltins "str" = some (.type "str") := by decide +kernel
theorem boot_list' : bootBuiltins "list" = some (.type "list") := by decide +kernel
theorem boot_tuple' : bootBuiltins "tuple" = some (.type "tuple") := by decide +kernel
theorem boot_dict' : bootBuiltins "dict" = some (.type "dict") := by decide +kernel
theorem boot_isi : bootBuiltins "isinstance" = some (.builtin "isinstance") := by decide +kernel
/-- the list or the tuple at a -/
def SqA (K : PySem.W.Frag) (H : Hp) (a : Addr) (xs : List V) : Prop := H a = some (.lst xs) ∨ H a = some (.tup xs)
theorem SqA.seq {K : PySem.W.Frag} {H : Hp} {a : Addr} {xs : List V} (h : SqA K H a xs) : SqL K H a xs ∨ SqT K H a xs := h.imp SqL.of SqT.of
theorem SqA.same {K : PySem.W.Frag} {H H' : Hp} {a : Addr} {xs : List V} (h : SqA K H a xs) (s : Same H H') : SqA K H' a xs := h.imp (s _ _) (s _ _)
theorem kit_two_l {K : PySem.W.Frag} : PySem.W.kitAny K (.type "list") [.type "list", .type "tuple"] = some true := by
  unfold PySem.W.kitAny
  rw [kit_ty (K := K) (a := "list") (b := "list") (r := true) (by decide +kernel)]
theorem kit_two_t {K : PySem.W.Frag} : PySem.W.kitAny K (.type "tuple") [.type "list", .type "tuple"] = some true := by
  unfold PySem.W.kitAny
  rw [kit_ty (K := K) (a := "tuple") (b := "list") (r := false) (by decide +kernel)]
  dsimp only
  unfold PySem.W.kitAny
  rw [kit_ty (K := K) (a := "tuple") (b := "tuple") (r := true) (by decide +kernel)]
def spIsInt : Sp := fun vs H Q _ => ∃ k : Int, vs = [.int k] ∧ Q (.bl true) H
def spIsList (K : PySem.W.Frag) : Sp := fun vs H Q _ => ∃ (a : Addr) (xs : List V), vs = [.ref a] ∧ SqA K H a xs ∧ ∀ H', Same H H' → Q (.bl true) H'
def spIsOne (K : PySem.W.Frag) : Sp := fun vs H Q _ => ∃ (c : Addr) (ns : List Str) (x : Str), vs = [.ref c, .str x] ∧ SqL K H c (ns.map V.str) ∧ Q (.bl (decide (x ∈ ns))) H
/-- no bad one -/
def spFirst (K : PySem.W.Frag) : Sp := fun vs H Q _ => ∃ (c a : Addr) (ns known : List Str), vs = [.ref c, .ref a] ∧ H c = some (.lst (ns.map V.str)) ∧ SqA K H a (known.map V.str) ∧ known.Nodup ∧ (∀ x ∈ known, x ∈ ns) ∧ known.length < 1000 ∧ ∀ H', Same H H' → Q .non H'
theorem scIsInt : FnScope ["thing"] ["thing"] (defScope sIsInt) := ⟨rfl, rfl, rfl, by decide +kernel, rfl, by decide +kernel, by decide +kernel⟩
theorem scIsList : FnScope ["thing"] ["thing"] (defScope sIsList) := ⟨rfl, rfl, rfl, by decide +kernel, rfl, by decide +kernel, by decide +kernel⟩
theorem scIsOne : FnScope ["names", "thing"] ["names", "thing"] (defScope sIsOne) := ⟨rfl, rfl, rfl, by decide +kernel, rfl, by decide +kernel, by decide +kernel⟩
abbrev NF : List Str := ["names", "things", "seen", "index", "thing"]
theorem scFirst : FnScope NF ["names", "things"] (defScope sFirst) := ⟨rfl, rfl, rfl, by decide +kernel, rfl, by decide +kernel, by decide +kernel⟩
section
variable {P : Program} {w : World} {K : PySem.W.Frag} {mg : Str → Option Value} {base : Heap} {f fL fO : Addr} {fd fdL fdO : FuncData}
theorem ok_isInt (F : Fun K "is_integer" "is_integer" sIsInt f fd) (gI : mg "isinstance" = none) (gInt : mg "int" = none) (gB : mg "bool" = none) : FnOk P w K mg base CX0 1 f fd ["thing"] spIsInt := by
  refine F.ok scIsInt (fun vs H Q E h => by obtain ⟨k, e, _⟩ := h; rw [e]; rfl) fun cdv A outer s H vs Q E hr hsp => ?_
  obtain ⟨k, rfl, hq⟩ := hsp
  refine ⟨_, pss_one (ps_ret (pe_and (pe_callB (r := rIsi K) call_isi rfl gI boot_isi (pa_cons (pv 0) (pa_cons (pe_bltn (v := .ty "int") rfl gInt boot_int' rfl) pa_nil)))
    (pe_one (pe_not (pe_callB (r := rIsi K) call_isi rfl gI boot_isi (pa_cons (pv 0) (pa_cons (pe_bltn (v := .ty "bool") rfl gB boot_bool' rfl) pa_nil))))))), ?_⟩
  exact ⟨_, rfl, _, _, _, _, true, rfl, .ty _, .base (.int k), kit_ty (by decide +kernel), true, rfl, _, rfl, _, _, _, _, false, rfl, .ty _, .base (.int k), kit_ty (by decide +kernel), false, rfl, hq⟩
theorem ok_isList (F : Fun K "is_list" "is_list" sIsList f fd) (gI : mg "isinstance" = none) (gL : mg "list" = none) (gT : mg "tuple" = none) : FnOk P w K mg base CX0 1 f fd ["thing"] (spIsList K) := by
  refine F.ok scIsList (fun vs H Q E h => by obtain ⟨a, xs, e, _⟩ := h; rw [e]; rfl) fun cdv A outer s H vs Q E hr hsp => ?_
  obtain ⟨a, xs, rfl, hS, hq⟩ := hsp
  refine ⟨_, pss_one (ps_ret (pe_callB (r := rIsiT K) call_isiT rfl gI boot_isi (pa_cons (pv 0) (pa_cons (pe_tup (pa_cons (pe_bltn (v := .ty "list") rfl gL boot_list' rfl) (pa_cons (pe_bltn (v := .ty "tuple") rfl gT boot_tuple' rfl) pa_nil))) pa_nil)))), ?_⟩
  refine ⟨_, rfl, (by show 2 ≤ sizeLine; decide), fun t nt => ?_⟩
  have kt := same_new (o := .tup [.ty "list", .ty "tuple"]) nt
  rcases hS.same kt with e | e
  · exact ⟨_, _, _, _, _, true, rfl, upd_same, .cons (.ty _) (.cons (.ty _) .nil), .base (.lst e), kit_two_l, hq _ kt⟩
  · exact ⟨_, _, _, _, _, true, rfl, upd_same, .cons (.ty _) (.cons (.ty _) .nil), .base (.tup e), kit_two_t, hq _ kt⟩
theorem ok_isOne (F : Fun K "is_one_of" "is_one_of" sIsOne f fd) (gI : mg "isinstance" = none) (gS : mg "str" = none) : FnOk P w K mg base CX0 1 f fd ["names", "thing"] (spIsOne K) := by
  refine F.ok scIsOne (fun vs H Q E h => by obtain ⟨c, ns, x, e, _⟩ := h; rw [e]; rfl) fun cdv A outer s H vs Q E hr hsp => ?_
  obtain ⟨c, ns, x, rfl, hS, hq⟩ := hsp
  refine ⟨_, pss_one (ps_ret (pe_and (pe_callB (r := rIsi K) call_isi rfl gI boot_isi (pa_cons (pv 1) (pa_cons (pe_bltn (v := .ty "str") rfl gS boot_str' rfl) pa_nil)))
    (pe_one (pe_cmpR op_in_seq (pv 1) (pv 0) rfl)))), ?_⟩
  refine ⟨_, rfl, _, _, _, _, true, rfl, .ty _, .base (.str x), kit_ty (by decide +kernel), true, rfl, _, rfl, _, rfl, c, _, rfl, .inl hS, rfl, flat_strs ns, ?_⟩
  rw [inV_strs]
  exact hq
/-- the dict of what was seen -/
def seenD (xs : List Str) : List (Key × V) := xs.map fun x => (Sum.inr x, V.bl true)
theorem seen_none {xs : List Str} {x : Str} (h : x ∉ xs) : valV (seenD xs) (Sum.inr x) = none := by
  cases e : valV (seenD xs) (Sum.inr x) with
  | none => rfl
  | some v =>
    exfalso
    have z : (valV (seenD xs) (Sum.inr x)).isSome = true := by rw [e]; rfl
    rw [← valV_any, List.any_eq_true] at z
    obtain ⟨q, hq, hq2⟩ := z
    obtain ⟨y, hy, rfl⟩ := List.mem_map.mp hq
    have hq3 : (Sum.inr y : Key) = Sum.inr x := of_decide_eq_true hq2
    exact h (Sum.inr.inj hq3 ▸ hy)
theorem seen_put {xs : List Str} {x : Str} (h : x ∉ xs) : putK (seenD xs) (Sum.inr x) (.bl true) = seenD (xs ++ [x]) := by
  rw [putK_new (.bl true) (seen_none h)]
  simp [seenD]
/-- what the for loop asks of its turns -/
def ForW (J : It) (g : TG) (tb : TS) (D : Ends) (σ : St) (H : Hp) : Prop := ∃ W : Nat → Nat → St → Hp → Prop, (∃ m, W 0 m σ H) ∧ ∀ i m σ H, W i m σ H →
  (J.stop i H ∧ D.nx σ H) ∨ (J.go i H ∧ ∃ N : St → Hp → Prop, (∀ σ' H', N σ' H' → ∃ m', m' < m ∧ W (i + 1) m' σ' H') ∧ ∀ x H', J.yld i H x H' → g x σ H' fun σ2 H2 => tb { D with nx := N, ct := N, bk := D.nx } σ2 H2)
theorem enum_seq {K : PySem.W.Frag} {a : Addr} {xs : List V} {o : HO} {g : TG} {tb : TS} {D : Ends} {σ : St} {H : Hp} (ko : o = .lst xs ∨ o = .tup xs) (Pv : Nat → St → Hp → Prop) (h0 : Pv 0 σ H) (hl : ∀ i σ H, i ≤ xs.length → Pv i σ H → H a = some o)
    (hs : ∀ i x σ H T, xs[i]? = some x → Pv i σ H → H T = none → g (.ref T) σ (upd H T (.tup [.int (i : Nat), x])) fun σ2 H2 => tb { D with nx := Pv (i + 1), ct := Pv (i + 1), bk := D.nx } σ2 H2) (hd : ∀ σ H, Pv xs.length σ H → D.nx σ H) :
    ∃ b ys, [V.ref a] = [V.ref b] ∧ ((SqL K H b ys ∧ ForW (Ite K b) g tb D σ H) ∨ (SqT K H b ys ∧ ForW (IteT K b) g tb D σ H)) := by
  have fin : ∀ J : It, (∀ i H, i < xs.length → H a = some o → J.go i H) → (∀ i H, i = xs.length → H a = some o → J.stop i H) → (∀ i H v H', i < xs.length → H a = some o → J.yld i H v H' → ∃ T x, v = .ref T ∧ H T = none ∧ H' = upd H T (.tup [.int (i : Nat), x]) ∧ xs[i]? = some x) → ForW J g tb D σ H := by
    intro J go stop yld
    refine ⟨fun i m σ H => m = xs.length - i ∧ i ≤ xs.length ∧ Pv i σ H, ⟨_, rfl, Nat.zero_le _, h0⟩, ?_⟩
    rintro i m σ H ⟨rfl, le, p⟩
    have q := hl i σ H le p
    by_cases lt : i < xs.length
    · refine .inr ⟨go i H lt q, Pv (i + 1), fun σ' H' p' => ⟨xs.length - (i + 1), by omega, rfl, lt, p'⟩, fun v H' y => ?_⟩
      obtain ⟨T, x, rfl, nT, rfl, ex⟩ := yld i H v H' lt q y
      exact hs i x σ H T ex p nT
    · obtain rfl : i = xs.length := by omega
      exact .inl ⟨stop _ H rfl q, hd σ H p⟩
  have q0 := hl 0 σ H (Nat.zero_le _) h0
  rcases ko with rfl | rfl
  · exact ⟨a, xs, rfl, .inl ⟨SqL.of q0, fin _ (fun i H lt q => ⟨xs, xs[i], SqL.of q, by simp [lt]⟩) (fun i H e' q => ⟨xs, SqL.of q, by omega⟩)
      (fun i H v H' lt q ⟨T, x, e1, e2, e3, e4⟩ => ⟨T, x, e1, e2, e3, e4 xs (SqL.of q)⟩)⟩⟩
  · exact ⟨a, xs, rfl, .inr ⟨SqT.of q0, fin _ (fun i H lt q => ⟨xs, xs[i], SqT.of q, by simp [lt]⟩) (fun i H e' q => ⟨xs, SqT.of q, by omega⟩)
      (fun i H v H' lt q ⟨T, x, e1, e2, e3, e4⟩ => ⟨T, x, e1, e2, e3, e4 xs (SqT.of q)⟩)⟩⟩
theorem ok_first (F : Fun K "first_bad" "first_bad" sFirst f fd) (FL : Fun K "is_list" "is_list" sIsList fL fdL) (gIL : mg "is_list" = some (.ref fL)) (FO : Fun K "is_one_of" "is_one_of" sIsOne fO fdO) (gIO : mg "is_one_of" = some (.ref fO))
    (gI : mg "isinstance" = none) (gL : mg "list" = none) (gT : mg "tuple" = none) (gS : mg "str" = none) (gE : mg "enumerate" = none) : FnOk P w K mg base CX0 2 f fd ["names", "things"] (spFirst K) := by
  have GL : FnOk P w K mg base CX0 1 fL fdL ["thing"] (spIsList K) := ok_isList FL gI gL gT
  have bL := FL.binds (ps := ["thing"]) fun _ _ _ _ _ _ us hl => match us, hl with | [_], _ => rfl
  have GO : FnOk P w K mg base CX0 1 fO fdO ["names", "thing"] (spIsOne K) := ok_isOne FO gI gS
  have bO := FO.binds (ps := ["names", "thing"]) fun _ _ _ _ _ _ us hl => match us, hl with | [_, _], _ => rfl
  refine F.ok scFirst (fun vs H Q E h => by obtain ⟨c, a, ns, known, e, _⟩ := h; rw [e]; rfl) fun cdv A outer s H vs Q E hr hsp => ?_
  obtain ⟨c, a, ns, known, rfl, hc, hS, nd1, sub, short, hq⟩ := hsp
  have nd := scFirst.nd
  have hu := hu_of hr
  refine ⟨_, pss_cons (ps_if (pt_not (pt_val (pe_call GL hr rfl gIL FL.kp bL .nil pass0 (pa_cons (pv 1) pa_nil)))) (pss_one ps_never) pss_nil)
    (pss_cons (ps_set (i := 2) nd rfl (Or.inl rfl) pe_dnewK)
    (pss_cons (ps_for PassesOwn.never rfl (pi_enumS rfl gE (pa_cons (pv 1) pa_nil)) (pg_tup rfl (pgs_cons (pg_name (i := 3) nd rfl (Or.inl rfl)) (pgs_cons (pg_name (i := 4) nd rfl (Or.inl rfl)) pgs_nil)))
      (pss_cons (ps_if (PW.pt (pw_or (pt_not (pt_val (pe_call GO hr rfl gIO FO.kp bO .nil pass0 (pa_cons (pv 0) (pa_cons (pv 4) pa_nil))))) (pw_or1 (pt_cmp (pc_din hu (pv 4) (pv 2)))))) (pss_one ps_never) pss_nil)
      (pss_one (ps_dput hu (pv 2) (pv 4) pe_bl rfl))))
    (pss_one (ps_ret pe_non)))), ?_⟩
  refine ⟨_, rfl, a, _, rfl, hS, fun H1 k1 => ⟨_, rfl, iteF fun d nd2 => ?_⟩⟩
  have kd := same_new (o := .dK []) nd2
  obtain ⟨o, ho, ko⟩ : ∃ o, H1 a = some o ∧ (o = .lst (known.map V.str) ∨ o = .tup (known.map V.str)) := by
    rcases hS.same k1 with e | e
    · exact ⟨_, e, .inl rfl⟩
    · exact ⟨_, e, .inr rfl⟩
  refine ⟨_, rfl, enum_seq ko (fun i σ H' => H' d = some (.dK (seenD (known.take i))) ∧ Same H1 H' ∧ ∃ s3 s4, σ = [some (.ref c), some (.ref a), some (.ref d), s3, s4])
    ⟨upd_same, kd, _, _, rfl⟩ (fun i σ H' _ h => h.2.1 _ _ ho) ?_ ?_⟩
  · rintro i v σ H2 T ev ⟨od, s2, s3, s4, rfl⟩ nT
    rw [List.getElem?_map] at ev
    obtain ⟨x, ex, rfl⟩ := Option.map_eq_some_iff.mp ev
    have hi : i < known.length := (List.getElem?_eq_some_iff.mp ex).1
    have kT := same_new (o := .tup [.int (i : Nat), .str x]) nT
    refine ⟨T, _, rfl, SqT.of upd_same, rfl, ?_⟩
    have e1 : known.take (i + 1) = known.take i ++ [x] := by rw [List.take_succ, ex]; rfl
    have notin : x ∉ known.take i := fun m => by
      have z := nd1
      rw [← List.take_append_drop (i + 1) known, e1, List.append_assoc, List.nodup_append] at z
      exact z.2.2 x m x (by simp) rfl
    have xin : x ∈ ns := sub x (List.mem_of_getElem? ex)
    refine ⟨_, _, rfl, _, _, rfl, rfl, ?_⟩
    refine ⟨_, rfl, _, rfl, c, ns, x, rfl, SqL.of (kT _ _ (s2 _ _ (k1 _ _ hc))), _, rfl, ?_⟩
    rw [decide_eq_true xin]
    refine iteF ⟨_, rfl, _, rfl, d, _, rfl, DGet.k (k := Sum.inr x) (kT _ _ od), ?_⟩
    rw [seen_none notin]
    refine ⟨_, rfl, iteF ?_⟩
    have small : (seenD (known.take i)).length < sizeLine := by
      rw [sizeLine_eq]
      unfold seenD
      rw [List.length_map, List.length_take]; omega
    refine ⟨_, rfl, _, rfl, d, _, rfl, DPut.k (k := Sum.inr x) (kT _ _ od) small, ?_, ?_, _, _, rfl⟩
    · rw [upd_same, seen_put notin, ← e1]
    · intro b u e
      have nb : b ≠ d := ne_of_none e nd2
      rw [upd_ne nb]
      exact kT _ _ (s2 _ _ e)
  · rintro σ H2 ⟨od, s2, s3, s4, rfl⟩
    exact hq _ (k1.trans s2)
end
end L2.TB
namespace L2.TB
open PySem PySem.Spec PyProof.Rows
/-! the checks, where nothing is wrong -/
def spCkA (K : PySem.W.Frag) : Sp := fun vs H Q _ => ∃ (c : Addr) (ns : List Str) (x : Str), vs = [.ref c, .str x] ∧ SqL K H c (ns.map V.str) ∧ x ∈ ns ∧ Q .non H
def spCkB (K : PySem.W.Frag) : Sp := fun vs H Q _ => ∃ (c a : Addr) (ns known : List Str) (x : Str), vs = [.ref c, .ref a, .str x] ∧ H c = some (.lst (ns.map V.str)) ∧ SqA K H a (known.map V.str) ∧ known.Nodup ∧ (∀ x ∈ known, x ∈ ns) ∧ known.length < 1000 ∧ x ∈ ns ∧ ∀ H', Same H H' → Q .non H'
theorem scCkK : FnScope ["names", "known", "index"] ["names", "known"] (defScope sCkK) := ⟨rfl, rfl, rfl, by decide +kernel, rfl, by decide +kernel, by decide +kernel⟩
theorem scCkA : FnScope ["names", "asked"] ["names", "asked"] (defScope sCkA) := ⟨rfl, rfl, rfl, by decide +kernel, rfl, by decide +kernel, by decide +kernel⟩
theorem scCkB : FnScope ["names", "known", "asked"] ["names", "known", "asked"] (defScope sCkB) := ⟨rfl, rfl, rfl, by decide +kernel, rfl, by decide +kernel, by decide +kernel⟩
/-- what the checks need of the module -/
structure Chk (K : PySem.W.Frag) (mg : Str → Option Value) (aF aL aO aK aA aB : Addr) : Prop where
  F : ∃ fd, Fun K "first_bad" "first_bad" sFirst aF fd
  L : ∃ fd, Fun K "is_list" "is_list" sIsList aL fd
  O : ∃ fd, Fun K "is_one_of" "is_one_of" sIsOne aO fd
  CK : ∃ fd, Fun K "check_known" "check_known" sCkK aK fd
  CA : ∃ fd, Fun K "check_asked" "check_asked" sCkA aA fd
  CB : ∃ fd, Fun K "check_both" "check_both" sCkB aB fd
  gF : mg "first_bad" = some (.ref aF)
  gL : mg "is_list" = some (.ref aL)
  gO : mg "is_one_of" = some (.ref aO)
  gCK : mg "check_known" = some (.ref aK)
  gCA : mg "check_asked" = some (.ref aA)
  gCB : mg "check_both" = some (.ref aB)
  nI : mg "isinstance" = none
  nL : mg "list" = none
  nT : mg "tuple" = none
  nS : mg "str" = none
  nE : mg "enumerate" = none
section
variable {P : Program} {w : World} {K : PySem.W.Frag} {mg : Str → Option Value} {base : Heap} {aF aL aO aK aA aB : Addr} {fd : FuncData}
theorem ok_ckK (C : Chk K mg aF aL aO aK aA aB) (F : Fun K "check_known" "check_known" sCkK aK fd) : FnOk P w K mg base CX0 3 aK fd ["names", "known"] (spFirst K) := by
  obtain ⟨fdF, FF⟩ := C.F
  obtain ⟨fdL, FL⟩ := C.L
  obtain ⟨fdO, FO⟩ := C.O
  have G : FnOk P w K mg base CX0 2 aF fdF ["names", "things"] (spFirst K) := ok_first FF FL C.gL FO C.gO C.nI C.nL C.nT C.nS C.nE
  have b := FF.binds (ps := ["names", "things"]) fun _ _ _ _ _ _ us hl => match us, hl with | [_, _], _ => rfl
  refine F.ok scCkK (fun vs H Q E h => by obtain ⟨c, a, ns, known, e, _⟩ := h; rw [e]; rfl) fun cdv A outer s H vs Q E hr hsp => ?_
  obtain ⟨c, a, ns, known, rfl, hc, hS, nd1, sub, short, hq⟩ := hsp
  have nd := scCkK.nd
  refine ⟨_, pss_cons (ps_set (i := 2) nd rfl (Or.inl rfl) (pe_call G hr rfl C.gF FF.kp b .nil pass0 (pa_cons (pv 0) (pa_cons (pv 1) pa_nil))))
    (pss_one (ps_if (pt_cmp (pc_notN (pv 2))) (pss_one ps_never) pss_nil)), ?_⟩
  refine ⟨_, rfl, _, rfl, c, a, ns, known, rfl, hc, hS, nd1, sub, short, fun H1 k1 => ?_⟩
  exact ⟨_, rfl, _, rfl, iteF (hq H1 k1)⟩
theorem ok_ckA (C : Chk K mg aF aL aO aK aA aB) (F : Fun K "check_asked" "check_asked" sCkA aA fd) : FnOk P w K mg base CX0 2 aA fd ["names", "asked"] (spCkA K) := by
  obtain ⟨fdO, FO⟩ := C.O
  have G : FnOk P w K mg base CX0 1 aO fdO ["names", "thing"] (spIsOne K) := ok_isOne FO C.nI C.nS
  have b := FO.binds (ps := ["names", "thing"]) fun _ _ _ _ _ _ us hl => match us, hl with | [_, _], _ => rfl
  refine F.ok scCkA (fun vs H Q E h => by obtain ⟨c, ns, x, e, _⟩ := h; rw [e]; rfl) fun cdv A outer s H vs Q E hr hsp => ?_
  obtain ⟨c, ns, x, rfl, hc, xin, hq⟩ := hsp
  refine ⟨_, pss_one (ps_if (pt_not (pt_val (pe_call G hr rfl C.gO FO.kp b .nil pass0 (pa_cons (pv 0) (pa_cons (pv 1) pa_nil))))) (pss_one ps_never) pss_nil), ?_⟩
  refine ⟨_, rfl, _, rfl, c, ns, x, rfl, hc, _, rfl, ?_⟩
  rw [decide_eq_true xin]
  exact iteF hq
theorem ok_ckB (C : Chk K mg aF aL aO aK aA aB) (F : Fun K "check_both" "check_both" sCkB aB fd) : FnOk P w K mg base CX0 4 aB fd ["names", "known", "asked"] (spCkB K) := by
  obtain ⟨fdK, FK⟩ := C.CK
  obtain ⟨fdA, FA⟩ := C.CA
  have GK := ok_ckK (P := P) (w := w) (base := base) C FK
  have bK := FK.binds (ps := ["names", "known"]) fun _ _ _ _ _ _ us hl => match us, hl with | [_, _], _ => rfl
  have GA := ok_ckA (P := P) (w := w) (base := base) C FA
  have bA := FA.binds (ps := ["names", "asked"]) fun _ _ _ _ _ _ us hl => match us, hl with | [_, _], _ => rfl
  refine F.ok scCkB (fun vs H Q E h => by obtain ⟨c, a, ns, known, x, e, _⟩ := h; rw [e]; rfl) fun cdv A outer s H vs Q E hr hsp => ?_
  obtain ⟨c, a, ns, known, x, rfl, hc, hS, nd1, sub, short, xin, hq⟩ := hsp
  refine ⟨_, pss_cons (ps_expr (pe_call GK hr rfl C.gCK FK.kp bK .nil pass0 (pa_cons (pv 0) (pa_cons (pv 1) pa_nil))))
    (pss_one (ps_expr (pe_call GA (hr.mono (by decide)) rfl C.gCA FA.kp bA .nil pass0 (pa_cons (pv 0) (pa_cons (pv 2) pa_nil))))), ?_⟩
  refine ⟨_, rfl, _, rfl, c, a, ns, known, rfl, hc, hS, nd1, sub, short, fun H1 k1 => ?_⟩
  exact ⟨_, rfl, _, rfl, c, ns, x, rfl, SqL.of (k1 _ _ hc), xin, hq H1 k1⟩
end
end L2.TB
namespace L2.TB
open PySem PySem.Spec PyProof.Rows
/-! what is walked is a list or a tuple -/
def iSeq (K : PySem.W.Frag) (tl : TE) : TI := fun σ H R => tl σ H fun x H1 => ∃ a xs, x = .ref a ∧ ((SqL K H1 a xs ∧ R (Itl K a) H1) ∨ (SqT K H1 a xs ∧ R (Itt K a) H1))
theorem pi_seq {X : Cx} {tg l : Expr} {tl : TE} (hl : PE X l tl) : PI X tg l (iSeq X.K tl) := by
  refine PI.mk fun pins z σ H R I reading => thn (hl.run pins z σ H _ I reading) fun v z1 ⟨x, H1, I1, rel, a, xs, ex, both⟩ => ?_
  subst ex
  obtain rfl : v = Value.ref a := rel
  have one : ∀ (o : Obj), FpOk X pins H1 z1.heap.objs.size := fun _ => I1.fpOk (Nat.le_refl _) (I1.hok.fresh (Nat.le_refl _))
  have fresh : ∀ b ∈ [z1.heap.objs.size], FpOk X pins H1 b := fun b hb => by
    obtain rfl := List.mem_singleton.mp hb
    exact I1.fpOk (Nat.le_refl _) (I1.hok.fresh (Nat.le_refl _))
  rcases both with ⟨sq, q⟩ | ⟨sq, q⟩
  · obtain ⟨its, rv, isL, _⟩ := I1.list sq
    exact wpAny_pyIter_list isL.isList ⟨_, _, _, _, H1, rfl, I1.kept (t' := z1.toks) (fun b o e => Heap.get?_push_of_some _ e), turn_list a _, ⟨_, Heap.get?_push_size _ rfl, rfl, rfl⟩, fresh, q⟩
  · obtain ⟨its, rv, isT, _⟩ := I1.tuple sq
    exact wpAny_pyIter_tuple (show z1.heap.IsTuple a its.toArray from isT) ⟨_, _, _, _, H1, rfl, I1.kept (t' := z1.toks) (fun b o e => Heap.get?_push_of_some _ e), turn_tuple a _, ⟨_, Heap.get?_push_size _ rfl, rfl, rfl⟩, fresh, q⟩
/-- a for loop over it -/
theorem for_seq {K : PySem.W.Frag} {a : Addr} {xs : List V} {o : HO} {g : TG} {tb : TS} {D : Ends} {σ : St} {H : Hp} (ko : o = .lst xs ∨ o = .tup xs) (Pv : Nat → St → Hp → Prop) (h0 : Pv 0 σ H) (hl : ∀ i σ H, i ≤ xs.length → Pv i σ H → H a = some o)
    (hs : ∀ i x σ H, xs[i]? = some x → Pv i σ H → g x σ H fun σ2 H2 => tb { D with nx := Pv (i + 1), ct := Pv (i + 1), bk := D.nx } σ2 H2) (hd : ∀ σ H, Pv xs.length σ H → D.nx σ H) :
    ∃ b ys, V.ref a = V.ref b ∧ ((SqL K H b ys ∧ ForW (Itl K b) g tb D σ H) ∨ (SqT K H b ys ∧ ForW (Itt K b) g tb D σ H)) := by
  have q0 := hl 0 σ H (Nat.zero_le _) h0
  rcases ko with rfl | rfl
  · exact ⟨a, xs, rfl, .inl ⟨SqL.of q0, for_list Pv h0 (fun i σ H le p => SqL.of (hl i σ H le p)) hs hd⟩⟩
  · exact ⟨a, xs, rfl, .inr ⟨SqT.of q0, for_tup Pv h0 (fun i σ H le p => SqT.of (hl i σ H le p)) hs hd⟩⟩
/-- what a list comprehension asks of its turns -/
def LcW (J : It) (g : TG) (tt : TT) (te : TE) (vs : List Nat) (σ : St) (H1 : Hp) (Q : Addr → Hp → Prop) : Prop := ∀ D, H1 D = none → ∃ W : Nat → Nat → Hp → Prop, (∃ m, W 0 m (upd H1 D (.lst []))) ∧ ∀ i m H, W i m H →
  (J.stop i H ∧ Q D H) ∨ (J.go i H ∧ ∃ Nx : Hp → Prop, (∀ H', Nx H' → ∃ m', m' < m ∧ W (i + 1) m' H') ∧ ∀ x H', J.yld i H x H' → g x (wipe σ vs) H' fun σ2 H2 => wipe σ2 vs = wipe σ vs ∧ tt σ2 H2 fun b H3 =>
    if b = true then te σ2 H3 fun y H4 => ∃ acc, H4 D = some (.lst acc) ∧ acc.length < sizeLine ∧ Nx (upd H4 D (.lst (acc ++ [y]))) else Nx H3)
/-- a turn of a comprehension: keep tells whether x is kept, fv x is what is made of it; nothing that was there is changed -/
def LcTurn (g : TG) (tt : TT) (te : TE) (vs : List Nat) (σ : St) (xs : List V) (keep : V → Bool) (fv : V → V) (H1 : Hp) : Prop :=
  ∀ (i : Nat) (x : V) (H : Hp) (C : V → Hp → Prop) (N : Hp → Prop), xs[i]? = some x → Same H1 H → (keep x = true → ∀ H4, Same H H4 → C (fv x) H4) → (keep x = false → ∀ H4, Same H H4 → N H4) →
    g x (wipe σ vs) H fun σ2 H2 => wipe σ2 vs = wipe σ vs ∧ tt σ2 H2 fun b H3 => if b = true then te σ2 H3 C else N H3
theorem filter_snoc (keep : V → Bool) (fv : V → V) {xs : List V} {i : Nat} {x : V} (ex : xs[i]? = some x) :
    ((xs.take (i + 1)).filter keep).map fv = ((xs.take i).filter keep).map fv ++ (if keep x = true then [fv x] else []) := by
  have e1 : xs.take (i + 1) = xs.take i ++ [x] := by rw [List.take_succ, ex]; rfl
  rw [e1, List.filter_append, List.map_append]
  congr 1
  cases h : keep x <;> simp [h]
theorem lc_seq {K : PySem.W.Frag} {a : Addr} {xs : List V} {o : HO} {g : TG} {tt : TT} {te : TE} {vs : List Nat} {σ : St} {H1 : Hp} {Q : Addr → Hp → Prop} (ko : o = .lst xs ∨ o = .tup xs) (ho : H1 a = some o) (short : xs.length < 1000000) (keep : V → Bool) (fv : V → V)
    (turn : LcTurn g tt te vs σ xs keep fv H1) (fin : ∀ H D, H1 D = none → H D = some (.lst ((xs.filter keep).map fv)) → Same H1 H → Q D H) :
    ∃ b ys, V.ref a = V.ref b ∧ ((SqL K H1 b ys ∧ LcW (Itl K b) g tt te vs σ H1 Q) ∨ (SqT K H1 b ys ∧ LcW (Itt K b) g tt te vs σ H1 Q)) := by
  have go : ∀ D, H1 D = none → ∀ (i : Nat) (x : V) (H : Hp), xs[i]? = some x → (H D = some (.lst (((xs.take i).filter keep).map fv)) ∧ Same H1 H) → g x (wipe σ vs) H fun σ2 H2 => wipe σ2 vs = wipe σ vs ∧ tt σ2 H2 fun b H3 =>
      if b = true then te σ2 H3 fun y H4 => ∃ acc, H4 D = some (.lst acc) ∧ acc.length < sizeLine ∧ ((upd H4 D (.lst (acc ++ [y]))) D = some (.lst (((xs.take (i + 1)).filter keep).map fv)) ∧ Same H1 (upd H4 D (.lst (acc ++ [y])))) else (H3 D = some (.lst (((xs.take (i + 1)).filter keep).map fv)) ∧ Same H1 H3) := by
    rintro D nD i x H ex ⟨oD, s1⟩
    refine turn i x H _ _ ex s1 (fun k H4 s4 => ⟨_, s4 _ _ oD, ?_, ?_, ?_⟩) (fun k H4 s4 => ⟨?_, s1.trans s4⟩)
    · rw [sizeLine_eq, List.length_map]
      have := List.length_filter_le keep (xs.take i)
      rw [List.length_take] at this
      omega
    · rw [upd_same, filter_snoc keep fv ex, if_pos k]
    · intro b u e
      have nb : b ≠ D := ne_of_none e nD
      rw [upd_ne nb]
      exact s4 _ _ (s1 _ _ e)
    · rw [filter_snoc keep fv ex, k]
      simpa using s4 _ _ oD
  have all : xs.take xs.length = xs := List.take_length
  rcases ko with rfl | rfl
  · exact ⟨a, xs, rfl, .inl ⟨SqL.of ho, fun D nD => lc_list (xs := xs) (fun i H => H D = some (.lst (((xs.take i).filter keep).map fv)) ∧ Same H1 H) ⟨upd_same, same_new nD⟩ (fun i H _ p => SqL.of (p.2 _ _ ho)) (fun i x H ex p => go D nD i x H ex p)
      (fun H p => fin H D nD (by rw [all] at p; exact p.1) p.2)⟩⟩
  · exact ⟨a, xs, rfl, .inr ⟨SqT.of ho, fun D nD => lc_tup (xs := xs) (fun i H => H D = some (.lst (((xs.take i).filter keep).map fv)) ∧ Same H1 H) ⟨upd_same, same_new nD⟩ (fun i H _ p => SqT.of (p.2 _ _ ho)) (fun i x H ex p => go D nD i x H ex p)
      (fun H p => fin H D nD (by rw [all] at p; exact p.1) p.2)⟩⟩
end L2.TB
namespace L2.TB
open PySem PySem.Spec PyProof.Rows
/-! the table and its methods -/
def tabF (qa ra : Addr) : List (Str × V) := [("_questions", .ref qa), ("_rows", .ref ra)]
theorem tabF_q (qa ra : Addr) : (tabF qa ra).lookup ("_questions" : Str) = some (V.ref qa) := rfl
theorem tabF_r (qa ra : Addr) : (tabF qa ra).lookup ("_rows" : Str) = some (V.ref ra) := rfl
/-- the rows of the list at ra -/
def TRows (H : Hp) (ra : Addr) (n : Nat) (tbl : List (List Int)) : Prop := ∃ ps : List Addr, H ra = some (.lst (ps.map V.ref)) ∧ Paired (fun p vs => H p = some (.tup (vs.map V.int)) ∧ vs.length = n) ps tbl
structure TabAt (H : Hp) (C a : Addr) (ns : List Str) (tbl : List (List Int)) : Prop where
  ex : ∃ dx qa ra, H a = some (.ins C dx (tabF qa ra)) ∧ H qa = some (.lst (ns.map V.str)) ∧ TRows H ra ns.length tbl
theorem TRows.same {H H' : Hp} {ra : Addr} {n : Nat} {tbl : List (List Int)} (t : TRows H ra n tbl) (s : Same H H') : TRows H' ra n tbl := by
  obtain ⟨ps, o, r⟩ := t
  exact ⟨ps, s _ _ o, Paired.mapP r fun p vs h => ⟨s _ _ h.1, h.2⟩⟩
theorem TabAt.same {H H' : Hp} {C a : Addr} {ns : List Str} {tbl : List (List Int)} (t : TabAt H C a ns tbl) (s : Same H H') : TabAt H' C a ns tbl := by
  obtain ⟨dx, qa, ra, h1, h2, h3⟩ := t.ex
  exact ⟨dx, qa, ra, s _ _ h1, s _ _ h2, h3.same s⟩
structure TabC (K : PySem.W.Frag) (C : Addr) : Prop where
  cl : Cls K C
  nQ : NoAttr K C "_questions"
  nR : NoAttr K C "_rows"
def spQs (K : PySem.W.Frag) (C : Addr) : Sp := fun vs H Q _ => ∃ (a : Addr) (ns : List Str) (tbl : List (List Int)), vs = [.ref a] ∧ TabAt H C a ns tbl ∧ ∀ H' q, H q = none → H' q = some (.lst (ns.map V.str)) → Same H H' → Q (.ref q) H'
def idx (ns : List Str) (x : Str) : Nat := ns.idxOf x
def spPlaces (K : PySem.W.Frag) (C : Addr) : Sp := fun vs H Q _ => ∃ (a b : Addr) (ns known : List Str) (tbl : List (List Int)), vs = [.ref a, .ref b] ∧ TabAt H C a ns tbl ∧ SqA K H b (known.map V.str) ∧ (∀ x ∈ known, x ∈ ns) ∧ known.length < 1000 ∧
  ∀ H' q, H q = none → H' q = some (.lst (known.map fun x => V.int (idx ns x : Nat))) → Same H H' → Q (.ref q) H'
theorem scQs : FnScope ["self"] ["self"] (defScope sQs) := ⟨rfl, rfl, rfl, by decide +kernel, rfl, by decide +kernel, by decide +kernel⟩
abbrev NP : List Str := ["self", "names", "name"]
theorem scPlaces : FnScope NP ["self", "names"] (defScope sPlaces) := ⟨rfl, rfl, rfl, by decide +kernel, rfl, by decide +kernel, by decide +kernel⟩
theorem idx_at {ns : List Str} {x : Str} (h : x ∈ ns) : (ns.map V.str)[idx ns x]? = some (.str x) ∧ ∀ (m : Nat) (z : V), m < idx ns x → (ns.map V.str)[m]? = some z → eqV z (.str x) = false := by
  have lt : idx ns x < ns.length := List.idxOf_lt_length_of_mem h
  refine ⟨?_, fun m z lm ez => ?_⟩
  · rw [List.getElem?_map, List.getElem?_eq_getElem lt]
    have e : ns[idx ns x] = x := List.getElem_idxOf lt
    rw [e]; rfl
  · rw [List.getElem?_map] at ez
    obtain ⟨y, ey, rfl⟩ := Option.map_eq_some_iff.mp ez
    rw [str_inj]
    refine decide_eq_false fun q => ?_
    subst q
    have : idx ns y ≤ m := by
      obtain ⟨hm, em⟩ := List.getElem?_eq_some_iff.mp ey
      by_cases c : m < idx ns y
      · have z := List.not_of_lt_findIdx (p := fun a => a == y) (xs := ns) (i := m) c
        rw [em] at z
        simp at z
      · omega
    omega
section
variable {P : Program} {w : World} {K : PySem.W.Frag} {mg : Str → Option Value} {base : Heap} {f C : Addr} {fd : FuncData}
theorem ok_qs (F : Fun K "questions" "Table.questions" sQs f fd) (T : TabC K C) (gL : mg "list" = none) : FnOk P w K mg base CX0 1 f fd ["self"] (spQs K C) := by
  refine F.ok scQs (fun vs H Q E h => by obtain ⟨a, ns, tbl, e, _⟩ := h; rw [e]; rfl) fun cdv A outer s H vs Q E hr hsp => ?_
  obtain ⟨a, ns, tbl, rfl, ⟨dx, qa, ra, ha, hqa, hra⟩, hq⟩ := hsp
  refine ⟨_, pss_one (ps_ret (pe_callTy call_list_of rfl gL (by decide +kernel) (pa_cons (pe_fld (pv 0) rfl) pa_nil))), ?_⟩
  exact ⟨_, rfl, _, _, _, _, _, rfl, ha, T.cl, T.nQ, tabF_q _ _, _, _, rfl, .inl (SqL.of hqa), fun q nq => hq _ q nq upd_same (same_new nq)⟩
theorem ok_places (F : Fun K "_places" "Table._places" sPlaces f fd) (T : TabC K C) : FnOk P w K mg base CX0 1 f fd ["self", "names"] (spPlaces K C) := by
  refine F.ok scPlaces (fun vs H Q E h => by obtain ⟨a, b, ns, known, tbl, e, _⟩ := h; rw [e]; rfl) fun cdv A outer s H vs Q E hr hsp => ?_
  obtain ⟨a, b, ns, known, tbl, rfl, ⟨dx, qa, ra, ha, hqa, hra⟩, hb, sub, short, hq⟩ := hsp
  have nd := scPlaces.nd
  refine ⟨_, pss_one (ps_ret (pe_lc (own := [("name", 2)]) (tt := tYes) (te := tBM K "list" (rIndex K) (tFld K (tVar 0) "_questions") (tCons (tVar 2) tNil)) rfl nd (pi_seq (pv 1)) (blkOk_by (N := NP) (sc := defScope sPlaces) (by decide +kernel))
    (fun _ _ _ _ _ => pg_name (i := 2) nd rfl (Or.inl rfl)) (fun _ _ _ _ _ => pts_nil) (fun _ _ _ _ _ => pe_bm PySem.F.plainAttrs_list PySem.F.slot_list_index PySem.F.type_list_index mt_index (pe_fld (pv 0) rfl) (pa_cons (pv 2) pa_nil)))), ?_⟩
  obtain ⟨o, ho, ko⟩ : ∃ o, H b = some o ∧ (o = .lst (known.map V.str) ∨ o = .tup (known.map V.str)) := by
    rcases hb with e | e
    · exact ⟨_, e, .inl rfl⟩
    · exact ⟨_, e, .inr rfl⟩
  refine ⟨_, rfl, lc_seq ko ho (by rw [List.length_map]; omega) (fun _ => true) (fun v => match v with | .str x => .int (idx ns x : Nat) | _ => .non) ?_ ?_⟩
  · rintro i v H2 D N ev s2 yes no
    rw [List.getElem?_map] at ev
    obtain ⟨x, ex, rfl⟩ := Option.map_eq_some_iff.mp ev
    have xin : x ∈ ns := sub x (List.mem_of_getElem? ex)
    obtain ⟨i1, i2⟩ := idx_at xin
    refine ⟨rfl, ?_⟩
    refine ⟨_, rfl, _, _, _, _, _, rfl, s2 _ _ ha, T.cl, T.nQ, tabF_q _ _, .inl ⟨rfl, _, SqL.of (s2 _ _ hqa)⟩, _, rfl, ?_⟩
    exact ⟨qa, _, .str x, idx ns x, .str x, rfl, rfl, SqL.of (s2 _ _ hqa), rfl, flat_strs ns, i1, by rw [str_inj]; simp, i2, yes rfl H2 (Same.refl _)⟩
  · intro H2 q nq oq s2
    refine hq H2 q nq ?_ s2
    rw [oq, List.filter_eq_self.mpr (fun _ _ => rfl), List.map_map]
    rfl
end
end L2.TB
namespace L2.TB
open PySem PySem.Spec PyProof.Rows
/-! two rows that part -/
/-- the answer of a row -/
def av (ns : List Str) (vs : List Int) (x : Str) : Int := vs.getD (idx ns x) 0
def keyR (ns known : List Str) (vs : List Int) : List Int := known.map (av ns vs)
def keyK (ks : List Int) : List Key := ks.map Sum.inl
theorem keyK_kV (ks : List Int) : (keyK ks).map kV = ks.map V.int := by
  unfold keyK; rw [List.map_map]; rfl
theorem keyK_inj {a b : List Int} (h : keyK a = keyK b) : a = b := by
  unfold keyK at h
  exact (List.map_inj_right (fun x y e => Sum.inl.inj e)).mp h
/-- known tells asked, over these rows -/
def Tells (ns : List Str) (tbl : List (List Int)) (known : List Str) (x : Str) : Prop := ∀ u ∈ tbl, ∀ v ∈ tbl, keyR ns known u = keyR ns known v → av ns u x = av ns v x
instance (ns tbl known x) : Decidable (Tells ns tbl known x) := by unfold Tells; exact inferInstance
def spParting (K : PySem.W.Frag) (C : Addr) : Sp := fun vs H Q _ => ∃ (a b : Addr) (ns known : List Str) (x : Str) (tbl : List (List Int)), vs = [.ref a, .ref b, .str x] ∧ TabAt H C a ns tbl ∧ SqA K H b (known.map V.str) ∧ (∀ x ∈ known, x ∈ ns) ∧ known.length < 1000 ∧ x ∈ ns ∧ tbl.length < 1000 ∧
  (Tells ns tbl known x → ∀ H', Same H H' → Q .non H') ∧
  (¬ Tells ns tbl known x → ∀ H' t p q u v, H t = none → H' t = some (.tup [.ref p, .ref q]) → u ∈ tbl → v ∈ tbl → H' p = some (.tup (u.map V.int)) → H' q = some (.tup (v.map V.int)) → keyR ns known u = keyR ns known v → av ns u x ≠ av ns v x → Same H H' → Q (.ref t) H')
abbrev NPa : List Str := ["self", "known", "asked", "places", "place", "first", "row", "key", "k"]
theorem scParting : FnScope NPa ["self", "known", "asked"] (defScope sParting) := ⟨rfl, rfl, rfl, by decide +kernel, rfl, by decide +kernel, by decide +kernel⟩
/-- what the dict of first rows knows behind i rows -/
structure First (ns known : List Str) (x : Str) (ps : List Addr) (tbl : List (List Int)) (i : Nat) (kvs : List (List Key × V)) : Prop where
  has : ∀ (j : Nat) (v : List Int), j < i → tbl[j]? = some v → ∃ (j0 : Nat) (u : List Int), tbl[j0]? = some u ∧ ∃ p : Addr, ps[j0]? = some p ∧ valV kvs (keyK (keyR ns known v)) = some (.ref p) ∧ keyR ns known u = keyR ns known v ∧ av ns u x = av ns v x
  from_ : ∀ (k : List Key) (y : V), valV kvs k = some y → ∃ (j : Nat) (u : List Int) (p : Addr), tbl[j]? = some u ∧ ps[j]? = some p ∧ y = .ref p ∧ k = keyK (keyR ns known u)
  len : kvs.length ≤ i
theorem av_at {ns : List Str} {vs : List Int} {x : Str} (h : x ∈ ns) (hl : vs.length = ns.length) : atI (vs.map V.int) ((idx ns x : Nat) : Int) = some (.int (av ns vs x)) := by
  have lt : idx ns x < ns.length := List.idxOf_lt_length_of_mem h
  refine atI_nat ?_
  rw [List.getElem?_map, List.getElem?_eq_getElem (by omega)]
  unfold av
  rw [List.getD_eq_getElem?_getD, List.getElem?_eq_getElem (by omega)]
  rfl
theorem paired_get {α β : Type} {F : α → β → Prop} {as : List α} {bs : List β} (p : Paired F as bs) : ∀ {i : Nat} {a : α}, as[i]? = some a → ∃ b, bs[i]? = some b ∧ F a b := by
  induction p with
  | nil => intro i a h; simp at h
  | cons h t ih =>
    intro i a e
    cases i with
    | zero =>
      obtain rfl := Option.some.inj e
      exact ⟨_, rfl, h⟩
    | succ i => exact ih (i := i) e
section
variable {P : Program} {w : World} {K : PySem.W.Frag} {mg : Str → Option Value} {base : Heap} {f C fP : Addr} {fd fdP : FuncData}
theorem ok_parting (F : Fun K "_parting_rows" "Table._parting_rows" sParting f fd) (FP : Fun K "_places" "Table._places" sPlaces fP fdP) (mP : Meth K C "_places" fP) (T : TabC K C) (gT : mg "tuple" = none) : FnOk P w K mg base CX0 2 f fd ["self", "known", "asked"] (spParting K C) := by
  have G : FnOk P w K mg base CX0 1 fP fdP ["self", "names"] (spPlaces K C) := ok_places FP T
  have b := FP.binds (ps := ["self", "names"]) fun _ _ _ _ _ _ us hl => match us, hl with | [_, _], _ => rfl
  refine F.ok scParting (fun vs H Q E h => by obtain ⟨a, b, ns, known, x, tbl, e, _⟩ := h; rw [e]; rfl) fun cdv A outer s H vs Q E hr hsp => ?_
  obtain ⟨a, bk, ns, known, x, tbl, rfl, hT, hb, sub, short, xin, shortT, yes, no⟩ := hsp
  have nd := scParting.nd
  have hu := hu_of hr
  refine ⟨_, pss_cons (ps_set (i := 3) nd rfl (Or.inl rfl) (pe_meth (pv 0) T.cl mP G hr b .nil pass0 (pa_cons (pv 1) pa_nil)))
    (pss_cons (ps_set (i := 4) nd rfl (Or.inl rfl) (pe_bm PySem.F.plainAttrs_list PySem.F.slot_list_index PySem.F.type_list_index mt_index (pe_fld (pv 0) rfl) (pa_cons (pv 2) pa_nil)))
    (pss_cons (ps_set (i := 5) nd rfl (Or.inl rfl) pe_dnewT)
    (pss_cons (ps_for PassesOwn.never rfl (pi_seq (pe_fld (pv 0) rfl)) (pg_name (i := 6) nd rfl (Or.inr rfl))
      (pss_cons (ps_set (i := 7) nd rfl (Or.inl rfl) (pe_callTy call_tuple_of rfl gT boot_tuple' (pa_cons (pe_lc (own := [("k", 8)]) (tt := tYes) rfl nd (pi_seq (pv 3)) (blkOk_by (N := NPa) (sc := defScope sParting) (by decide +kernel))
          (fun _ _ _ _ _ => pg_name (i := 8) nd rfl (Or.inl rfl)) (fun _ _ _ _ _ => pts_nil) (fun _ _ _ _ _ => pe_ix (r := rIxT K) ix_tup (pv 6) (pv 8) (fun _ _ => rfl))) pa_nil)))
      (pss_one (ps_if (pt_cmp (pc_dnotin hu (pv 7) (pv 5))) (pss_one (ps_dput hu (pv 5) (pv 7) (pv 6) rfl))
        (pss_one (ps_if (pt_cmpR op_ne (pe_ix ix_tup (pe_dget hu (pv 5) (pv 7) (fun _ _ => rfl)) (pv 4) (fun _ _ => rfl)) (pe_ix ix_tup (pv 6) (pv 4) (fun _ _ => rfl)) (nomark _))
          (pss_one (ps_ret (pe_tup (pa_cons (pe_dget hu (pv 5) (pv 7) (fun _ _ => rfl)) (pa_cons (pv 6) pa_nil))))) pss_nil))))))
    (pss_one (ps_ret pe_non))))), ?_⟩
  obtain ⟨dx, qa, ra, ha, hqa, hra⟩ := hT.ex
  refine ⟨_, rfl, a, dx, _, rfl, ha, rfl, _, rfl, a, bk, ns, known, tbl, rfl, hT, hb, sub, short, fun H1 pl npl opl s1 => ?_⟩
  obtain ⟨i1, i2⟩ := idx_at xin
  refine ⟨_, rfl, _, _, _, _, _, rfl, s1 _ _ ha, T.cl, T.nQ, tabF_q _ _, .inl ⟨rfl, _, SqL.of (s1 _ _ hqa)⟩, _, rfl, qa, _, .str x, idx ns x, .str x, rfl, rfl, SqL.of (s1 _ _ hqa), rfl, flat_strs ns, i1, by rw [str_inj]; simp, i2, ?_⟩
  intro d nd1
  have sd := same_new (o := .dT []) nd1
  obtain ⟨ps, ora, prs⟩ := hra.same s1
  have lps : ps.length = tbl.length := Paired.length prs
  refine ⟨_, rfl, _, _, _, _, _, rfl, sd _ _ (s1 _ _ ha), T.cl, T.nR, tabF_r _ _, for_seq (.inl rfl) (fun i σ H' => H' ra = some (.lst (ps.map V.ref)) ∧ Same H1 H' ∧ ∃ kvs s6 s7 s8, σ = [some (.ref a), some (.ref bk), some (.str x), some (.ref pl), some (.int (idx ns x : Nat)), some (.ref d), s6, s7, s8] ∧ H' d = some (.dT kvs) ∧ First ns known x ps tbl i kvs)
    ⟨sd _ _ ora, sd, [], _, _, _, rfl, upd_same, ⟨fun j v z => absurd z (Nat.not_lt_zero _), fun k y e => by simp [valV] at e, Nat.zero_le _⟩⟩ (fun i σ H' _ h => h.1) ?_ ?_⟩
  · rintro i vp σ H2 evp ⟨ora2, s2, kvs, s6, s7, s8, rfl, od, FS⟩
    rw [List.getElem?_map] at evp
    obtain ⟨p, ep, rfl⟩ := Option.map_eq_some_iff.mp evp
    obtain ⟨v, ev, op, lv⟩ := paired_get prs ep
    have op2 := s2 _ _ op
    have vin : v ∈ tbl := List.mem_of_getElem? ev
    have hi : i < tbl.length := (List.getElem?_eq_some_iff.mp ev).1
    -- the key
    refine ⟨_, rfl, lc_seq (.inl rfl) (s2 _ _ opl) (by rw [List.length_map]; omega) (fun _ => true) (fun y => match y with | .int n => .int (v.getD n.toNat 0) | _ => .non) ?_ ?_⟩
    · rintro j y H3 Cn Nn ey s3 yes3 no3
      rw [List.getElem?_map] at ey
      obtain ⟨z, ez, rfl⟩ := Option.map_eq_some_iff.mp ey
      have zin : z ∈ ns := sub z (List.mem_of_getElem? ez)
      refine ⟨rfl, ?_⟩
      exact ⟨_, rfl, _, rfl, p, _, _, _, rfl, rfl, SqT.of (s3 _ _ op2), av_at zin lv, yes3 rfl H3 (Same.refl _)⟩
    · intro H3 l nl ol s3
      have ekey : ((known.map fun x => V.int (idx ns x : Nat)).filter fun _ => true).map (fun y => match y with | V.int n => V.int (v.getD n.toNat 0) | _ => V.non) = (keyK (keyR ns known v)).map kV := by
        rw [keyK_kV, List.filter_eq_self.mpr (fun _ _ => rfl), List.map_map]
        unfold keyR
        rw [List.map_map]
        rfl
      rw [ekey] at ol
      refine ⟨l, _, rfl, .inl ⟨SqL.of ol, fun kt nkt => ?_⟩⟩
      have sk := same_new (o := .tup ((keyK (keyR ns known v)).map kV)) nkt
      have ok3 : upd H3 kt (.tup ((keyK (keyR ns known v)).map kV)) kt = some (.tup ((keyK (keyR ns known v)).map kV)) := upd_same
      generalize upd H3 kt (.tup ((keyK (keyR ns known v)).map kV)) = H4 at sk ok3
      have s24 := s3.trans sk
      have od4 := s24 _ _ od
      have op4 := s24 _ _ op2
      have ndk : ∀ {u o}, H1 u = some o → u ≠ d := fun e => ne_of_none e nd1
      refine ⟨_, rfl, _, rfl, d, _, rfl, DGet.t od4 ok3, _, rfl, ?_⟩
      cases ek : valV kvs (keyK (keyR ns known v)) with
      | none =>
        refine iteT ?_
        refine ⟨_, rfl, _, rfl, _, rfl, d, _, rfl, DPut.t od4 ok3 (by rw [sizeLine_eq]; have := FS.len; omega), ?_, ?_, putK kvs (keyK (keyR ns known v)) (.ref p), _, _, _, rfl, upd_same, ?_⟩
        · rw [upd_ne (ndk ora)]; exact s24 _ _ ora2
        · intro b' u' e
          rw [upd_ne (ndk e)]; exact s24 _ _ (s2 _ _ e)
        · refine ⟨fun j v' hj ev' => ?_, fun k y e => ?_, ?_⟩
          · by_cases hji : j = i
            · subst hji
              rw [ev] at ev'
              obtain rfl := Option.some.inj ev'
              exact ⟨j, v, ev, p, ep, by rw [valV_put, if_pos rfl], rfl, rfl⟩
            · obtain ⟨j0, u, eu, p0, ep0, e0, k0, a0⟩ := FS.has j v' (by omega) ev'
              refine ⟨j0, u, eu, p0, ep0, ?_, k0, a0⟩
              rw [valV_put, if_neg, e0]
              intro z
              rw [z, ek] at e0; cases e0
          · rw [valV_put] at e
            by_cases hk : k = keyK (keyR ns known v)
            · rw [if_pos hk] at e
              obtain rfl := Option.some.inj e
              exact ⟨i, v, p, ev, ep, rfl, hk⟩
            · rw [if_neg hk] at e
              exact FS.from_ k y e
          · rw [putK_new _ ek, List.length_append]
            have := FS.len
            show kvs.length + 1 ≤ _
            omega
      | some y =>
        refine iteF ?_
        obtain ⟨j0, u, p0, eu, ep0, rfl, ek0⟩ := FS.from_ _ _ ek
        have ek1 : keyR ns known u = keyR ns known v := (keyK_inj ek0).symm
        obtain ⟨u', eu', op0, lu⟩ := paired_get prs ep0
        rw [eu] at eu'
        obtain rfl := Option.some.inj eu'
        have op04 := s24 _ _ (s2 _ _ op0)
        have uin : u ∈ tbl := List.mem_of_getElem? eu
        have dg : DGet H4 d (.ref kt) (some (.ref p0)) := ek ▸ DGet.t od4 ok3
        refine ⟨_, rfl, _, rfl, d, _, rfl, dg, _, rfl, p0, _, _, _, rfl, rfl, SqT.of op04, av_at xin lu, _, rfl, _, rfl, p, _, _, _, rfl, rfl, SqT.of op4, av_at xin lv, rfl, _, rfl, ite2 (fun e => ?_) (fun e => ?_)⟩
        · refine ⟨_, rfl, _, rfl, d, _, rfl, dg, _, rfl, (by show 2 ≤ sizeLine; decide), fun t nt => ?_⟩
          have st := same_new (o := .tup [.ref p0, .ref p]) nt
          have s14 : Same H1 H4 := s2.trans s24
          have nt0 : H t = none := (s1.trans s14).free nt
          refine no (fun T => ?_) _ t p0 p u v nt0 upd_same uin vin (st _ _ op04) (st _ _ op4) ek1 ?_ ((s1.trans s14).trans st)
          · rw [T u uin v vin ek1, decide_eq_true rfl] at e
            cases e
          · intro z
            rw [z, decide_eq_true rfl] at e
            cases e
        · refine ⟨s24 _ _ ora2, s2.trans s24, kvs, _, _, _, rfl, od4, ?_⟩
          refine ⟨fun j v' hj ev' => ?_, FS.from_, Nat.le_succ_of_le FS.len⟩
          by_cases hji : j = i
          · subst hji
            rw [ev] at ev'
            obtain rfl := Option.some.inj ev'
            refine ⟨j0, u, eu, p0, ep0, ek, ek1, ?_⟩
            by_cases z : av ns u x = av ns v x
            · exact z
            · have z2 : ¬ V.int (av ns u x) = V.int (av ns v x) := fun y => z (V.int.inj y)
              rw [decide_eq_false z2] at e
              exact absurd rfl e
          · exact FS.has j v' (by omega) ev'
  · rintro σ H2 ⟨ora2, s2, kvs, s6, s7, s8, rfl, od, FS⟩
    refine yes (fun u hu v hv e => ?_) _ (s1.trans s2)
    obtain ⟨j, hj, eu⟩ := List.getElem_of_mem hu
    obtain ⟨j', hj', ev⟩ := List.getElem_of_mem hv
    have lt : ∀ n, n < tbl.length → n < (ps.map V.ref).length := fun n h => by rw [List.length_map]; omega
    obtain ⟨j0, u0, eu0, p0, ep0, w0, k0, a0⟩ := FS.has j u (lt _ hj) (by rw [List.getElem?_eq_getElem hj, eu])
    obtain ⟨j1, u1, eu1, p1, ep1, w1, k1, a1⟩ := FS.has j' v (lt _ hj') (by rw [List.getElem?_eq_getElem hj', ev])
    rw [e, w1] at w0
    have ep : p1 = p0 := V.ref.inj (Option.some.inj w0)
    subst ep
    obtain ⟨x0, ex0, o0, _⟩ := paired_get prs ep0
    obtain ⟨x1, ex1, o1, _⟩ := paired_get prs ep1
    rw [eu0] at ex0
    rw [eu1] at ex1
    obtain rfl := Option.some.inj ex0
    obtain rfl := Option.some.inj ex1
    rw [o0] at o1
    have same : u0.map V.int = u1.map V.int := HO.tup.inj (Option.some.inj o1)
    have same2 : u0 = u1 := (List.map_inj_right (fun x y e => V.int.inj e)).mp same
    rw [← a0, ← a1, same2]
end
end L2.TB
namespace L2.TB
open PySem PySem.Spec PyProof.Rows
/-! what is told -/
/-- the places of the table's methods -/
structure TabM (K : PySem.W.Frag) (C fQ fI fPl fPr : Addr) : Prop extends TabC K C where
  Q : ∃ fd, Fun K "questions" "Table.questions" sQs fQ fd
  I : ∃ fd, Fun K "is_told" "Table.is_told" sIsTold fI fd
  L : ∃ fd, Fun K "_places" "Table._places" sPlaces fPl fd
  R : ∃ fd, Fun K "_parting_rows" "Table._parting_rows" sParting fPr fd
  mQ : Meth K C "questions" fQ
  mI : Meth K C "is_told" fI
  mL : Meth K C "_places" fPl
  mR : Meth K C "_parting_rows" fPr
/-- a table and known ones of it -/
structure Asked (K : PySem.W.Frag) (H : Hp) (C a b : Addr) (ns known : List Str) (tbl : List (List Int)) : Prop where
  t : TabAt H C a ns tbl
  k : SqA K H b (known.map V.str)
  nd : known.Nodup
  sub : ∀ x ∈ known, x ∈ ns
  s1 : ns.length < 1000
  s2 : tbl.length < 1000
  ndn : ns.Nodup
theorem Asked.short {K : PySem.W.Frag} {H : Hp} {C a b : Addr} {ns known : List Str} {tbl : List (List Int)} (h : Asked K H C a b ns known tbl) : known.length < 1000 := by
  have := List.Nodup.length_le_of_subset h.nd (fun x hx => h.sub x hx)
  have := h.s1
  omega
theorem Asked.same {K : PySem.W.Frag} {H H' : Hp} {C a b : Addr} {ns known : List Str} {tbl : List (List Int)} (h : Asked K H C a b ns known tbl) (s : Same H H') : Asked K H' C a b ns known tbl :=
  ⟨h.t.same s, h.k.same s, h.nd, h.sub, h.s1, h.s2, h.ndn⟩
def spIsTold (K : PySem.W.Frag) (C : Addr) : Sp := fun vs H Q _ => ∃ (a b : Addr) (ns known : List Str) (x : Str) (tbl : List (List Int)), vs = [.ref a, .ref b, .str x] ∧ Asked K H C a b ns known tbl ∧ x ∈ ns ∧ ∀ H', Same H H' → Q (.bl (decide (Tells ns tbl known x))) H'
def toldL (ns : List Str) (tbl : List (List Int)) (known : List Str) : List Str := ns.filter fun x => decide (Tells ns tbl known x)
theorem scIsTold : FnScope ["self", "known", "asked"] ["self", "known", "asked"] (defScope sIsTold) := ⟨rfl, rfl, rfl, by decide +kernel, rfl, by decide +kernel, by decide +kernel⟩
def isStr (f : Str → Bool) : V → Bool
  | .str x => f x
  | _ => false
theorem filter_strs (f : Str → Bool) (xs : List Str) : ((xs.map V.str).filter (isStr f)).map id = (xs.filter f).map V.str := by
  rw [List.map_id, List.filter_map]; rfl
section
variable {P : Program} {w : World} {K : PySem.W.Frag} {mg : Str → Option Value} {base : Heap} {f C fQ fI fPl fPr aF aL aO aK aA aB : Addr} {fd : FuncData}
theorem ok_isTold (F : Fun K "is_told" "Table.is_told" sIsTold f fd) (T : TabM K C fQ fI fPl fPr) (Ck : Chk K mg aF aL aO aK aA aB) : FnOk P w K mg base CX0 5 f fd ["self", "known", "asked"] (spIsTold K C) := by
  obtain ⟨fdB, FB⟩ := Ck.CB
  have GB := ok_ckB (P := P) (w := w) (base := base) Ck FB
  have bB := FB.binds (ps := ["names", "known", "asked"]) fun _ _ _ _ _ _ us hl => match us, hl with | [_, _, _], _ => rfl
  obtain ⟨fdL, FL⟩ := T.L
  obtain ⟨fdR, FR⟩ := T.R
  have GR := ok_parting (P := P) (w := w) (mg := mg) (base := base) FR FL T.mL T.toTabC Ck.nT
  have bR := FR.binds (ps := ["self", "known", "asked"]) fun _ _ _ _ _ _ us hl => match us, hl with | [_, _, _], _ => rfl
  refine F.ok scIsTold (fun vs H Q E h => by obtain ⟨a, b, ns, known, x, tbl, e, _⟩ := h; rw [e]; rfl) fun cdv A outer s H vs Q E hr hsp => ?_
  obtain ⟨a, b, ns, known, x, tbl, rfl, ask, xin, hq⟩ := hsp
  refine ⟨_, pss_cons (ps_expr (pe_call GB hr rfl Ck.gCB FB.kp bB .nil pass0 (pa_cons (pe_fld (pv 0) rfl) (pa_cons (pv 1) (pa_cons (pv 2) pa_nil)))))
    (pss_one (ps_ret (pe_cmp (pc_isN (pe_meth (pv 0) T.cl T.mR GR (hr.mono (by decide)) bR .nil pass0 (pa_cons (pv 1) (pa_cons (pv 2) pa_nil))))))), ?_⟩
  obtain ⟨dx, qa, ra, ha, hqa, hra⟩ := ask.t.ex
  refine ⟨_, rfl, _, _, _, _, _, rfl, ha, T.cl, T.nQ, tabF_q _ _, _, rfl, _, rfl, qa, b, ns, known, x, rfl, hqa, ask.k, ask.nd, ask.sub, ask.short, xin, fun H1 s1 => ?_⟩
  refine ⟨_, rfl, a, dx, _, rfl, s1 _ _ ha, rfl, _, rfl, _, rfl, a, b, ns, known, x, tbl, rfl, ask.t.same s1, ask.k.same s1, ask.sub, ask.short, xin, ask.s2, fun yes H' s' => ?_, fun no H' t p q u v _ _ _ _ _ _ _ _ s' => ?_⟩
  · have z := hq H' (s1.trans s')
    rw [decide_eq_true yes] at z
    exact z
  · have z := hq H' (s1.trans s')
    rw [decide_eq_false no] at z
    exact z
end
end L2.TB
namespace L2.TB
open PySem PySem.Spec PyProof.Rows
theorem boot_all' : bootBuiltins "all" = some (.builtin "all") := by decide +kernel
/-- a comprehension without a test over anything: ys is what it makes -/
theorem lc_gen {J : It} {g : TG} {tt : TT} {te : TE} {vs : List Nat} {σ : St} {H1 : Hp} {Q : Addr → Hp → Prop} (ys : List V) (short : ys.length < 1000000) (go : ∀ i H, Same H1 H → i < ys.length → J.go i H) (stop : ∀ H, Same H1 H → J.stop ys.length H)
    (turn : ∀ (i : Nat) (x y : V) (H H' : Hp) (C : V → Hp → Prop) (N : Hp → Prop), ys[i]? = some y → Same H1 H → J.yld i H x H' → (∀ H4, Same H H4 → C y H4) → g x (wipe σ vs) H' fun σ2 H2 => wipe σ2 vs = wipe σ vs ∧ tt σ2 H2 fun b H3 => if b = true then te σ2 H3 C else N H3)
    (fin : ∀ H D, H1 D = none → H D = some (.lst ys) → Same H1 H → Q D H) : LcW J g tt te vs σ H1 Q := by
  intro D nD
  refine ⟨fun i m H => m = ys.length - i ∧ i ≤ ys.length ∧ H D = some (.lst (ys.take i)) ∧ Same H1 H, ⟨_, rfl, Nat.zero_le _, upd_same, same_new nD⟩, ?_⟩
  rintro i m H ⟨rfl, le, oD, s1⟩
  by_cases lt : i < ys.length
  · refine .inr ⟨go i H s1 lt, fun H' => H' D = some (.lst (ys.take (i + 1))) ∧ Same H1 H', fun H' h => ⟨ys.length - (i + 1), by omega, rfl, lt, h⟩, fun x H' yl => ?_⟩
    have ey : ys[i]? = some ys[i] := List.getElem?_eq_getElem lt
    refine turn i x ys[i] H H' _ _ ey s1 yl fun H4 s4 => ⟨_, s4 _ _ oD, ?_, ?_, ?_⟩
    · rw [sizeLine_eq, List.length_take]; omega
    · rw [upd_same, List.take_succ, ey]; rfl
    · intro b u e
      rw [upd_ne (ne_of_none e nD)]
      exact s4 _ _ (s1 _ _ e)
  · obtain rfl : i = ys.length := by omega
    rw [List.take_length] at oD
    exact .inl ⟨stop H s1, fin H D nD oD s1⟩
def bools (n : Nat) : List V := List.replicate n (V.bl true)
theorem bools_map (n : Nat) : bools n = (List.replicate n true).map V.bl := by unfold bools; rw [List.map_replicate]
theorem bools_at {n i : Nat} {y : V} (h : (bools n)[i]? = some y) : y = .bl true ∧ i < n := by
  unfold bools at h
  rw [List.getElem?_replicate] at h
  split at h
  · exact ⟨(Option.some.inj h).symm, by assumption⟩
  · cases h
theorem bools_len (n : Nat) : (bools n).length = n := List.length_replicate
theorem all_true (n : Nat) : (List.replicate n true).all id = true := by simp
def spIsName : Sp := fun vs H Q _ => ∃ x : Str, vs = [.str x] ∧ NmOk x ∧ ∀ H', Same H H' → Q (.bl true) H'
abbrev NIn : List Str := ["thing", "sign"]
theorem scIsName : FnScope NIn ["thing"] (defScope sIsName) := ⟨rfl, rfl, rfl, by decide +kernel, rfl, by decide +kernel, by decide +kernel⟩
/-- a dict has just these names, all true -/
def spHasJust : Sp := fun vs H Q _ => ∃ (d c : Addr) (kvs : List (Key × V)) (ns : List Str), vs = [.ref d, .ref c] ∧ H d = some (.dK kvs) ∧ H c = some (.lst (ns.map V.str)) ∧ kvs.map (·.1) = ns.map Sum.inr ∧ ns.length < 1000 ∧ ∀ H', Same H H' → Q (.bl true) H'
abbrev NHj : List Str := ["thing", "names", "name"]
theorem scHasJust : FnScope NHj ["thing", "names"] (defScope sHasJust) := ⟨rfl, rfl, rfl, by decide +kernel, rfl, by decide +kernel, by decide +kernel⟩
section
variable {P : Program} {w : World} {K : PySem.W.Frag} {mg : Str → Option Value} {base : Heap} {f : Addr} {fd : FuncData}
theorem ok_isName (F : Fun K "is_name" "is_name" sIsName f fd) (gI : mg "isinstance" = none) (gS : mg "str" = none) (gN : mg "len" = none) (gA : mg "all" = none) (gL : ∃ t, mg "LONGEST" = some (.int 40 t)) (gSg : ∃ t, mg "SIGNS" = some (.str (Str.ofString "abcdefghijklmnopqrstuvwxyz0123456789.") t)) :
    FnOk P w K mg base CX0 1 f fd ["thing"] spIsName := by
  obtain ⟨tL, gL⟩ := gL
  obtain ⟨tS, gSg⟩ := gSg
  refine F.ok scIsName (fun vs H Q E h => by obtain ⟨x, e, _⟩ := h; rw [e]; rfl) fun cdv A outer s H vs Q E hr hsp => ?_
  obtain ⟨x, rfl, ok, hq⟩ := hsp
  obtain ⟨l1, l2, chars⟩ := ok
  have nd := scIsName.nd
  refine ⟨_, pss_cons (ps_if (PW.pt (pw_or (pt_not (pt_val (pe_callB (r := rIsi K) call_isi rfl gI boot_isi (pa_cons (pv 0) (pa_cons (pe_bltn (v := .ty "str") rfl gS boot_str' rfl) pa_nil)))))
      (pw_or1 (pt_not (pt_chain op_le op_le pe_int (pe_callB call_len_str rfl gN boot_len (pa_cons (pv 0) pa_nil)) (pe_glob (v := .int 40) rfl gL ⟨_, rfl⟩)))))) (pss_one ps_never) pss_nil)
    (pss_one (ps_ret (pe_callB (cr_all rfl) rfl gA boot_all' (pa_cons (pe_lc (own := [("sign", 1)]) (tt := tYes) rfl nd (pi_str (pv 0)) (blkOk_by (N := NIn) (sc := defScope sIsName) (by decide +kernel)) (fun _ _ _ _ _ => pg_name (i := 1) nd rfl (Or.inl rfl)) (fun _ _ _ _ _ => pts_nil)
      (fun _ _ _ _ _ => pe_cmpR op_in_sign (pv 1) (pe_glob (v := .str (Str.ofString "abcdefghijklmnopqrstuvwxyz0123456789.")) rfl gSg ⟨_, rfl⟩) rfl)) pa_nil)))), ?_⟩
  have lz : x.length = x.cps.toList.length := (Array.length_toList (xs := x.cps)).symm
  refine ⟨_, rfl, _, _, _, _, true, rfl, .ty _, .base (.str x), kit_ty (by decide +kernel), _, rfl, iteF ?_⟩
  refine ⟨_, rfl, x, rfl, (by rw [sizeLine_eq]; omega), _, _, rfl, rfl, _, rfl, ?_⟩
  rw [decide_eq_true (by omega : (1 : Int) ≤ (x.length : Nat))]
  refine iteT ⟨_, _, rfl, rfl, _, rfl, ?_⟩
  rw [decide_eq_true (by omega : ((x.length : Nat) : Int) ≤ 40)]
  refine iteF ?_
  refine ⟨_, rfl, x, rfl, lc_gen (bools x.cps.toList.length) (by rw [bools_len]; omega) (fun i H' _ lt => ?_) (fun H' _ => ?_) ?_ ?_⟩
  · rw [bools_len, Array.length_toList] at lt; exact lt
  · rw [bools_len, Array.length_toList]; exact Nat.le_refl _
  · rintro i v y H2 H3 Cn Nn ey s2 ⟨rfl, c, ec, rfl⟩ yes
    obtain ⟨rfl, lt⟩ := bools_at ey
    have cin : c ∈ signsL := chars c (List.mem_of_getElem? (by rw [Array.getElem?_toList]; exact ec))
    refine ⟨rfl, ?_⟩
    refine ⟨_, rfl, c, _, rfl, rfl, ?_⟩
    have z := yes H3 (Same.refl _)
    have e : decide (c ∈ (Str.ofString "abcdefghijklmnopqrstuvwxyz0123456789.").cps.toList) = true := decide_eq_true cin
    rw [e]
    exact z
  · intro H2 D nD oD s2
    rw [bools_map] at oD
    refine ⟨D, _, rfl, SqL.of oD, ?_⟩
    rw [all_true]
    exact hq H2 s2
end
end L2.TB
namespace L2.TB
open PySem PySem.Spec PyProof.Rows
theorem has_key {kvs : List (Key × V)} {ns : List Str} {x : Str} (h : kvs.map (·.1) = ns.map Sum.inr) (xin : x ∈ ns) : ∃ v, valV kvs (Sum.inr x) = some v := by
  have z : (Sum.inr x : Key) ∈ kvs.map (·.1) := by rw [h]; exact List.mem_map_of_mem xin
  obtain ⟨e, he, ee⟩ := List.mem_map.mp z
  have a : (kvs.any fun kv => decide (kv.1 = Sum.inr x)) = true := List.any_eq_true.mpr ⟨e, he, decide_eq_true ee⟩
  rw [valV_any] at a
  exact Option.isSome_iff_exists.mp a
theorem const_map (xs : List Str) : ((xs.map V.str).filter fun _ => true).map (fun _ => V.bl true) = bools xs.length := by
  rw [List.filter_eq_self.mpr (fun _ _ => rfl), List.map_map]
  unfold bools
  induction xs with
  | nil => rfl
  | cons a l ih => rw [List.map_cons, ih, List.length_cons, List.replicate_succ]; rfl
theorem dec_int2 (a b : Int) : decide (V.int a = V.int b) = decide (a = b) := by
  by_cases h : a = b
  · rw [h]; simp
  · rw [decide_eq_false h, decide_eq_false]
    exact fun z => h (V.int.inj z)
/-- dict rows of ints at as -/
def DRows (H : Hp) (ns : List Str) : List Addr → List (List Int) → Prop := Paired fun a vs => H a = some (.dK (dk ns vs)) ∧ vs.length = ns.length
theorem DRows.same {H H' : Hp} {ns : List Str} {as : List Addr} {tbl : List (List Int)} (r : DRows H ns as tbl) (s : Same H H') : DRows H' ns as tbl := Paired.mapP r fun a vs h => ⟨s _ _ h.1, h.2⟩
def spBadRow : Sp := fun vs H Q _ => ∃ (r : Addr) (as : List Addr) (ns : List Str) (tbl : List (List Int)), vs = [.ref r] ∧ H r = some (.lst (as.map V.ref)) ∧ DRows H ns as tbl ∧ tbl ≠ [] ∧ tbl.length < 1000 ∧ ns ≠ [] ∧ ns.Nodup ∧ (∀ x ∈ ns, NmOk x) ∧ ns.length < 1000 ∧ ∀ H', Same H H' → Q .non H'
abbrev NB : List Str := ["rows", "index", "row", "name"]
theorem scBadRow : FnScope NB ["rows"] (defScope sBadRow) := ⟨rfl, rfl, rfl, by decide +kernel, rfl, by decide +kernel, by decide +kernel⟩
theorem lock_off {H H' : Hp} {d : Addr} {u : HO} {od : Obj} (hd : H d = some u) (s : Same (upd H d (.frz od u)) H') : H' d = some (.frz od u) ∧ Same H (upd H' d u) := by
  refine ⟨s _ _ upd_same, fun b o e => ?_⟩
  by_cases hb : b = d
  · rw [hb, upd_same, ← hd, ← hb]; exact e
  · rw [upd_ne hb]
    exact s _ _ (by rw [upd_ne hb]; exact e)
theorem dk_at {ns : List Str} {vs : List Int} {i : Nat} {k : Key} {v : V} (h : (dk ns vs)[i]? = some (k, v)) (nd : ns.Nodup) (hl : ns.length = vs.length) : ∃ x n, k = Sum.inr x ∧ v = .int n ∧ ns[i]? = some x ∧ valV (dk ns vs) (Sum.inr x) = some (.int n) := by
  unfold dk at h ⊢
  rw [List.getElem?_map] at h
  obtain ⟨p, ep, e⟩ := Option.map_eq_some_iff.mp h
  cases e
  have ez : (ns.zip vs)[i]? = some p := ep
  rw [List.getElem?_zip_eq_some] at ez
  refine ⟨p.1, p.2, rfl, rfl, ez.1, ?_⟩
  have nk : (((ns.zip vs).map fun p : Str × Int => ((Sum.inr p.1 : Key), V.int p.2)).map (·.1)).Nodup := dk_nd hl nd
  have mem : ((Sum.inr p.1 : Key), V.int p.2) ∈ (ns.zip vs).map fun p : Str × Int => ((Sum.inr p.1 : Key), V.int p.2) := List.mem_map_of_mem (List.mem_of_getElem? ep)
  generalize (ns.zip vs).map (fun p : Str × Int => ((Sum.inr p.1 : Key), V.int p.2)) = kvs at nk mem
  clear h ez ep
  induction kvs with
  | nil => cases mem
  | cons q kvs ih =>
    unfold valV
    rw [List.find?_cons]
    by_cases hq : q.1 = Sum.inr p.1
    · rw [decide_eq_true hq]
      rcases List.mem_cons.mp mem with z | z
      · rw [← z]; rfl
      · exfalso
        rw [List.map_cons, List.nodup_cons] at nk
        exact nk.1 (hq ▸ List.mem_map_of_mem (f := (·.1)) z)
    · rw [decide_eq_false hq]
      rcases List.mem_cons.mp mem with z | z
      · exact absurd (by rw [← z]) hq
      · rw [List.map_cons, List.nodup_cons] at nk
        exact ih nk.2 z
section
variable {P : Program} {w : World} {K : PySem.W.Frag} {mg : Str → Option Value} {base : Heap} {f fL fI fN fH : Addr} {fd fdL fdI fdN fdH : FuncData}
theorem ok_hasJust (F : Fun K "has_just" "has_just" sHasJust f fd) (gI : mg "isinstance" = none) (gD : mg "dict" = none) (gN : mg "len" = none) (gA : mg "all" = none) : FnOk P w K mg base CX0 1 f fd ["thing", "names"] spHasJust := by
  refine F.ok scHasJust (fun vs H Q E h => by obtain ⟨d, c, kvs, ns, e, _⟩ := h; rw [e]; rfl) fun cdv A outer s H vs Q E hr hsp => ?_
  obtain ⟨d, c, kvs, ns, rfl, hd, hc, hk, short, hq⟩ := hsp
  have nd := scHasJust.nd
  have hu := hu_of hr
  refine ⟨_, pss_one (ps_ret (pe_and (pe_callB (r := rIsi K) call_isi rfl gI boot_isi (pa_cons (pv 0) (pa_cons (pe_bltn (v := .ty "dict") rfl gD boot_dict' rfl) pa_nil))) (pe_and (pe_cmpR op_eq (pe_callB call_lenD rfl gN boot_len (pa_cons (pv 0) pa_nil)) (pe_callB call_len_seq rfl gN boot_len (pa_cons (pv 1) pa_nil)) (nomark _))
    (pe_one (pe_callB (cr_all rfl) rfl gA boot_all' (pa_cons (pe_lc (own := [("name", 2)]) (tt := tYes) rfl nd (pi_seq (pv 1)) (blkOk_by (N := NHj) (sc := defScope sHasJust) (by decide +kernel)) (fun _ _ _ _ _ => pg_name (i := 2) nd rfl (Or.inl rfl)) (fun _ _ _ _ _ => pts_nil)
      (fun _ _ _ _ _ => pe_cmp (pc_din hu (pv 2) (pv 0)))) pa_nil)))))), ?_⟩
  have lk : kvs.length = ns.length := by
    have z := congrArg List.length hk
    rw [List.length_map, List.length_map] at z
    exact z
  refine ⟨_, rfl, _, _, _, _, true, rfl, .ty _, .base (.dK hd), kit_ty (by decide +kernel), _, rfl, iteT ?_⟩
  refine ⟨_, rfl, d, kvs, rfl, hd, _, rfl, c, _, rfl, .inl (SqL.of hc), rfl, _, rfl, ?_⟩
  rw [dec_int2, List.length_map, lk, decide_eq_true rfl]
  refine iteT ⟨_, rfl, lc_seq (.inl rfl) hc (by rw [List.length_map]; omega) (fun _ => true) (fun _ => .bl true) ?_ ?_⟩
  · rintro i v H2 Cn Nn ev s2 yes no
    rw [List.getElem?_map] at ev
    obtain ⟨x, ex, rfl⟩ := Option.map_eq_some_iff.mp ev
    obtain ⟨y, ey⟩ := has_key hk (List.mem_of_getElem? ex)
    refine ⟨rfl, ?_⟩
    refine ⟨_, rfl, _, rfl, d, _, rfl, DGet.k (k := Sum.inr x) (s2 _ _ hd), ?_⟩
    rw [ey]
    exact yes rfl H2 (Same.refl _)
  · intro H2 D nD oD s2
    rw [const_map, bools_map] at oD
    refine ⟨D, _, rfl, SqL.of oD, ?_⟩
    rw [all_true]
    exact hq H2 s2
theorem ok_badRow (F : Fun K "_first_bad_row" "_first_bad_row" sBadRow f fd) (FL : Fun K "is_list" "is_list" sIsList fL fdL) (gIL : mg "is_list" = some (.ref fL)) (FI : Fun K "is_integer" "is_integer" sIsInt fI fdI) (gII : mg "is_integer" = some (.ref fI))
    (FN : Fun K "is_name" "is_name" sIsName fN fdN) (gIN : mg "is_name" = some (.ref fN)) (FH : Fun K "has_just" "has_just" sHasJust fH fdH) (gHJ : mg "has_just" = some (.ref fH))
    (gI : mg "isinstance" = none) (gL : mg "list" = none) (gT : mg "tuple" = none) (gS : mg "str" = none) (gE : mg "enumerate" = none) (gN : mg "len" = none) (gA : mg "all" = none) (gD : mg "dict" = none) (gInt : mg "int" = none) (gB : mg "bool" = none)
    (gLo : ∃ t, mg "LONGEST" = some (.int 40 t)) (gSg : ∃ t, mg "SIGNS" = some (.str (Str.ofString "abcdefghijklmnopqrstuvwxyz0123456789.") t)) : FnOk P w K mg base CX0 2 f fd ["rows"] spBadRow := by
  have GL : FnOk P w K mg base CX0 1 fL fdL ["thing"] (spIsList K) := ok_isList FL gI gL gT
  have bL := FL.binds (ps := ["thing"]) fun _ _ _ _ _ _ us hl => match us, hl with | [_], _ => rfl
  have GI : FnOk P w K mg base CX0 1 fI fdI ["thing"] spIsInt := ok_isInt FI gI gInt gB
  have bI := FI.binds (ps := ["thing"]) fun _ _ _ _ _ _ us hl => match us, hl with | [_], _ => rfl
  have GN : FnOk P w K mg base CX0 1 fN fdN ["thing"] spIsName := ok_isName FN gI gS gN gA gLo gSg
  have bN := FN.binds (ps := ["thing"]) fun _ _ _ _ _ _ us hl => match us, hl with | [_], _ => rfl
  have GH : FnOk P w K mg base CX0 1 fH fdH ["thing", "names"] spHasJust := ok_hasJust FH gI gD gN gA
  have bH := FH.binds (ps := ["thing", "names"]) fun _ _ _ _ _ _ us hl => match us, hl with | [_, _], _ => rfl
  refine F.ok scBadRow (fun vs H Q E h => by obtain ⟨r, as, ns, tbl, e, _⟩ := h; rw [e]; rfl) fun cdv A outer s H vs Q E hr hsp => ?_
  obtain ⟨r, as, ns, tbl, rfl, hrr, rows, tne, tsh, nne, nnd, nok, nsh, hq⟩ := hsp
  have nd := scBadRow.nd
  have hu := hu_of hr
  refine ⟨_, pss_cons (ps_if (PW.pt (pw_or (pt_not (pt_val (pe_call GL hr rfl gIL FL.kp bL .nil pass0 (pa_cons (pv 0) pa_nil)))) (pw_or1 (pt_cmpR op_eq (pe_callB call_len_seq rfl gN boot_len (pa_cons (pv 0) pa_nil)) pe_int (nomark _))))) (pss_one ps_never) pss_nil)
    (pss_cons (ps_for PassesOwn.never rfl (pi_enumS rfl gE (pa_cons (pv 0) pa_nil)) (pg_tup rfl (pgs_cons (pg_name (i := 1) nd rfl (Or.inl rfl)) (pgs_cons (pg_name (i := 2) nd rfl (Or.inr rfl)) pgs_nil)))
      (pss_cons (ps_if (PW.pt (pw_or (pt_not (pt_val (pe_callB (r := rIsi K) call_isi rfl gI boot_isi (pa_cons (pv 2) (pa_cons (pe_bltn (v := .ty "dict") rfl gD boot_dict' rfl) pa_nil)))))
          (pw_or (pt_cmpR op_eq (pe_callB call_lenD rfl gN boot_len (pa_cons (pv 2) pa_nil)) pe_int (nomark _))
          (pw_or1 (pt_not (pt_val (pe_callB (cr_all rfl) rfl gA boot_all' (pa_cons (pe_lock (pe_lc (own := [("name", 3)]) (tt := tYes) rfl nd (pi_keys (pv 2)) (blkOk_by (N := NB) (sc := defScope sBadRow) (by decide +kernel)) (fun _ _ _ _ _ => pg_name (i := 3) nd rfl (Or.inl rfl)) (fun _ _ _ _ _ => pts_nil)
            (fun _ _ _ _ _ => pe_call GI hr rfl gII FI.kp bI .nil pass0 (pa_cons (pe_dget hu (pv 2) (pv 3) (fun _ _ => rfl)) pa_nil)))) pa_nil)))))))) (pss_one ps_never) pss_nil)
      (pss_one (ps_if (PW.pt (pw_or (pt_not (pt_val (pe_callB (cr_all rfl) rfl gA boot_all' (pa_cons (pe_lock (pe_lc (own := [("name", 3)]) (tt := tYes) rfl nd (pi_keys (pv 2)) (blkOk_by (N := NB) (sc := defScope sBadRow) (by decide +kernel)) (fun _ _ _ _ _ => pg_name (i := 3) nd rfl (Or.inl rfl)) (fun _ _ _ _ _ => pts_nil)
            (fun _ _ _ _ _ => pe_call GN hr rfl gIN FN.kp bN .nil pass0 (pa_cons (pv 3) pa_nil)))) pa_nil))))
          (pw_or1 (pt_not (pt_val (pe_call GH hr rfl gHJ FH.kp bH .nil pass0 (pa_cons (pv 2) (pa_cons (pe_callTy (call_listD rfl) rfl gL boot_list' (pa_cons (pe_ix ix_list (pv 0) pe_int (fun _ _ => rfl)) pa_nil)) pa_nil)))))))) (pss_one ps_never) pss_nil))))
    (pss_one (ps_ret pe_non))), ?_⟩
  have las : as.length = tbl.length := Paired.length rows
  have pos : 0 < tbl.length := List.length_pos_iff.mpr tne
  have npos : 0 < ns.length := List.length_pos_iff.mpr nne
  refine ⟨_, rfl, r, _, rfl, .inl hrr, fun H1 k1 => ⟨_, rfl, iteF ?_⟩⟩
  refine ⟨_, rfl, r, _, rfl, .inl (SqL.of (k1 _ _ hrr)), rfl, _, rfl, ?_⟩
  rw [dec_int2, List.length_map, decide_eq_false (by omega : ¬ ((as.length : Nat) : Int) = 0)]
  refine iteF ?_
  refine ⟨_, rfl, enum_seq (.inl rfl) (fun i σ H' => Same H1 H' ∧ ∃ s1 s2 s3, σ = [some (.ref r), s1, s2, s3]) ⟨Same.refl _, _, _, _, rfl⟩ (fun i σ H' _ h => h.1 _ _ (k1 _ _ hrr)) ?_ ?_⟩
  · rintro i v σ H2 T ev ⟨s2, s1', s2', s3', rfl⟩ nT
    rw [List.getElem?_map] at ev
    obtain ⟨a, ea, rfl⟩ := Option.map_eq_some_iff.mp ev
    have sT := (k1.trans s2).trans (same_new (o := .tup [.int (i : Nat), .ref a]) nT)
    refine ⟨T, _, rfl, SqT.of upd_same, rfl, _, _, rfl, _, _, rfl, rfl, ?_⟩
    have s2T := s2.trans (same_new (o := .tup [.int (i : Nat), .ref a]) nT)
    generalize upd H2 T (.tup [.int (i : Nat), .ref a]) = H3 at sT s2T
    obtain ⟨vs, ev2, oa, lv⟩ := paired_get (rows.same sT) ea
    have ldk : (dk ns vs).length = ns.length := by
      unfold dk
      rw [List.length_map, List.length_zip]; omega
    refine ⟨_, rfl, _, _, _, _, true, rfl, .ty _, .base (.dK oa), kit_ty (by decide +kernel), _, rfl, iteF ?_⟩
    refine ⟨_, rfl, a, _, rfl, oa, rfl, _, rfl, ?_⟩
    rw [dec_int2, ldk, decide_eq_false (by omega : ¬ ((ns.length : Nat) : Int) = 0)]
    refine iteF ?_
    refine ⟨a, _, oa, trivial, fun od => ⟨_, rfl, a, od, rfl, .inl ⟨_, upd_same, lc_gen (bools ns.length) (by rw [bools_len]; omega) (fun j H' s lt => ⟨s _ _ upd_same, by rw [ldk]; rw [bools_len] at lt; exact lt⟩) (fun H' s => ⟨s _ _ upd_same, by rw [ldk, bools_len]; exact Nat.le_refl _⟩) ?_ ?_⟩⟩⟩
    · rintro j v y H4 H5 Cn Nn ey s4 ⟨rfl, k, w', ek, rfl⟩ yes
      obtain ⟨rfl, lt⟩ := bools_at ey
      obtain ⟨x, n, rfl, rfl, _, hv⟩ := dk_at ek nnd lv.symm
      refine ⟨rfl, ?_⟩
      exact ⟨_, rfl, _, rfl, a, _, rfl, .inl ⟨_, Sum.inr x, .inr ⟨_, s4 _ _ upd_same⟩, rfl, hv.symm⟩, n, rfl, yes H5 (Same.refl _)⟩
    · intro H4 D nD oD s4
      obtain ⟨b1, s34⟩ := lock_off oa s4
      have Da : D ≠ a := fun z => by rw [z, upd_same] at nD; cases nD
      rw [bools_map] at oD
      refine ⟨b1, D, _, rfl, SqL.of (by rw [upd_ne Da]; exact oD), _, rfl, ?_⟩
      rw [all_true]
      refine iteF ?_
      have oa4 := s34 _ _ oa
      have sH4 := sT.trans s34
      have s14 := s2T.trans s34
      generalize upd H4 a (.dK (dk ns vs)) = H5 at s34 oa4 sH4 s14
      refine ⟨a, _, oa4, trivial, fun od2 => ⟨_, rfl, a, od2, rfl, .inl ⟨_, upd_same, lc_gen (bools ns.length) (by rw [bools_len]; omega) (fun j H' s lt => ⟨s _ _ upd_same, by rw [ldk]; rw [bools_len] at lt; exact lt⟩) (fun H' s => ⟨s _ _ upd_same, by rw [ldk, bools_len]; exact Nat.le_refl _⟩) ?_ ?_⟩⟩⟩
      · rintro j v y H6 H7 Cn Nn ey s6 ⟨rfl, k, w', ek, rfl⟩ yes
        obtain ⟨rfl, lt⟩ := bools_at ey
        obtain ⟨x, n, rfl, rfl, ex, hv⟩ := dk_at ek nnd lv.symm
        refine ⟨rfl, ?_⟩
        exact ⟨_, rfl, x, rfl, nok x (List.mem_of_getElem? ex), fun H' s' => yes H' s'⟩
      · intro H6 D2 nD2 oD2 s6
        obtain ⟨b2, s56⟩ := lock_off oa4 s6
        have Da2 : D2 ≠ a := fun z => by rw [z, upd_same] at nD2; cases nD2
        rw [bools_map] at oD2
        refine ⟨b2, D2, _, rfl, SqL.of (by rw [upd_ne Da2]; exact oD2), _, rfl, ?_⟩
        rw [all_true]
        refine iteF ?_
        have oa6 := s56 _ _ oa4
        have sH6 := sH4.trans s56
        have s16 := s14.trans s56
        generalize upd H6 a (.dK (dk ns vs)) = H7 at oa6 sH6 s16
        obtain ⟨a0, ea0⟩ : ∃ a0, as[0]? = some a0 := ⟨as[0]'(by omega), List.getElem?_eq_getElem _⟩
        obtain ⟨vs0, ev0, oa0, lv0⟩ := paired_get (rows.same sH6) ea0
        have at0' : atI (as.map V.ref) ((0 : Nat) : Int) = some (.ref a0) := atI_nat (by rw [List.getElem?_map, ea0]; rfl)
        refine ⟨_, rfl, _, rfl, _, _, _, _, rfl, rfl, SqL.of (sH6 _ _ hrr), at0', a0, _, rfl, .inl oa0, fun q nq => ?_⟩
        have ekeys : ((dk ns vs0).map fun kv => kV kv.1) = ns.map V.str := by
          have z := congrArg (List.map kV) (dk_keys lv0.symm)
          rw [List.map_map, List.map_map] at z
          exact z
        rw [ekeys]
        have sq := same_new (o := .lst (ns.map V.str)) nq
        exact ⟨a, q, dk ns vs, ns, rfl, sq _ _ oa6, upd_same, dk_keys lv.symm, nsh, fun H' s' => ⟨_, rfl, iteF ⟨(s16.trans sq).trans s', _, _, _, rfl⟩⟩⟩
  · rintro σ H2 ⟨s2, s1', s2', s3', rfl⟩
    exact hq _ (k1.trans s2)
end
end L2.TB
namespace L2.TB
open PySem PySem.Spec PyProof.Rows
abbrev NI : List Str := ["self", "rows", "index", "row", "name"]
theorem scInit : FnScope NI ["self", "rows"] (defScope sInit) := ⟨rfl, rfl, rfl, by decide +kernel, rfl, by decide +kernel, by decide +kernel⟩
def spInit (C : Addr) : Sp := fun vs H Q _ => ∃ (p dx r : Addr) (as : List Addr) (ns : List Str) (tbl : List (List Int)), vs = [.ref p, .ref r] ∧ H p = some (.ins C dx []) ∧ H r = some (.lst (as.map V.ref)) ∧ DRows H ns as tbl ∧ tbl ≠ [] ∧ tbl.length < 1000 ∧ ns ≠ [] ∧ ns.Nodup ∧ (∀ x ∈ ns, NmOk x) ∧ ns.length < 1000 ∧
  ∀ H', TabAt H' C p ns tbl → (∀ b o, b ≠ p → H b = some o → H' b = some o) → Q .non H'
theorem qr_ : ¬ (("_questions" : Str) = "_rows") := by decide +kernel
theorem put_two (qa ra : Addr) : putF "_rows" (.ref ra) (putF "_questions" (.ref qa) []) = tabF qa ra := by
  show (if ("_questions" : Str) = "_rows" then _ else (("_questions" : Str), V.ref qa) :: putF "_rows" (.ref ra) []) = tabF qa ra
  rw [if_neg qr_]
  rfl
abbrev scRow : Scope := { kind := ScopeKind.function, names := [(Str.ofString ".0", NameKind.local), (Str.ofString "row", NameKind.cell), (Str.ofString "tuple", NameKind.globalImplicit), (Str.ofString "self", NameKind.cell)], isGenerator := false, isCoroutine := false }
abbrev rTupOf (K : PySem.W.Frag) : List V → Hp → VK → Prop := fun xs H Q => ∃ p ys, xs = [V.ref p] ∧ ((SqL K H p ys ∧ ∀ l, H l = none → Q (.ref l) (upd H l (.tup ys))) ∨ (SqT K H p ys ∧ Q (.ref p) H))
section
variable {P : Program} {w : World} {K : PySem.W.Frag} {mg : Str → Option Value} {base : Heap} {f C fB : Addr} {fd fdB : FuncData}
theorem ok_init (F : Fun K "__init__" "Table.__init__" sInit f fd) (T : TabC K C) (GB : FnOk P w K mg base CX0 2 fB fdB ["rows"] spBadRow) (FB : Fun K "_first_bad_row" "_first_bad_row" sBadRow fB fdB) (gB : mg "_first_bad_row" = some (.ref fB)) (gL : mg "list" = none) (gT : mg "tuple" = none) : FnOk P w K mg base CX0 3 f fd ["self", "rows"] (spInit C) := by
  have bB := FB.binds (ps := ["rows"]) fun _ _ _ _ _ _ us hl => match us, hl with | [_], _ => rfl
  refine F.ok scInit (fun vs H Q E h => by obtain ⟨p, dx, r, as, ns, tbl, e, _⟩ := h; rw [e]; rfl) fun cdv A outer s H vs Q E hr hsp => ?_
  obtain ⟨p, dx, r, as, ns, tbl, rfl, hp, hrr, rows, tne, tsh, nne, nnd, nok, nsh, hq⟩ := hsp
  have nd := scInit.nd
  have hu := hu_of hr
  refine ⟨_, pss_cons (ps_set (i := 2) nd rfl (Or.inl rfl) (pe_call GB hr rfl gB FB.kp bB .nil pass0 (pa_cons (pv 1) pa_nil)))
    (pss_cons (ps_if (pt_cmp (pc_notN (pv 2))) (pss_one ps_never) pss_nil)
    (pss_cons (ps_fld (pv 0) (pe_callTy (call_listD rfl) rfl gL boot_list' (pa_cons (pe_ix ix_list (pv 1) pe_int (fun _ _ => rfl)) pa_nil)) rfl)
    (pss_one (ps_fld (pv 0) (pe_lc (own := [("row", 3)]) (tt := tYes) (te := tCB (rTupOf K) (tCons (tLc (iList K (tFld K (tVar 0) "_questions")) (gName 4) tYes (tDGet (tVar 3) (tVar 4)) [4]) tNil)) rfl nd (pi_list (pv 1)) (blkOk_by (N := NI) (sc := defScope sInit) (by decide +kernel)) (fun _ _ _ _ _ => pg_name (i := 3) nd rfl (Or.inr rfl)) (fun _ _ _ _ _ => pts_nil)
      (fun _ _ _ _ _ => pe_callTy (r := rTupOf K) call_tuple_of rfl gT boot_tuple' (pa_cons (pe_lc (own := [("name", 4)]) (tt := tYes) (g := gName 4) (wi := iList K (tFld K (tVar 0) "_questions")) (te := tDGet (tVar 3) (tVar 4)) rfl nd (pi_list (pe_fld (pv 0) rfl)) (blkOk_by (N := NI) (sc := scRow) (by decide +kernel)) (fun _ _ _ _ _ => pg_name (i := 4) nd rfl (Or.inl rfl)) (fun _ _ _ _ _ => pts_nil)
        (fun _ _ _ _ _ => pe_dget hu (pv 3) (pv 4) (fun _ _ => rfl))) pa_nil))) rfl)))), ?_⟩
  have las : as.length = tbl.length := Paired.length rows
  have pos : 0 < tbl.length := List.length_pos_iff.mpr tne
  have npos : 0 < ns.length := List.length_pos_iff.mpr nne
  refine ⟨_, rfl, r, as, ns, tbl, rfl, hrr, rows, tne, tsh, nne, nnd, nok, nsh, fun H1 s1 => ?_⟩
  refine ⟨_, rfl, _, rfl, iteF ?_⟩
  obtain ⟨a0, ea0⟩ : ∃ a0, as[0]? = some a0 := ⟨as[0]'(by omega), List.getElem?_eq_getElem _⟩
  obtain ⟨vs0, ev0, oa0, lv0⟩ := paired_get (rows.same s1) ea0
  have at0' : atI (as.map V.ref) ((0 : Nat) : Int) = some (.ref a0) := atI_nat (by rw [List.getElem?_map, ea0]; rfl)
  have ekeys : ((dk ns vs0).map fun kv => kV kv.1) = ns.map V.str := by
    have z := congrArg (List.map kV) (dk_keys lv0.symm)
    rw [List.map_map, List.map_map] at z
    exact z
  refine ⟨_, rfl, _, _, _, _, rfl, rfl, SqL.of (s1 _ _ hrr), at0', a0, _, rfl, .inl oa0, fun qa nqa => ?_⟩
  rw [ekeys]
  have sq := same_new (o := .lst (ns.map V.str)) nqa
  have hp2 := sq _ _ (s1 _ _ hp)
  have oq2 : upd H1 qa (.lst (ns.map V.str)) qa = some (.lst (ns.map V.str)) := upd_same
  have s12 := s1.trans sq
  generalize upd H1 qa (.lst (ns.map V.str)) = H2 at sq hp2 oq2 s12
  refine ⟨_, rfl, p, C, dx, _, rfl, hp2, T.cl, T.nQ, by decide, ?_⟩
  have hpu : upd H2 p (.ins C dx (putF "_questions" (.ref qa) [])) p = some (.ins C dx (putF "_questions" (.ref qa) [])) := upd_same
  have s2p : ∀ b o, b ≠ p → H2 b = some o → upd H2 p (.ins C dx (putF "_questions" (.ref qa) [])) b = some o := fun b o nb e => by rw [upd_ne nb]; exact e
  generalize upd H2 p (.ins C dx (putF "_questions" (.ref qa) [])) = H4 at hpu s2p
  have rp : r ≠ p := ne_of hrr hp (by intro z; cases z)
  have qp : qa ≠ p := ne_of oq2 hp2 (by intro z; cases z)
  have or4 := s2p _ _ rp (s12 _ _ hrr)
  have oq4 := s2p _ _ qp oq2
  have rows4 : DRows H4 ns as tbl := Paired.mapP rows fun a vs h => ⟨s2p _ _ (ne_of h.1 hp (by intro z; cases z)) (s12 _ _ h.1), h.2⟩
  refine ⟨_, rfl, r, rfl, ⟨_, SqL.of or4⟩, fun D nD => ?_⟩
  refine lc_list (xs := as.map V.ref) (fun i H' => ∃ ps, H' D = some (.lst ((ps : List Addr).map V.ref)) ∧ Paired (fun q vs => H' q = some (.tup (vs.map V.int)) ∧ vs.length = ns.length) ps (tbl.take i) ∧ Same H4 H')
    ⟨[], upd_same, .nil, same_new nD⟩ (fun i H' _ h => SqL.of (h.choose_spec.2.2 _ _ or4)) ?_ ?_
  · rintro i v H5 ev ⟨ps, oD, prs, s5⟩
    rw [List.getElem?_map] at ev
    obtain ⟨a, ea, rfl⟩ := Option.map_eq_some_iff.mp ev
    obtain ⟨vs, evs, oa, lv⟩ := paired_get (rows4.same s5) ea
    have hi : i < tbl.length := (List.getElem?_eq_some_iff.mp evs).1
    have lps : ps.length = i := by rw [Paired.length prs, List.length_take]; omega
    refine ⟨rfl, ?_⟩
    refine ⟨_, rfl, p, C, dx, _, _, rfl, s5 _ _ hpu, T.cl, T.nQ, rfl, qa, rfl, ⟨_, SqL.of (s5 _ _ oq4)⟩, lc_gen (vs.map V.int) (by rw [List.length_map]; omega) (fun j H' s lt => ⟨ns.map V.str, _, SqL.of (s _ _ (s5 _ _ oq4)), List.getElem?_eq_getElem (by rw [List.length_map] at lt ⊢; omega)⟩) (fun H' s => ⟨ns.map V.str, SqL.of (s _ _ (s5 _ _ oq4)), by rw [List.length_map, List.length_map]; omega⟩) ?_ ?_⟩
    · rintro j x y H6 H7 Cn Nn ey s6 ⟨rfl, ex⟩ yes
      have ex := ex _ (SqL.of (s6 _ _ (s5 _ _ oq4)))
      rw [List.getElem?_map] at ey ex
      obtain ⟨n, en, rfl⟩ := Option.map_eq_some_iff.mp ey
      obtain ⟨z, ez, rfl⟩ := Option.map_eq_some_iff.mp ex
      have edk : (dk ns vs)[j]? = some (Sum.inr z, V.int n) := by
        unfold dk
        rw [List.getElem?_map, List.getElem?_zip_eq_some.mpr (show ns[j]? = some (z, n).1 ∧ vs[j]? = some (z, n).2 from ⟨ez, en⟩)]
        rfl
      obtain ⟨z', n', e1, e2, _, hv⟩ := dk_at edk nnd lv.symm
      obtain rfl := Sum.inr.inj e1
      obtain rfl := V.int.inj e2
      refine ⟨rfl, ?_⟩
      exact ⟨_, rfl, _, rfl, a, _, rfl, hv ▸ DGet.k (k := Sum.inr z) (s6 _ _ oa), yes H7 (Same.refl _)⟩
    · intro H6 l nl ol s6
      refine ⟨l, _, rfl, .inl ⟨SqL.of ol, fun t nt => ?_⟩⟩
      have st := same_new (o := .tup (vs.map V.int)) nt
      have oD6 := st _ _ (s6 _ _ oD)
      have tD : t ≠ D := fun z => by rw [z, s6 _ _ oD] at nt; cases nt
      refine ⟨_, oD6, (by rw [sizeLine_eq, List.length_map]; omega), ps ++ [t], by rw [upd_same]; simp, ?_, ?_⟩
      · have e1 : tbl.take (i + 1) = tbl.take i ++ [vs] := by rw [List.take_succ, evs]; rfl
        rw [e1]
        refine paired_snoc ⟨by rw [upd_ne tD, upd_same], lv⟩ (Paired.mapP prs fun q vs' h => ⟨?_, h.2⟩)
        rw [upd_ne (ne_of h.1 oD (by intro z; cases z))]
        exact st _ _ (s6 _ _ h.1)
      · intro b u e
        rw [upd_ne (ne_of_none e nD)]
        exact st _ _ (s6 _ _ (s5 _ _ e))
  · rintro H5 ⟨ps, oD, prs, s5⟩
    have et : tbl.take (as.map V.ref).length = tbl := List.take_of_length_le (by rw [List.length_map]; omega)
    rw [et] at prs
    refine ⟨_, rfl, p, C, dx, _, rfl, s5 _ _ hpu, T.cl, T.nR, by show 1 < 1000; decide, ?_⟩
    rw [put_two]
    have Dp : D ≠ p := fun z => by rw [z, hpu] at nD; cases nD
    have frame : ∀ b o, b ≠ p → H b = some o → upd H5 p (.ins C dx (tabF qa D)) b = some o := fun b o nb e => by
      rw [upd_ne nb]
      exact s5 _ _ (s2p _ _ nb (s12 _ _ e))
    refine hq _ ⟨dx, qa, D, upd_same, ?_, ps, ?_, Paired.mapP prs fun q vs h => ⟨?_, h.2⟩⟩ frame
    · rw [upd_ne qp]; exact s5 _ _ oq4
    · rw [upd_ne Dp]; exact oD
    · rw [upd_ne (ne_of h.1 (s5 _ _ hpu) (by intro z; cases z))]; exact h.1
end
end L2.TB
/-! comprehensions whose turns make things anew (from k00's texts) -/
namespace L2.TB
open PySem PySem.Spec PyProof.Rows
theorem lc_made {J : It} {g : TG} {tt : TT} {te : TE} {vs : List Nat} {σ : St} {H1 : Hp} {Q : Addr → Hp → Prop} (n : Nat) (short : n < 1000000) (go : ∀ i H, Same H1 H → i < n → J.go i H) (stop : ∀ H, Same H1 H → J.stop n H) (R : Nat → V → Hp → Prop)
    (stays : ∀ i y H H' D l, R i y H → H D = some (.lst l) → (∀ b o, b ≠ D → H b = some o → H' b = some o) → R i y H')
    (turn : ∀ (i : Nat) (x : V) (H H' : Hp) (C : V → Hp → Prop) (N : Hp → Prop), i < n → Same H1 H → J.yld i H x H' → (∀ y H4, R i y H4 → Same H H4 → C y H4) → g x (wipe σ vs) H' fun σ2 H2 => wipe σ2 vs = wipe σ vs ∧ tt σ2 H2 fun b H3 => if b = true then te σ2 H3 C else N H3)
    (fin : ∀ H D ys, H1 D = none → H D = some (.lst ys) → ys.length = n → (∀ j y, ys[j]? = some y → R j y H) → Same H1 H → Q D H) : LcW J g tt te vs σ H1 Q := by
  intro D nD
  refine ⟨fun i m H => m = n - i ∧ i ≤ n ∧ ∃ ys : List V, H D = some (.lst ys) ∧ ys.length = i ∧ (∀ j y, ys[j]? = some y → R j y H) ∧ Same H1 H, ⟨_, rfl, Nat.zero_le _, [], upd_same, rfl, (fun j y e => by cases e), same_new nD⟩, ?_⟩
  rintro i m H ⟨rfl, le, ys, oD, ly, ry, s1⟩
  by_cases lt : i < n
  · refine .inr ⟨go i H s1 lt, fun H' => ∃ ys : List V, H' D = some (.lst ys) ∧ ys.length = i + 1 ∧ (∀ j y, ys[j]? = some y → R j y H') ∧ Same H1 H', fun H' h => ⟨n - (i + 1), by omega, rfl, lt, h⟩, fun x H' yl => ?_⟩
    refine turn i x H H' _ _ lt s1 yl fun y H4 ry4 s4 => ⟨_, s4 _ _ oD, by rw [sizeLine_eq]; omega, ys ++ [y], upd_same, by simp [ly], fun j z ej => ?_, ?_⟩
    · have keep : ∀ b o, b ≠ D → H4 b = some o → upd H4 D (.lst (ys ++ [y])) b = some o := fun b o nb e => by rw [upd_ne nb]; exact e
      rcases Nat.lt_or_ge j ys.length with h | h
      · rw [List.getElem?_append_left h] at ej
        exact stays _ _ _ _ D _ (stays j z H H4 D _ (ry j z ej) oD fun b o _ e => s4 _ _ e) (s4 _ _ oD) keep
      · rw [List.getElem?_append_right h] at ej
        have e0 : j - ys.length = 0 := by
          have := (List.getElem?_eq_some_iff.mp ej).1
          simp at this
          omega
        rw [e0] at ej
        obtain rfl : y = z := Option.some.inj ej
        have ji : j = i := by omega
        subst ji
        exact stays _ _ _ _ D _ ry4 (s4 _ _ oD) keep
    · intro b u e
      rw [upd_ne (ne_of_none e nD)]
      exact s4 _ _ (s1 _ _ e)
  · obtain rfl : i = n := by omega
    exact .inl ⟨stop H s1, fin H D ys nD oD ly ry s1⟩
theorem addrs_of {H : Hp} {P : Nat → Addr → Prop} : ∀ (ys : List V) (k : Nat), (∀ j y, ys[j]? = some y → ∃ t, y = V.ref t ∧ P (k + j) t) → ∃ as : List Addr, ys = as.map V.ref ∧ ∀ j a, as[j]? = some a → P (k + j) a
  | [], k, _ => ⟨[], rfl, fun j a e => by cases e⟩
  | y :: ys, k, h => by
    obtain ⟨t, rfl, pt⟩ := h 0 y rfl
    obtain ⟨as, e, pa⟩ := addrs_of (H := H) (P := P) ys (k + 1) fun j z ez => by
      have := h (j + 1) z ez
      rw [show k + 1 + j = k + (j + 1) from by omega]
      exact this
    refine ⟨t :: as, by rw [e]; rfl, fun j a ea => ?_⟩
    cases j with
    | zero => obtain rfl : t = a := Option.some.inj ea; exact pt
    | succ j =>
      have := pa j a ea
      rw [show k + (j + 1) = k + 1 + j from by omega]
      exact this
theorem paired_of {α β : Type} {R : α → β → Prop} : ∀ (xs : List α) (ys : List β), xs.length = ys.length → (∀ (i : Nat) (x : α) (y : β), xs[i]? = some x → ys[i]? = some y → R x y) → Paired R xs ys
  | [], [], _, _ => .nil
  | x :: xs, y :: ys, l, h => .cons (h 0 x y rfl rfl) (paired_of xs ys (by simpa using l) fun i a b ea eb => h (i + 1) a b ea eb)
theorem pairs_lc {J : It} {g : TG} {tt : TT} {te : TE} {vs : List Nat} {σ : St} {H1 : Hp} {Q : Addr → Hp → Prop} (kvs : List (Key × V)) (short : kvs.length < 1000) (go : ∀ i H, Same H1 H → i < kvs.length → J.go i H) (stop : ∀ H, Same H1 H → J.stop kvs.length H)
    (turn : ∀ (i : Nat) (v : V) (k : Key) (x : V) (H H' : Hp) (C : V → Hp → Prop) (N : Hp → Prop), kvs[i]? = some (k, x) → Same H1 H → J.yld i H v H' → (∀ t H4, H4 t = some (.tup [kV k, x]) → Same H H4 → C (.ref t) H4) → g v (wipe σ vs) H' fun σ2 H2 => wipe σ2 vs = wipe σ vs ∧ tt σ2 H2 fun b H3 => if b = true then te σ2 H3 C else N H3)
    (fin : ∀ H D ps, H1 D = none → H D = some (.lst ((ps : List Addr).map V.ref)) → Paired (fun p (kv : Key × V) => H p = some (.tup [kV kv.1, kv.2])) ps kvs → Same H1 H → Q D H) : LcW J g tt te vs σ H1 Q := by
  refine lc_made kvs.length (by omega) go stop (fun i y H' => ∃ t k x, y = V.ref t ∧ kvs[i]? = some (k, x) ∧ H' t = some (.tup [kV k, x])) ?_ ?_ ?_
  · rintro i y H2 H3 D l ⟨t, k, x, rfl, ex, ot⟩ oD keep
    exact ⟨t, k, x, rfl, ex, keep _ _ (ne_of ot oD (by intro z; cases z)) ot⟩
  · intro i v H2 H3 C N lt s2 yl yes
    exact turn i v kvs[i].1 kvs[i].2 H2 H3 C N (List.getElem?_eq_getElem lt) s2 yl fun t H4 ot s4 => yes _ _ ⟨t, _, _, rfl, List.getElem?_eq_getElem lt, ot⟩ s4
  · intro H2 D ys nD oD ly ry s2
    obtain ⟨ps, rfl, pa⟩ := addrs_of (H := H2) (P := fun i t => ∃ k x, kvs[i]? = some (k, x) ∧ H2 t = some (.tup [kV k, x])) ys 0 fun j y e => by
      obtain ⟨t, k, x, e1, e2, e3⟩ := ry j y e
      exact ⟨t, e1, k, x, by simpa using e2, e3⟩
    refine fin H2 D ps nD oD (paired_of ps _ (by rw [← ly, List.length_map]) fun i t kv et ekv => ?_) s2
    obtain ⟨k, x, e2, e3⟩ := pa i t et
    rw [Nat.zero_add, ekv] at e2
    cases e2
    exact e3
end L2.TB
/-! is_list, is_one_of, first_bad of things of any kind -/
namespace L2.TB
open PySem PySem.Spec PyProof.Rows
/-- a thing that is no text -/
def NoStr (K : PySem.W.Frag) (H : Hp) (v : V) : Prop := ∃ t : String, TyX K H v (.type t) ∧ kitB t "str" = some false
/-- a thing that is neither a list nor a tuple -/
def NoSeq (K : PySem.W.Frag) (H : Hp) (v : V) : Prop := ∃ t : String, TyX K H v (.type t) ∧ kitB t "list" = some false ∧ kitB t "tuple" = some false
/-- what needs no heap to be told -/
inductive Atom : V → Prop
  | str (x : Str) : Atom (.str x)
  | int (i : Int) : Atom (.int i)
  | bl (b : Bool) : Atom (.bl b)
  | non : Atom .non
def strOf : V → Option Str
  | .str x => some x
  | _ => none
theorem strOf_none {v : V} (h : strOf v = none) (a : Atom v) (K : PySem.W.Frag) (H : Hp) : NoStr K H v := by
  cases a with
  | str x => cases h
  | int i => exact ⟨_, .base (.int i), by decide +kernel⟩
  | bl b => exact ⟨_, .base (.bl b), by decide +kernel⟩
  | non => exact ⟨_, .base .non, by decide +kernel⟩
theorem strOf_some {v : V} {x : Str} (h : strOf v = some x) : v = .str x := by
  cases v <;> first | (cases h; rfl) | cases h
theorem ty_same {K : PySem.W.Frag} {H H' : Hp} {v : V} {t : String} (h : TyX K H v (.type t)) (s : Same H H') : TyX K H' v (.type t) := by
  generalize e : Value.type t = u at h
  cases h with
  | base b =>
    refine .base ?_
    cases b with
    | non => exact .non
    | bl x => exact .bl x
    | int i => exact .int i
    | str x => exact .str x
    | flt x => exact .flt x
    | lst q => exact .lst (s _ _ q)
    | frz q => exact .frz (s _ _ q)
    | tup q => exact .tup (s _ _ q)
    | dK q => exact .dK (s _ _ q)
    | dT q => exact .dT (s _ _ q)
    | ins q => cases e
  | byt b => exact .byt b
  | set q => exact .set (s _ _ q)
  | kList q c => exact .kList q c
  | kTuple q c => exact .kTuple q c
  | kDict q c => exact .kDict q c
  | fTuple q => exact .fTuple (s _ _ q)
  | fDict q => exact .fDict (s _ _ q)
theorem NoStr.same {K : PySem.W.Frag} {H H' : Hp} {v : V} (h : NoStr K H v) (s : Same H H') : NoStr K H' v := let ⟨t, a, b⟩ := h; ⟨t, ty_same a s, b⟩
theorem NoSeq.same {K : PySem.W.Frag} {H H' : Hp} {v : V} (h : NoSeq K H v) (s : Same H H') : NoSeq K H' v := let ⟨t, a, b⟩ := h; ⟨t, ty_same a s, b⟩
/-- the first place at which a thing is no name or stood before -/
def badAt (ns : List Str) : List V → List Str → Nat → Option Nat
  | [], _, _ => none
  | v :: r, seen, i => match strOf v with
    | some x => if x ∈ ns ∧ x ∉ seen then badAt ns r (seen ++ [x]) (i + 1) else some i
    | none => some i
def optV : Option Nat → V
  | none => .non
  | some i => .int (i : Nat)
def spIsListG (K : PySem.W.Frag) : Sp := fun vs H Q _ => ∃ v : V, vs = [v] ∧ (((∃ a xs, v = .ref a ∧ SqA K H a xs) ∧ ∀ H', Same H H' → Q (.bl true) H') ∨ (NoSeq K H v ∧ ∀ H', Same H H' → Q (.bl false) H'))
def spIsOneG (K : PySem.W.Frag) : Sp := fun vs H Q _ => ∃ (c : Addr) (ns : List Str) (v : V), vs = [.ref c, v] ∧ SqL K H c (ns.map V.str) ∧ ((∃ x, v = .str x ∧ Q (.bl (decide (x ∈ ns))) H) ∨ (NoStr K H v ∧ Q (.bl false) H))
/-- what first_bad says of v -/
inductive Bad (K : PySem.W.Frag) (H : Hp) (ns : List Str) : V → Option Nat → Prop
  | no {v : V} (h : NoSeq K H v) : Bad K H ns v (some 0)
  | seq {a : Addr} {xs : List V} (h : SqA K H a xs) (at_ : ∀ x ∈ xs, Atom x) (short : xs.length < 1000) : Bad K H ns (.ref a) (badAt ns xs [] 0)
theorem Bad.same {K : PySem.W.Frag} {H H' : Hp} {ns : List Str} {v : V} {r : Option Nat} (h : Bad K H ns v r) (s : Same H H') : Bad K H' ns v r := by
  cases h with
  | no h => exact .no (h.same s)
  | seq h a l => exact .seq (h.same s) a l
def spFirstG (K : PySem.W.Frag) : Sp := fun vs H Q _ => ∃ (c : Addr) (ns : List Str) (v : V) (r : Option Nat), vs = [.ref c, v] ∧ H c = some (.lst (ns.map V.str)) ∧ Bad K H ns v r ∧ ∀ H', Same H H' → Q (optV r) H'
theorem kit_two_n {K : PySem.W.Frag} {t : String} (h1 : kitB t "list" = some false) (h2 : kitB t "tuple" = some false) : PySem.W.kitAny K (.type t) [.type "list", .type "tuple"] = some false :=
  kitAny_cons (b := false) (kit_ty h1) (fun _ => kitAny_cons (b := false) (kit_ty h2) (fun _ => kitAny_nil) (fun z => by cases z)) (fun z => by cases z)
section
variable {P : Program} {w : World} {K : PySem.W.Frag} {mg : Str → Option Value} {base : Heap} {f fL fO : Addr} {fd fdL fdO : FuncData}
theorem ok_isListG (F : Fun K "is_list" "is_list" sIsList f fd) (gI : mg "isinstance" = none) (gL : mg "list" = none) (gT : mg "tuple" = none) : FnOk P w K mg base CX0 1 f fd ["thing"] (spIsListG K) := by
  refine F.ok scIsList (fun vs H Q E h => by obtain ⟨a, e, _⟩ := h; rw [e]; rfl) fun cdv A outer s H vs Q E hr hsp => ?_
  obtain ⟨v, rfl, hq⟩ := hsp
  refine ⟨_, pss_one (ps_ret (pe_callB (r := rIsiT K) call_isiT rfl gI boot_isi (pa_cons (pv 0) (pa_cons (pe_tup (pa_cons (pe_bltn (v := .ty "list") rfl gL boot_list' rfl) (pa_cons (pe_bltn (v := .ty "tuple") rfl gT boot_tuple' rfl) pa_nil))) pa_nil)))), ?_⟩
  refine ⟨_, rfl, (by show 2 ≤ sizeLine; decide), fun t nt => ?_⟩
  have kt := same_new (o := .tup [.ty "list", .ty "tuple"]) nt
  rcases hq with ⟨⟨a, xs, rfl, hS⟩, hq⟩ | ⟨hN, hq⟩
  · rcases hS.same kt with e | e
    · exact ⟨_, _, _, _, _, true, rfl, upd_same, .cons (.ty _) (.cons (.ty _) .nil), .base (.lst e), kit_two_l, hq _ kt⟩
    · exact ⟨_, _, _, _, _, true, rfl, upd_same, .cons (.ty _) (.cons (.ty _) .nil), .base (.tup e), kit_two_t, hq _ kt⟩
  · obtain ⟨ty, h1, h2, h3⟩ := hN.same kt
    exact ⟨_, _, _, _, _, false, rfl, upd_same, .cons (.ty _) (.cons (.ty _) .nil), h1, kit_two_n h2 h3, hq _ kt⟩
theorem ok_isOneG (F : Fun K "is_one_of" "is_one_of" sIsOne f fd) (gI : mg "isinstance" = none) (gS : mg "str" = none) : FnOk P w K mg base CX0 1 f fd ["names", "thing"] (spIsOneG K) := by
  refine F.ok scIsOne (fun vs H Q E h => by obtain ⟨c, ns, x, e, _⟩ := h; rw [e]; rfl) fun cdv A outer s H vs Q E hr hsp => ?_
  obtain ⟨c, ns, v, rfl, hS, hq⟩ := hsp
  refine ⟨_, pss_one (ps_ret (pe_and (pe_callB (r := rIsi K) call_isi rfl gI boot_isi (pa_cons (pv 1) (pa_cons (pe_bltn (v := .ty "str") rfl gS boot_str' rfl) pa_nil)))
    (pe_one (pe_cmpR op_in_seq (pv 1) (pv 0) rfl)))), ?_⟩
  rcases hq with ⟨x, rfl, hq⟩ | ⟨⟨t, h1, h2⟩, hq⟩
  · refine ⟨_, rfl, _, _, _, _, true, rfl, .ty _, .base (.str x), kit_ty (by decide +kernel), true, rfl, _, rfl, _, rfl, c, _, rfl, .inl hS, rfl, flat_strs ns, ?_⟩
    rw [inV_strs]
    exact hq
  · exact ⟨_, rfl, _, _, _, _, false, rfl, .ty _, h1, kit_ty h2, false, rfl, hq⟩
theorem badAt_step {ns : List Str} {xs : List V} {us : List Str} {i : Nat} {v : V} (hv : xs[i]? = some v) :
    badAt ns (xs.drop i) us i = match strOf v with | some x => if x ∈ ns ∧ x ∉ us then badAt ns (xs.drop (i + 1)) (us ++ [x]) (i + 1) else some i | none => some i := by
  have e : xs.drop i = v :: xs.drop (i + 1) := by
    obtain ⟨h, e⟩ := List.getElem?_eq_some_iff.mp hv
    rw [List.drop_eq_getElem_cons h, e]
  rw [e]
  rfl
theorem ok_firstG (F : Fun K "first_bad" "first_bad" sFirst f fd) (FL : Fun K "is_list" "is_list" sIsList fL fdL) (gIL : mg "is_list" = some (.ref fL)) (FO : Fun K "is_one_of" "is_one_of" sIsOne fO fdO) (gIO : mg "is_one_of" = some (.ref fO))
    (gI : mg "isinstance" = none) (gL : mg "list" = none) (gT : mg "tuple" = none) (gS : mg "str" = none) (gE : mg "enumerate" = none) : FnOk P w K mg base CX0 2 f fd ["names", "things"] (spFirstG K) := by
  have GL : FnOk P w K mg base CX0 1 fL fdL ["thing"] (spIsListG K) := ok_isListG FL gI gL gT
  have bL := FL.binds (ps := ["thing"]) fun _ _ _ _ _ _ us hl => match us, hl with | [_], _ => rfl
  have GO : FnOk P w K mg base CX0 1 fO fdO ["names", "thing"] (spIsOneG K) := ok_isOneG FO gI gS
  have bO := FO.binds (ps := ["names", "thing"]) fun _ _ _ _ _ _ us hl => match us, hl with | [_, _], _ => rfl
  refine F.ok scFirst (fun vs H Q E h => by obtain ⟨c, ns, v, r, e, _⟩ := h; rw [e]; rfl) fun cdv A outer s H vs Q E hr hsp => ?_
  obtain ⟨c, ns, v, r, rfl, hc, hB, hq⟩ := hsp
  have nd := scFirst.nd
  have hu := hu_of hr
  refine ⟨_, pss_cons (ps_if (pt_not (pt_val (pe_call GL hr rfl gIL FL.kp bL .nil pass0 (pa_cons (pv 1) pa_nil)))) (pss_one (ps_ret pe_int)) pss_nil)
    (pss_cons (ps_set (i := 2) nd rfl (Or.inl rfl) pe_dnewK)
    (pss_cons (ps_for PassesOwn.never rfl (pi_enumS rfl gE (pa_cons (pv 1) pa_nil)) (pg_tup rfl (pgs_cons (pg_name (i := 3) nd rfl (Or.inl rfl)) (pgs_cons (pg_name (i := 4) nd rfl (Or.inl rfl)) pgs_nil)))
      (pss_cons (ps_if (PW.pt (pw_or (pt_not (pt_val (pe_call GO hr rfl gIO FO.kp bO .nil pass0 (pa_cons (pv 0) (pa_cons (pv 4) pa_nil))))) (pw_or1 (pt_cmp (pc_din hu (pv 4) (pv 2)))))) (pss_one (ps_ret (pv 3))) pss_nil)
      (pss_one (ps_dput hu (pv 2) (pv 4) pe_bl rfl))))
    (pss_one (ps_ret pe_non)))), ?_⟩
  cases hB with
  | no hN => exact ⟨_, rfl, _, rfl, .inr ⟨hN, fun H1 k1 => ⟨_, rfl, iteT (hq H1 k1)⟩⟩⟩
  | @seq a xs hS hA short =>
  refine ⟨_, rfl, _, rfl, .inl ⟨⟨a, xs, rfl, hS⟩, fun H1 k1 => ⟨_, rfl, iteF fun d nd2 => ?_⟩⟩⟩
  have kd := same_new (o := .dK []) nd2
  obtain ⟨o, ho, ko⟩ : ∃ o, H1 a = some o ∧ (o = .lst xs ∨ o = .tup xs) := by
    rcases hS.same k1 with e | e
    · exact ⟨_, e, .inl rfl⟩
    · exact ⟨_, e, .inr rfl⟩
  refine ⟨_, rfl, enum_seq ko (fun i σ H' => ∃ us : List Str, us.length = i ∧ badAt ns xs [] 0 = badAt ns (xs.drop i) us i ∧ H' d = some (.dK (seenD us)) ∧ Same H1 H' ∧ ∃ s3 s4, σ = [some (.ref c), some (.ref a), some (.ref d), s3, s4])
    ⟨[], rfl, by rw [List.drop_zero], upd_same, kd, _, _, rfl⟩ (fun i σ H' _ ⟨us, h⟩ => h.2.2.2.1 _ _ ho) ?_ ?_⟩
  · rintro i v σ H2 T ev ⟨us, lu, eb, od, s2, s3, s4, rfl⟩ nT
    have hi : i < xs.length := (List.getElem?_eq_some_iff.mp ev).1
    have kT := same_new (o := .tup [.int (i : Nat), v]) nT
    refine ⟨T, _, rfl, SqT.of upd_same, rfl, ?_⟩
    refine ⟨_, _, rfl, _, _, rfl, rfl, ?_⟩
    rw [badAt_step ev] at eb
    refine ⟨_, rfl, _, rfl, c, ns, v, rfl, SqL.of (kT _ _ (s2 _ _ (k1 _ _ hc))), ?_⟩
    cases hs : strOf v with
    | none =>
      rw [hs] at eb
      refine .inr ⟨strOf_none hs (hA v (List.mem_of_getElem? ev)) K _, _, rfl, iteT ?_⟩
      have z := hq _ (k1.trans (s2.trans kT))
      rw [eb] at z
      exact iteT ⟨_, rfl, z⟩
    | some x =>
      obtain rfl := strOf_some hs
      rw [hs] at eb
      refine .inl ⟨x, rfl, _, rfl, ?_⟩
      by_cases xin : x ∈ ns
      · rw [decide_eq_true xin]
        refine iteF ⟨_, rfl, _, rfl, d, _, rfl, DGet.k (k := Sum.inr x) (kT _ _ od), ?_⟩
        by_cases xs' : x ∈ us
        · obtain ⟨v2, e2⟩ := has_key (kvs := seenD us) (ns := us) (by unfold seenD; rw [List.map_map]; rfl) xs'
          rw [e2]
          dsimp only at eb
          rw [if_neg (fun z => z.2 xs')] at eb
          have z := hq _ (k1.trans (s2.trans kT))
          rw [eb] at z
          exact ⟨_, rfl, iteT ⟨_, rfl, z⟩⟩
        · rw [seen_none xs']
          refine ⟨_, rfl, iteF ?_⟩
          dsimp only at eb
          rw [if_pos ⟨xin, xs'⟩] at eb
          have small : (seenD us).length < sizeLine := by
            rw [sizeLine_eq]
            unfold seenD
            rw [List.length_map]; omega
          refine ⟨_, rfl, _, rfl, d, _, rfl, DPut.k (k := Sum.inr x) (kT _ _ od) small, us ++ [x], by rw [List.length_append, lu]; rfl, eb, ?_, ?_, _, _, rfl⟩
          · rw [upd_same, seen_put xs']
          · intro b u e
            have nb : b ≠ d := ne_of_none e nd2
            rw [upd_ne nb]
            exact kT _ _ (s2 _ _ e)
      · rw [decide_eq_false xin]
        dsimp only at eb
        rw [if_neg (fun z => xin z.1)] at eb
        have z := hq _ (k1.trans (s2.trans kT))
        rw [eb] at z
        exact iteT ⟨_, rfl, z⟩
  · rintro σ H2 ⟨us, lu, eb, od, s2, s3, s4, rfl⟩
    rw [List.drop_length] at eb
    have z := hq _ (k1.trans s2)
    rw [eb] at z
    exact z
end
end L2.TB
/-! things frozen: lists and tuples to tuples, dicts anew -/
namespace L2.TB
open PySem PySem.Spec PyProof.Rows
/-- what a frozen thing is -/
inductive Tr
  | one (v : V)
  | tu (l : List Tr)
  | di (kvs : List (Key × V))
inductive FzAt (H : Hp) : Tr → V → Prop
  | one {v : V} (h : Atom v) : FzAt H (.one v) v
  | tu {a : Addr} {us : List V} {ts : List Tr} (h : H a = some (.tup us)) (len : us.length = ts.length) (sh : us.length < 1000) (al : ∀ (i : Nat) (u : V) (t : Tr), us[i]? = some u → ts[i]? = some t → FzAt H t u) : FzAt H (.tu ts) (.ref a)
  | di {a : Addr} {kvs : List (Key × V)} (h : H a = some (.dK kvs)) (at_ : ∀ kv ∈ kvs, Atom kv.2) : FzAt H (.di kvs) (.ref a)
/-- a thing, to this depth, and what it is frozen -/
inductive Thg (H : Hp) : Nat → V → Tr → Prop
  | one {v : V} (h : Atom v) : Thg H 0 v (.one v)
  | seq {n : Nat} {a : Addr} {xs : List V} {ts : List Tr} (h : H a = some (.lst xs) ∨ H a = some (.tup xs)) (len : xs.length = ts.length) (sh : xs.length < 1000) (al : ∀ (i : Nat) (x : V) (t : Tr), xs[i]? = some x → ts[i]? = some t → Thg H n x t) : Thg H (n + 1) (.ref a) (.tu ts)
  | dic {n : Nat} {a : Addr} {kvs : List (Key × V)} (h : H a = some (.dK kvs)) (sh : kvs.length < 1000) (nd : (kvs.map (·.1)).Nodup) (at_ : ∀ kv ∈ kvs, Atom kv.2) : Thg H (n + 1) (.ref a) (.di kvs)
  | up {n : Nat} {v : V} {t : Tr} (h : Thg H n v t) : Thg H (n + 1) v t
theorem FzAt.but {H H' : Hp} {t : Tr} {v : V} (h : FzAt H t v) : ∀ {D : Addr} {l : List V}, H D = some (.lst l) → (∀ b o, b ≠ D → H b = some o → H' b = some o) → FzAt H' t v := by
  induction h with
  | one h => exact fun _ _ => .one h
  | tu h len sh _ ih => exact fun oD s => .tu (s _ _ (fun z => by rw [z, oD] at h; cases h) h) len sh fun i u t e1 e2 => ih i u t e1 e2 oD s
  | di h at_ => exact fun oD s => .di (s _ _ (fun z => by rw [z, oD] at h; cases h) h) at_
theorem FzAt.same {H H' : Hp} {t : Tr} {v : V} (h : FzAt H t v) (s : Same H H') : FzAt H' t v := by
  induction h with
  | one h => exact .one h
  | tu h len sh _ ih => exact .tu (s _ _ h) len sh ih
  | di h at_ => exact .di (s _ _ h) at_
theorem Thg.same {H H' : Hp} {n : Nat} {t : Tr} {v : V} (h : Thg H n v t) (s : Same H H') : Thg H' n v t := by
  induction h with
  | one h => exact .one h
  | seq h len sh _ ih => exact .seq (h.imp (s _ _) (s _ _)) len sh ih
  | dic h sh nd at_ => exact .dic (s _ _ h) sh nd at_
  | up _ ih => exact .up ih
theorem atom_ty {v : V} (a : Atom v) (K : PySem.W.Frag) (H : Hp) : ∃ t : String, TyX K H v (.type t) ∧ kitB t "dict" = some false ∧ kitB t "list" = some false ∧ kitB t "tuple" = some false := by
  cases a with
  | str x => exact ⟨_, .base (.str x), by decide +kernel, by decide +kernel, by decide +kernel⟩
  | int i => exact ⟨_, .base (.int i), by decide +kernel, by decide +kernel, by decide +kernel⟩
  | bl b => exact ⟨_, .base (.bl b), by decide +kernel, by decide +kernel, by decide +kernel⟩
  | non => exact ⟨_, .base .non, by decide +kernel, by decide +kernel, by decide +kernel⟩
/-- a comprehension over a list or a tuple whose turns make things -/
theorem lc_madeSeq {K : PySem.W.Frag} {a : Addr} {xs : List V} {o : HO} {g : TG} {tt : TT} {te : TE} {vs : List Nat} {σ : St} {H1 : Hp} {Q : Addr → Hp → Prop} (ko : o = .lst xs ∨ o = .tup xs) (ho : H1 a = some o) (short : xs.length < 1000000) (R : Nat → V → Hp → Prop)
    (stays : ∀ i y H H' D l, R i y H → H D = some (.lst l) → (∀ b o, b ≠ D → H b = some o → H' b = some o) → R i y H')
    (turn : ∀ (i : Nat) (x : V) (H : Hp) (C : V → Hp → Prop) (N : Hp → Prop), xs[i]? = some x → Same H1 H → (∀ y H4, R i y H4 → Same H H4 → C y H4) → g x (wipe σ vs) H fun σ2 H2 => wipe σ2 vs = wipe σ vs ∧ tt σ2 H2 fun b H3 => if b = true then te σ2 H3 C else N H3)
    (fin : ∀ H D ys, H1 D = none → H D = some (.lst ys) → ys.length = xs.length → (∀ j y, ys[j]? = some y → R j y H) → Same H1 H → Q D H) :
    ∃ b ys, V.ref a = V.ref b ∧ ((SqL K H1 b ys ∧ LcW (Itl K b) g tt te vs σ H1 Q) ∨ (SqT K H1 b ys ∧ LcW (Itt K b) g tt te vs σ H1 Q)) := by
  rcases ko with rfl | rfl
  · refine ⟨a, xs, rfl, .inl ⟨SqL.of ho, lc_made xs.length short (fun i H' k lt => ⟨_, _, SqL.of (k _ _ ho), List.getElem?_eq_getElem lt⟩) (fun H' k => ⟨_, SqL.of (k _ _ ho), Nat.le_refl _⟩) R stays ?_ fin⟩⟩
    rintro i x H2 H3 Cn Nn lt s2 ⟨rfl, ex⟩ yes
    exact turn i x _ Cn Nn (ex _ (SqL.of (s2 _ _ ho))) s2 yes
  · refine ⟨a, xs, rfl, .inr ⟨SqT.of ho, lc_made xs.length short (fun i H' k lt => ⟨_, _, SqT.of (k _ _ ho), List.getElem?_eq_getElem lt⟩) (fun H' k => ⟨_, SqT.of (k _ _ ho), Nat.le_refl _⟩) R stays ?_ fin⟩⟩
    rintro i x H2 H3 Cn Nn lt s2 ⟨rfl, ex⟩ yes
    exact turn i x _ Cn Nn (ex _ (SqT.of (s2 _ _ ho))) s2 yes
theorem valV_at : ∀ {kvs : List (Key × V)} {i : Nat} {k : Key} {x : V}, (kvs.map (·.1)).Nodup → kvs[i]? = some (k, x) → valV kvs k = some x
  | [], i, k, x, _, e => by cases e
  | p :: r, 0, k, x, _, e => by
    obtain rfl : p = (k, x) := by simpa using e
    exact valV_pos rfl
  | p :: r, i + 1, k, x, nd, e => by
    have e2 : r[i]? = some (k, x) := by simpa using e
    rw [List.map_cons, List.nodup_cons] at nd
    have ne : ¬ p.1 = k := fun z => nd.1 (by rw [z]; exact List.mem_map.mpr ⟨_, List.mem_of_getElem? e2, rfl⟩)
    rw [valV_neg ne]
    exact valV_at nd.2 e2
end L2.TB
/-! the law's look whether two things are the same: texts, numbers, None, dicts, lists and tuples of these -/
namespace L2.TB
open PySem PySem.Spec PyProof.Rows
abbrev NSm : List Str := ["found", "due", "x", "y"]
theorem scSame : FnScope NSm ["found", "due"] (defScope sSame) := ⟨rfl, rfl, rfl, by decide +kernel, rfl, by decide +kernel, by decide +kernel⟩
/-- the names that it reads -/
structure Sm (mg : Str → Option Value) : Prop where
  nI : mg "isinstance" = none
  nL : mg "list" = none
  nT : mg "tuple" = none
  nInt : mg "int" = none
  nB : mg "bool" = none
  nN : mg "len" = none
  nA : mg "all" = none
  nZ : mg "zip" = none
/-- alike, to this depth -/
inductive AlkF (H : Hp) : Nat → V → V → Prop
  | one {v : V} (h : Atom v) : AlkF H 0 v v
  | dic {a b : Addr} {kvs : List (Key × V)} (ha : H a = some (.dK kvs)) (hb : H b = some (.dK kvs)) (nd : (kvs.map (·.1)).Nodup) (at_ : ∀ kv ∈ kvs, Atom kv.2) : AlkF H 0 (.ref a) (.ref b)
  | lst {n : Nat} {a b : Addr} {xs ys : List V} (ha : H a = some (.lst xs)) (hb : H b = some (.lst ys)) (l : xs.length = ys.length) (sh : xs.length < 1000) (al : ∀ (i : Nat) (x y : V), xs[i]? = some x → ys[i]? = some y → AlkF H n x y) : AlkF H (n + 1) (.ref a) (.ref b)
  | tup {n : Nat} {a b : Addr} {xs ys : List V} (ha : H a = some (.tup xs)) (hb : H b = some (.tup ys)) (l : xs.length = ys.length) (sh : xs.length < 1000) (al : ∀ (i : Nat) (x y : V), xs[i]? = some x → ys[i]? = some y → AlkF H n x y) : AlkF H (n + 1) (.ref a) (.ref b)
  | up {n : Nat} {x y : V} (h : AlkF H n x y) : AlkF H (n + 1) x y
theorem AlkF.same {H H' : Hp} (s : Same H H') {n : Nat} {x y : V} (h : AlkF H n x y) : AlkF H' n x y := by
  induction h with
  | one h => exact .one h
  | dic ha hb nd at_ => exact .dic (s _ _ ha) (s _ _ hb) nd at_
  | lst ha hb l sh _ ih => exact .lst (s _ _ ha) (s _ _ hb) l sh ih
  | tup ha hb l sh _ ih => exact .tup (s _ _ ha) (s _ _ hb) l sh ih
  | up _ ih => exact .up ih
theorem kit_three_n {K : PySem.W.Frag} {t : String} (h0 : kitB t "int" = some false) (h1 : kitB t "list" = some false) (h2 : kitB t "tuple" = some false) : PySem.W.kitAny K (.type t) [.type "int", .type "list", .type "tuple"] = some false :=
  kitAny_cons (b := false) (kit_ty h0) (fun _ => kit_two_n h1 h2) (fun z => by cases z)
theorem flat_atom {v : V} (a : Atom v) : flatB v = true := by cases a <;> rfl
def spSameF (n : Nat) : Sp := fun vs H Q _ => ∃ x y : V, vs = [x, y] ∧ AlkF H n x y ∧ ∀ H', Same H H' → Q (.bl true) H'
section
variable {P : Program} {w : World} {K : PySem.W.Frag} {mg : Str → Option Value} {base : Heap} {f : Addr} {fd : FuncData}
theorem same_num (F : Fun K "_law_same" "_law_same" sSame f fd) (M : Sm mg) : FnOk P w K mg base CX0 1 f fd ["found", "due"] (fun vs H Q _ => ∃ v : V, vs = [v, v] ∧ ((∃ i, v = .int i) ∨ ∃ b, v = .bl b) ∧ ∀ H', Same H H' → Q (.bl true) H') := by
  refine F.ok scSame (fun vs H Q E h => by obtain ⟨x, e, _⟩ := h; rw [e]; rfl) fun cdv A outer s H vs Q E hr hsp => ?_
  obtain ⟨v, rfl, hv, hq⟩ := hsp
  refine ⟨_, pss_cons (ps_if (pt_val (pe_callB (r := rIsiT K) call_isiT rfl M.nI boot_isi (pa_cons (pv 1) (pa_cons (pe_tup (pa_cons (pe_bltn (v := .ty "list") rfl M.nL boot_list' rfl) (pa_cons (pe_bltn (v := .ty "tuple") rfl M.nT boot_tuple' rfl) pa_nil))) pa_nil)))) pss_never pss_nil)
    (pss_cons (ps_if (pt_val (pe_callB (r := rIsi K) call_isi rfl M.nI boot_isi (pa_cons (pv 1) (pa_cons (pe_bltn (v := .ty "int") rfl M.nInt boot_int' rfl) pa_nil)))) (pss_one (ps_ret (pe_and (pe_callB (r := rIsi K) call_isi rfl M.nI boot_isi (pa_cons (pv 0) (pa_cons (pe_bltn (v := .ty "int") rfl M.nInt boot_int' rfl) pa_nil))) (pe_and (pe_cmpR op_eq (pe_callB (r := rIsi K) call_isi rfl M.nI boot_isi (pa_cons (pv 0) (pa_cons (pe_bltn (v := .ty "bool") rfl M.nB boot_bool' rfl) pa_nil))) (pe_callB (r := rIsi K) call_isi rfl M.nI boot_isi (pa_cons (pv 1) (pa_cons (pe_bltn (v := .ty "bool") rfl M.nB boot_bool' rfl) pa_nil))) (nomark _)) (pe_one (pe_cmpR op_eq (pv 0) (pv 1) (nomark _))))))) pss_nil) pss_never), ?_⟩
  refine ⟨_, rfl, (by show 2 ≤ sizeLine; decide), fun t nt => ?_⟩
  have st := same_new (o := .tup [.ty "list", .ty "tuple"]) nt
  rcases hv with ⟨k, rfl⟩ | ⟨k, rfl⟩
  · refine ⟨_, _, _, _, _, false, rfl, upd_same, .cons (.ty _) (.cons (.ty _) .nil), .base (.int k), kit_two_n (by decide +kernel) (by decide +kernel), _, rfl, iteF ?_⟩
    refine ⟨_, rfl, _, _, _, _, true, rfl, .ty _, .base (.int k), kit_ty (by decide +kernel), _, rfl, iteT ?_⟩
    refine ⟨_, rfl, _, _, _, _, true, rfl, .ty _, .base (.int k), kit_ty (by decide +kernel), _, rfl, iteT ?_⟩
    refine ⟨_, rfl, _, _, _, _, false, rfl, .ty _, .base (.int k), kit_ty (by decide +kernel), _, rfl, _, _, _, _, false, rfl, .ty _, .base (.int k), kit_ty (by decide +kernel), rfl, _, rfl, iteT ⟨_, rfl, _, rfl, rfl, ?_⟩⟩
    rw [decide_eq_true rfl]
    exact hq _ st
  · refine ⟨_, _, _, _, _, false, rfl, upd_same, .cons (.ty _) (.cons (.ty _) .nil), .base (.bl k), kit_two_n (by decide +kernel) (by decide +kernel), _, rfl, iteF ?_⟩
    refine ⟨_, rfl, _, _, _, _, true, rfl, .ty _, .base (.bl k), kit_ty (by decide +kernel), _, rfl, iteT ?_⟩
    refine ⟨_, rfl, _, _, _, _, true, rfl, .ty _, .base (.bl k), kit_ty (by decide +kernel), _, rfl, iteT ?_⟩
    refine ⟨_, rfl, _, _, _, _, true, rfl, .ty _, .base (.bl k), kit_ty (by decide +kernel), _, rfl, _, _, _, _, true, rfl, .ty _, .base (.bl k), kit_ty (by decide +kernel), rfl, _, rfl, iteT ⟨_, rfl, _, rfl, rfl, ?_⟩⟩
    rw [decide_eq_true rfl]
    exact hq _ st
/-- what is neither a number nor a list: by == -/
theorem same_oth (F : Fun K "_law_same" "_law_same" sSame f fd) (M : Sm mg) {x y : V} {r : R2} {t : String} (h0 : kitB t "int" = some false) (h1 : kitB t "list" = some false) (h2 : kitB t "tuple" = some false) (op : ∀ X : Cx, X.A.units + 1 < cLine → OpR X (compareOp .Eq) r) :
    FnOk P w K mg base CX0 1 f fd ["found", "due"] (fun vs H Q _ => vs = [x, y] ∧ TyX K H x (.type t) ∧ TyX K H y (.type t) ∧ ∀ H', Same H H' → r x y H' Q) := by
  refine F.ok scSame (fun vs H Q E h => by obtain ⟨e, _⟩ := h; rw [e]; rfl) fun cdv A outer s H vs Q E hr hsp => ?_
  obtain ⟨rfl, tx, ty, hq⟩ := hsp
  refine ⟨_, pss_cons (ps_if (pt_val (pe_callB (r := rIsiT K) call_isiT rfl M.nI boot_isi (pa_cons (pv 1) (pa_cons (pe_tup (pa_cons (pe_bltn (v := .ty "list") rfl M.nL boot_list' rfl) (pa_cons (pe_bltn (v := .ty "tuple") rfl M.nT boot_tuple' rfl) pa_nil))) pa_nil)))) pss_never pss_nil)
    (pss_cons (ps_if (pt_val (pe_callB (r := rIsi K) call_isi rfl M.nI boot_isi (pa_cons (pv 1) (pa_cons (pe_bltn (v := .ty "int") rfl M.nInt boot_int' rfl) pa_nil)))) pss_never pss_nil)
    (pss_one (ps_ret (pe_and (pe_cmpR op_isBl (pe_callB (r := rIsiT K) call_isiT rfl M.nI boot_isi (pa_cons (pv 0) (pa_cons (pe_tup (pa_cons (pe_bltn (v := .ty "int") rfl M.nInt boot_int' rfl) (pa_cons (pe_bltn (v := .ty "list") rfl M.nL boot_list' rfl) (pa_cons (pe_bltn (v := .ty "tuple") rfl M.nT boot_tuple' rfl) pa_nil)))) pa_nil))) pe_bl (nomark _)) (pe_one (pe_cmpR (op _ (hu_of hr)) (pv 0) (pv 1) (nomark _))))))), ?_⟩
  refine ⟨_, rfl, (by show 2 ≤ sizeLine; decide), fun t nt => ?_⟩
  have st := same_new (o := .tup [.ty "list", .ty "tuple"]) nt
  refine ⟨_, _, _, _, _, false, rfl, upd_same, .cons (.ty _) (.cons (.ty _) .nil), ty_same ty st, kit_two_n h1 h2, _, rfl, iteF ?_⟩
  refine ⟨_, rfl, _, _, _, _, false, rfl, .ty _, ty_same ty st, kit_ty h0, _, rfl, iteF ?_⟩
  refine ⟨_, rfl, (by show 3 ≤ sizeLine; decide), fun t2 nt2 => ?_⟩
  have st2 := same_new (o := .tup [.ty "int", .ty "list", .ty "tuple"]) nt2
  refine ⟨_, _, _, _, _, false, rfl, upd_same, .cons (.ty _) (.cons (.ty _) (.cons (.ty _) .nil)), ty_same tx (st.trans st2), kit_three_n h0 h1 h2, _, _, rfl, rfl, _, rfl, iteT ⟨_, rfl, _, rfl, ?_⟩⟩
  exact hq _ (st.trans st2)
theorem same_lst (F : Fun K "_law_same" "_law_same" sSame f fd) (gSm : mg "_law_same" = some (.ref f)) (M : Sm mg) {n : Nat} (G : FnOk P w K mg base CX0 (n + 1) f fd ["found", "due"] (spSameF n)) : FnOk P w K mg base CX0 (n + 2) f fd ["found", "due"] (fun vs H Q _ => ∃ (a b : Addr) (xs ys : List V), vs = [.ref a, .ref b] ∧ H a = some (.lst xs) ∧ H b = some (.lst ys) ∧ xs.length = ys.length ∧ xs.length < 1000 ∧
    (∀ (i : Nat) (x y : V), xs[i]? = some x → ys[i]? = some y → AlkF H n x y) ∧ ∀ H', Same H H' → Q (.bl true) H') := by
  have b := F.binds (ps := ["found", "due"]) fun _ _ _ _ _ _ us hl => match us, hl with | [_, _], _ => rfl
  refine F.ok scSame (fun vs H Q E h => by obtain ⟨a, b, xs, ys, e, _⟩ := h; rw [e]; rfl) fun cdv A outer s H vs Q E hr hsp => ?_
  obtain ⟨a, bb, xs, ys, rfl, ha, hb, len, short, al, hq⟩ := hsp
  have nd := scSame.nd
  refine ⟨_, pss_cons (ps_if (pt_val (pe_callB (r := rIsiT K) call_isiT rfl M.nI boot_isi (pa_cons (pv 1) (pa_cons (pe_tup (pa_cons (pe_bltn (v := .ty "list") rfl M.nL boot_list' rfl) (pa_cons (pe_bltn (v := .ty "tuple") rfl M.nT boot_tuple' rfl) pa_nil))) pa_nil))))
      (pss_cons (ps_if (PW.pt (pw_or (pt_cmpR op_ne (pe_callB (r := rIsi K) call_isi rfl M.nI boot_isi (pa_cons (pv 0) (pa_cons (pe_bltn (v := .ty "list") rfl M.nL boot_list' rfl) pa_nil))) (pe_callB (r := rIsi K) call_isi rfl M.nI boot_isi (pa_cons (pv 1) (pa_cons (pe_bltn (v := .ty "list") rfl M.nL boot_list' rfl) pa_nil))) (nomark _)) (pw_or1 (pt_cmpR op_ne (pe_callB (r := rIsi K) call_isi rfl M.nI boot_isi (pa_cons (pv 0) (pa_cons (pe_bltn (v := .ty "tuple") rfl M.nT boot_tuple' rfl) pa_nil))) (pe_callB (r := rIsi K) call_isi rfl M.nI boot_isi (pa_cons (pv 1) (pa_cons (pe_bltn (v := .ty "tuple") rfl M.nT boot_tuple' rfl) pa_nil))) (nomark _))))) pss_never pss_nil)
      (pss_one (ps_ret (pe_and (pe_cmpR op_eq (pe_callB call_len_seq rfl M.nN boot_len (pa_cons (pv 0) pa_nil)) (pe_callB call_len_seq rfl M.nN boot_len (pa_cons (pv 1) pa_nil)) (nomark _))
        (pe_one (pe_callB (cr_all rfl) rfl M.nA boot_all' (pa_cons (pe_lc (own := [("x", 2), ("y", 3)]) (tt := tYes) (g := gTup K 2 (gCons (gName 2) (gCons (gName 3) gNil))) rfl nd (RZ.pi_zipA rfl M.nZ (pa_cons (pv 0) (pa_cons (pv 1) pa_nil))) (blkOk_by (N := NSm) (sc := defScope sSame) (by decide +kernel))
          (fun _ _ _ _ _ => pg_tup rfl (pgs_cons (pg_name (i := 2) nd rfl (Or.inl rfl)) (pgs_cons (pg_name (i := 3) nd rfl (Or.inl rfl)) pgs_nil))) (fun _ _ _ _ _ => pts_nil)
          (fun _ _ _ _ _ => pe_call G hr rfl gSm F.kp b .nil pass0 (pa_cons (pv 2) (pa_cons (pv 3) pa_nil)))) pa_nil))))))) pss_nil) pss_never, ?_⟩
  refine ⟨_, rfl, (by show 2 ≤ sizeLine; decide), fun t nt => ?_⟩
  have st := same_new (o := .tup [.ty "list", .ty "tuple"]) nt
  refine ⟨_, _, _, _, _, true, rfl, upd_same, .cons (.ty _) (.cons (.ty _) .nil), .base (.lst (st _ _ hb)), kit_two_l, _, rfl, iteT ?_⟩
  generalize upd H t (.tup [.ty "list", .ty "tuple"]) = H1 at st
  have ha := st _ _ ha
  have hb := st _ _ hb
  refine ⟨_, rfl, _, _, _, _, true, rfl, .ty _, .base (.lst ha), kit_ty (by decide +kernel), _, rfl, _, _, _, _, true, rfl, .ty _, .base (.lst hb), kit_ty (by decide +kernel), rfl, _, rfl, iteF ?_⟩
  refine ⟨_, rfl, _, _, _, _, false, rfl, .ty _, .base (.lst ha), kit_ty (by decide +kernel), _, rfl, _, _, _, _, false, rfl, .ty _, .base (.lst hb), kit_ty (by decide +kernel), rfl, _, rfl, iteF ?_⟩
  refine ⟨_, rfl, a, _, rfl, .inl (SqL.of ha), _, rfl, bb, _, rfl, .inl (SqL.of hb), rfl, _, rfl, ?_⟩
  rw [dec_int2, decide_eq_true (by omega : ((xs.length : Nat) : Int) = (ys.length : Nat))]
  refine iteT ⟨_, rfl, _, rfl, a, bb, _, _, rfl, .inl ⟨SqL.of ha, SqL.of hb, ?_⟩⟩
  refine lc_gen (bools xs.length) (by rw [bools_len]; omega) (fun i H' s lt => ?_) (fun H' s => ?_) ?_ ?_
  · rw [bools_len] at lt
    exact ⟨_, _, _, _, SqL.of (s _ _ ha), SqL.of (s _ _ hb), List.getElem?_eq_getElem (by omega), List.getElem?_eq_getElem (by omega)⟩
  · exact ⟨_, _, SqL.of (s _ _ ha), SqL.of (s _ _ hb), .inl (by rw [bools_len]; exact Nat.le_refl _)⟩
  · rintro i v y H2 H3 Cn Nn ey s2 ⟨T, u1, u2, rfl, nT, rfl, e1, e2⟩ yes
    obtain ⟨rfl, lt⟩ := bools_at ey
    have e1 := e1 _ (SqL.of (s2 _ _ ha))
    have e2 := e2 _ (SqL.of (s2 _ _ hb))
    have sT := same_new (o := .tup [u1, u2]) nT
    refine ⟨T, _, rfl, SqT.of upd_same, rfl, _, _, rfl, _, _, rfl, rfl, rfl, ?_⟩
    exact ⟨_, rfl, _, rfl, u1, u2, rfl, (al i u1 u2 e1 e2).same ((st.trans s2).trans sT), fun H4 s4 => yes H4 (sT.trans s4)⟩
  · intro H2 D nD oD s2
    rw [bools_map] at oD
    refine ⟨D, _, rfl, SqL.of oD, ?_⟩
    rw [all_true]
    exact hq _ (st.trans s2)
theorem same_tup (F : Fun K "_law_same" "_law_same" sSame f fd) (gSm : mg "_law_same" = some (.ref f)) (M : Sm mg) {n : Nat} (G : FnOk P w K mg base CX0 (n + 1) f fd ["found", "due"] (spSameF n)) : FnOk P w K mg base CX0 (n + 2) f fd ["found", "due"] (fun vs H Q _ => ∃ (a b : Addr) (xs ys : List V), vs = [.ref a, .ref b] ∧ H a = some (.tup xs) ∧ H b = some (.tup ys) ∧ xs.length = ys.length ∧ xs.length < 1000 ∧
    (∀ (i : Nat) (x y : V), xs[i]? = some x → ys[i]? = some y → AlkF H n x y) ∧ ∀ H', Same H H' → Q (.bl true) H') := by
  have b := F.binds (ps := ["found", "due"]) fun _ _ _ _ _ _ us hl => match us, hl with | [_, _], _ => rfl
  refine F.ok scSame (fun vs H Q E h => by obtain ⟨a, b, xs, ys, e, _⟩ := h; rw [e]; rfl) fun cdv A outer s H vs Q E hr hsp => ?_
  obtain ⟨a, bb, xs, ys, rfl, ha, hb, len, short, al, hq⟩ := hsp
  have nd := scSame.nd
  refine ⟨_, pss_cons (ps_if (pt_val (pe_callB (r := rIsiT K) call_isiT rfl M.nI boot_isi (pa_cons (pv 1) (pa_cons (pe_tup (pa_cons (pe_bltn (v := .ty "list") rfl M.nL boot_list' rfl) (pa_cons (pe_bltn (v := .ty "tuple") rfl M.nT boot_tuple' rfl) pa_nil))) pa_nil))))
      (pss_cons (ps_if (PW.pt (pw_or (pt_cmpR op_ne (pe_callB (r := rIsi K) call_isi rfl M.nI boot_isi (pa_cons (pv 0) (pa_cons (pe_bltn (v := .ty "list") rfl M.nL boot_list' rfl) pa_nil))) (pe_callB (r := rIsi K) call_isi rfl M.nI boot_isi (pa_cons (pv 1) (pa_cons (pe_bltn (v := .ty "list") rfl M.nL boot_list' rfl) pa_nil))) (nomark _)) (pw_or1 (pt_cmpR op_ne (pe_callB (r := rIsi K) call_isi rfl M.nI boot_isi (pa_cons (pv 0) (pa_cons (pe_bltn (v := .ty "tuple") rfl M.nT boot_tuple' rfl) pa_nil))) (pe_callB (r := rIsi K) call_isi rfl M.nI boot_isi (pa_cons (pv 1) (pa_cons (pe_bltn (v := .ty "tuple") rfl M.nT boot_tuple' rfl) pa_nil))) (nomark _))))) pss_never pss_nil)
      (pss_one (ps_ret (pe_and (pe_cmpR op_eq (pe_callB call_len_seq rfl M.nN boot_len (pa_cons (pv 0) pa_nil)) (pe_callB call_len_seq rfl M.nN boot_len (pa_cons (pv 1) pa_nil)) (nomark _))
        (pe_one (pe_callB (cr_all rfl) rfl M.nA boot_all' (pa_cons (pe_lc (own := [("x", 2), ("y", 3)]) (tt := tYes) (g := gTup K 2 (gCons (gName 2) (gCons (gName 3) gNil))) rfl nd (RZ.pi_zipA rfl M.nZ (pa_cons (pv 0) (pa_cons (pv 1) pa_nil))) (blkOk_by (N := NSm) (sc := defScope sSame) (by decide +kernel))
          (fun _ _ _ _ _ => pg_tup rfl (pgs_cons (pg_name (i := 2) nd rfl (Or.inl rfl)) (pgs_cons (pg_name (i := 3) nd rfl (Or.inl rfl)) pgs_nil))) (fun _ _ _ _ _ => pts_nil)
          (fun _ _ _ _ _ => pe_call G hr rfl gSm F.kp b .nil pass0 (pa_cons (pv 2) (pa_cons (pv 3) pa_nil)))) pa_nil))))))) pss_nil) pss_never, ?_⟩
  refine ⟨_, rfl, (by show 2 ≤ sizeLine; decide), fun t nt => ?_⟩
  have st := same_new (o := .tup [.ty "list", .ty "tuple"]) nt
  refine ⟨_, _, _, _, _, true, rfl, upd_same, .cons (.ty _) (.cons (.ty _) .nil), .base (.tup (st _ _ hb)), kit_two_t, _, rfl, iteT ?_⟩
  generalize upd H t (.tup [.ty "list", .ty "tuple"]) = H1 at st
  have ha := st _ _ ha
  have hb := st _ _ hb
  refine ⟨_, rfl, _, _, _, _, false, rfl, .ty _, .base (.tup ha), kit_ty (by decide +kernel), _, rfl, _, _, _, _, false, rfl, .ty _, .base (.tup hb), kit_ty (by decide +kernel), rfl, _, rfl, iteF ?_⟩
  refine ⟨_, rfl, _, _, _, _, true, rfl, .ty _, .base (.tup ha), kit_ty (by decide +kernel), _, rfl, _, _, _, _, true, rfl, .ty _, .base (.tup hb), kit_ty (by decide +kernel), rfl, _, rfl, iteF ?_⟩
  refine ⟨_, rfl, a, _, rfl, .inr (SqT.of ha), _, rfl, bb, _, rfl, .inr (SqT.of hb), rfl, _, rfl, ?_⟩
  rw [dec_int2, decide_eq_true (by omega : ((xs.length : Nat) : Int) = (ys.length : Nat))]
  refine iteT ⟨_, rfl, _, rfl, a, bb, _, _, rfl, .inr ⟨SqT.of ha, SqT.of hb, ?_⟩⟩
  refine lc_gen (bools xs.length) (by rw [bools_len]; omega) (fun i H' s lt => ?_) (fun H' s => ?_) ?_ ?_
  · rw [bools_len] at lt
    exact ⟨_, _, _, _, SqT.of (s _ _ ha), SqT.of (s _ _ hb), List.getElem?_eq_getElem (by omega), List.getElem?_eq_getElem (by omega)⟩
  · exact ⟨_, _, SqT.of (s _ _ ha), SqT.of (s _ _ hb), .inl (by rw [bools_len]; exact Nat.le_refl _)⟩
  · rintro i v y H2 H3 Cn Nn ey s2 ⟨T, u1, u2, rfl, nT, rfl, e1, e2⟩ yes
    obtain ⟨rfl, lt⟩ := bools_at ey
    have e1 := e1 _ (SqT.of (s2 _ _ ha))
    have e2 := e2 _ (SqT.of (s2 _ _ hb))
    have sT := same_new (o := .tup [u1, u2]) nT
    refine ⟨T, _, rfl, SqT.of upd_same, rfl, _, _, rfl, _, _, rfl, rfl, rfl, ?_⟩
    exact ⟨_, rfl, _, rfl, u1, u2, rfl, (al i u1 u2 e1 e2).same ((st.trans s2).trans sT), fun H4 s4 => yes H4 (sT.trans s4)⟩
  · intro H2 D nD oD s2
    rw [bools_map] at oD
    refine ⟨D, _, rfl, SqL.of oD, ?_⟩
    rw [all_true]
    exact hq _ (st.trans s2)
theorem ok_sameF (F : Fun K "_law_same" "_law_same" sSame f fd) (gSm : mg "_law_same" = some (.ref f)) (M : Sm mg) : ∀ n : Nat, FnOk P w K mg base CX0 (n + 1) f fd ["found", "due"] (spSameF n)
  | 0 => by
    refine ⟨fun vs H Q E h => by obtain ⟨x, y, e, _⟩ := h; rw [e]; rfl, fun A outer s H args us vs Q E hr he hb hv hs => ?_⟩
    obtain ⟨x, y, rfl, al, hq⟩ := hs
    cases al with
    | one h =>
      cases h with
      | int i => exact (same_num F M).run A outer s H args us _ Q E hr he hb hv ⟨_, rfl, .inl ⟨i, rfl⟩, hq⟩
      | bl i => exact (same_num F M).run A outer s H args us _ Q E hr he hb hv ⟨_, rfl, .inr ⟨i, rfl⟩, hq⟩
      | str z => exact (same_oth F M (x := .str z) (y := .str z) (r := rEq) (t := "str") (by decide +kernel) (by decide +kernel) (by decide +kernel) fun X _ => op_eq).run A outer s H args us _ Q E hr he hb hv ⟨rfl, .base (.str z), .base (.str z), fun H' s => ⟨rfl, by rw [decide_eq_true rfl]; exact hq _ s⟩⟩
      | non => exact (same_oth F M (x := .non) (y := .non) (r := rEq) (t := "NoneType") (by decide +kernel) (by decide +kernel) (by decide +kernel) fun X _ => op_eq).run A outer s H args us _ Q E hr he hb hv ⟨rfl, .base .non, .base .non, fun H' s => ⟨rfl, by rw [decide_eq_true rfl]; exact hq _ s⟩⟩
    | @dic a b kvs ha hb' nd at_ =>
      have all : ∀ p ∈ kvs, valV kvs p.1 = some p.2 ∧ flatB p.2 = true := fun p hp => by
        obtain ⟨i, hi⟩ := List.mem_iff_getElem?.mp hp
        exact ⟨valV_at nd hi, flat_atom (at_ p hp)⟩
      exact (same_oth F M (x := .ref a) (y := .ref b) (r := rEqDA) (t := "dict") (by decide +kernel) (by decide +kernel) (by decide +kernel) fun X hu => op_eq_dictA (by omega)).run A outer s H args us _ Q E hr he hb hv
        ⟨rfl, .base (.dK ha), .base (.dK hb'), fun H' s => ⟨a, b, kvs, kvs, rfl, rfl, s _ _ ha, s _ _ hb', rfl, all, hq _ s⟩⟩
  | n + 1 => by
    have G := ok_sameF F gSm M n
    have GU : FnOk P w K mg base CX0 (n + 2) f fd ["found", "due"] (spSameF n) := G.mono (Nat.le_succ _)
    refine ⟨fun vs H Q E h => by obtain ⟨x, y, e, _⟩ := h; rw [e]; rfl, fun A outer s H args us vs Q E hr he hb hv hs => ?_⟩
    obtain ⟨x, y, rfl, al, hq⟩ := hs
    cases al with
    | lst ha hb' l sh al => exact (same_lst F gSm M G).run A outer s H args us _ Q E hr he hb hv ⟨_, _, _, _, rfl, ha, hb', l, sh, al, hq⟩
    | tup ha hb' l sh al => exact (same_tup F gSm M G).run A outer s H args us _ Q E hr he hb hv ⟨_, _, _, _, rfl, ha, hb', l, sh, al, hq⟩
    | up h => exact GU.run A outer s H args us _ Q E hr he hb hv ⟨_, _, rfl, h, hq⟩
end
end L2.TB
namespace L2.TB
open PySem PySem.Spec PyProof.Rows
/-! for x, y in zip(xs, ys), xs a list, ys a tuple of as many -/
section
/-- what the maker leaves, one cell after the other -/
abbrev mk1 (h : Heap) (l : Addr) : Heap := h.push { cls := .type "list_iterator", data := .fields #[.ref l, .int 0 0] }
abbrev mk2 (h : Heap) (l t : Addr) : Heap := (mk1 h l).push { cls := .type "tuple_iterator", data := .fields #[.ref t, .int 0 0] }
abbrev mk3 (h : Heap) (l t : Addr) : Heap := (mk2 h l t).push { cls := .type "tuple", data := .seq #[.ref h.objs.size, .ref (mk1 h l).objs.size] }
abbrev mk4 (h : Heap) (l t : Addr) : Heap := (mk3 h l t).push { cls := .type "tuple", data := .seq #[.none, .none] }
abbrev mk5 (h : Heap) (l t : Addr) : Heap := (mk4 h l t).push { cls := .type "zip", data := .fields #[.none, .bool false, .bool false, .ref (mk2 h l t).objs.size, .ref (mk3 h l t).objs.size] }
theorem made_zip (l t : Addr) (as bs : Array Value) : Meets (Builtin.«zip.__new__» ⟨[.type "zip", .ref l, .ref t], []⟩) fun _ done z =>
    z.heap.IsList l as ∧ z.heap.IsTuple t bs ∧ done (.ok (.ret (.ref (mk4 z.heap l t).objs.size))) { z with heap := mk5 z.heap l t } :=
  .of_wp fun _ _ _ _ z hz => by
    obtain ⟨h0, gs, ds, tk, os⟩ := z
    obtain ⟨isL, isT, fin⟩ := hz
    have sub := sub_zip
    have isL0 : Heap.IsList (Shared.heap ⟨h0, gs, ds, tk, os⟩) l as := isL
    have isT1 : Heap.IsTuple (Shared.heap ⟨mk1 h0 l, gs, ds, tk, os⟩) t bs := Heap.IsTuple.push isT _
    wp_walk using wpAny_pyIter_list isL0, wpAny_pyIter_tuple isT1
    exact ⟨_, rfl, fin⟩
theorem zip_mixed {P : Program} {w : World} {A : Around} {z : Shared} {E Q : Value → Shared → Prop} {l t : Addr} {as bs : Array Value} (isL : z.heap.IsList l as) (isT : z.heap.IsTuple t bs)
    (more : ∀ h', IsZip h' (z.heap.objs.size + 4) (z.heap.objs.size + 2) (z.heap.objs.size + 3) .none → IsTupOf2 h' (z.heap.objs.size + 2) (.ref z.heap.objs.size) (.ref (z.heap.objs.size + 1)) →
      IsTupOf2 h' (z.heap.objs.size + 3) .none .none → h'.IsListIter z.heap.objs.size l 0 → h'.IsTupleIter (z.heap.objs.size + 1) t 0 → (∀ c o, z.heap.get? c = some o → h'.get? c = some o) → Q (.ref (z.heap.objs.size + 4)) { z with heap := h' }) :
    wpAny (model P w) A (call (.type "zip") [.ref l, .ref t]) Q E z := by
  refine callType_new F.called_zip (by decide) (F.typeCall_zip_2 _ _) (F.newCall_zip_2 _ _) (fun o => F.args_object_init_3 o _ _) F.entry_zip_new (made_zip l t as bs) ⟨isL, isT, ?_⟩
  have s1 : (mk1 z.heap l).objs.size = z.heap.objs.size + 1 := Heap.size_push ..
  have s2 : (mk2 z.heap l t).objs.size = z.heap.objs.size + 2 := by rw [Heap.size_push, s1]
  have s3 : (mk3 z.heap l t).objs.size = z.heap.objs.size + 3 := by rw [Heap.size_push, s2]
  have s4 : (mk4 z.heap l t).objs.size = z.heap.objs.size + 4 := by rw [Heap.size_push, s3]
  have e5 : (mk5 z.heap l t).get? (mk4 z.heap l t).objs.size = some { cls := .type "zip", data := .fields #[.none, .bool false, .bool false, .ref (mk2 z.heap l t).objs.size, .ref (mk3 z.heap l t).objs.size] } := Heap.get?_push_size _ rfl
  have up5 : ∀ {c : Addr} {o : Obj}, (mk4 z.heap l t).get? c = some o → (mk5 z.heap l t).get? c = some o := fun e => Heap.get?_push_of_some _ e
  have up4 : ∀ {c : Addr} {o : Obj}, (mk3 z.heap l t).get? c = some o → (mk5 z.heap l t).get? c = some o := fun e => up5 (Heap.get?_push_of_some _ e)
  have up3 : ∀ {c : Addr} {o : Obj}, (mk2 z.heap l t).get? c = some o → (mk5 z.heap l t).get? c = some o := fun e => up4 (Heap.get?_push_of_some _ e)
  have up2 : ∀ {c : Addr} {o : Obj}, (mk1 z.heap l).get? c = some o → (mk5 z.heap l t).get? c = some o := fun e => up3 (Heap.get?_push_of_some _ e)
  have e4 : (mk5 z.heap l t).get? (mk3 z.heap l t).objs.size = some { cls := .type "tuple", data := .seq #[.none, .none] } := up5 (Heap.get?_push_size _ rfl)
  have e3 : (mk5 z.heap l t).get? (mk2 z.heap l t).objs.size = some { cls := .type "tuple", data := .seq #[.ref z.heap.objs.size, .ref (mk1 z.heap l).objs.size] } := up4 (Heap.get?_push_size _ rfl)
  have e2 : (mk5 z.heap l t).get? (mk1 z.heap l).objs.size = some { cls := .type "tuple_iterator", data := .fields #[.ref t, .int 0 0] } := up3 (Heap.get?_push_size _ rfl)
  have e1 : (mk5 z.heap l t).get? z.heap.objs.size = some { cls := .type "list_iterator", data := .fields #[.ref l, .int 0 0] } := up2 (Heap.get?_push_size _ rfl)
  show _ ∧ _
  rw [s2, s3, s4] at e5
  rw [s3] at e4
  rw [s1, s2] at e3
  rw [s1] at e2
  rw [s4]
  exact ⟨⟨_, e5, rfl⟩, more _ e5 e3 e4 ⟨_, e1, rfl, rfl⟩ ⟨_, e2, rfl, rfl⟩ fun c o e => up2 (Heap.get?_push_of_some _ e)⟩
end
/-- the items of the list at a and of the tuple at b, in new pairs -/
def ItzM (K : PySem.W.Frag) (a b : Addr) : It where
  go i H := ∃ (xs ys : List V) (x y : V), SqL K H a xs ∧ SqT K H b ys ∧ xs[i]? = some x ∧ ys[i]? = some y
  yld i H v H' := ∃ T x y, v = .ref T ∧ H T = none ∧ H' = upd H T (.tup [x, y]) ∧ (∀ xs, SqL K H a xs → xs[i]? = some x) ∧ ∀ ys, SqT K H b ys → ys[i]? = some y
  stop i H := ∃ xs ys : List V, SqL K H a xs ∧ SqT K H b ys ∧ xs.length = i ∧ ys.length = i
theorem five {p : Addr → Prop} {z u v i j b : Addr} (h : b ∈ [z, u, v, i, j]) (h1 : p z) (h2 : p u) (h3 : p v) (h4 : p i) (h5 : p j) : p b := by
  simp only [List.mem_cons, List.not_mem_nil, or_false] at h
  rcases h with rfl | rfl | rfl | rfl | rfl <;> assumption
theorem turn_zipM {P : Program} {w : World} {K : PySem.W.Frag} {elts : List Expr} {kk : Nat} {tpos : Pos} {a b z u v i1 i2 : Addr} (S : ZipSep2 z u v i1 i2 [i1, a] [i2, b]) :
    Turn P w K (.Tuple elts kk tpos) (ItzM K a b) [z, u, v, i1, i2] z (fun i h => IsZip h z u v .none ∧ IsTupOf2 h u (.ref i1) (.ref i2) ∧ (∃ x y, IsTupOf2 h v x y) ∧ h.IsListIter i1 a i ∧ h.IsTupleIter i2 b i) := by
  have list_ne : ∀ {h : Heap} {i : Nat} {as : Array Value}, h.IsListIter i1 a i → h.IsList a as → a ≠ i1 := by
    rintro h i as ⟨o, eo, co, _⟩ isL rfl
    obtain ⟨o', eo', co', _⟩ := isL
    rw [eo] at eo'
    cases eo'
    rw [co] at co'
    exact absurd co' (by decide)
  have tup_ne : ∀ {h : Heap} {i : Nat} {bs : Array Value}, h.IsTupleIter i2 b i → h.IsTuple b bs → b ≠ i2 := by
    rintro h i bs ⟨o, eo, co, _⟩ isT rfl
    obtain ⟨o', eo', co', _⟩ := isT
    rw [eo] at eo'
    cases eo'
    have co' : o.cls = Value.type "tuple" := co'
    rw [co] at co'
    exact absurd co' (by decide)
  refine ⟨List.mem_cons_self, fun i h st c hc => ?_, fun i h h' st same => ?_, ?_, ?_, fun A i s Q E st more => wpAny_pyIter_zip st.1 more⟩
  · obtain ⟨gz, gu, ⟨x, y, gv⟩, ⟨o1, e1, _, d1⟩, ⟨o2, e2, _, d2⟩⟩ := st
    exact five (p := fun c => ∃ o, h.get? c = some o ∧ ∀ v, o.data ≠ .cell v) hc ⟨_, gz, fun _ e => nomatch e⟩ ⟨_, gu, fun _ e => nomatch e⟩ ⟨_, gv, fun _ e => nomatch e⟩ ⟨o1, e1, fun _ e => by rw [d1] at e; exact nomatch e⟩ ⟨o2, e2, fun _ e => by rw [d2] at e; exact nomatch e⟩
  · obtain ⟨gz, gu, ⟨x, y, gv⟩, h1, h2⟩ := st
    exact ⟨same z (by simp) _ gz, same u (by simp) _ gu, ⟨x, y, same v (by simp) _ gv⟩, h1.at fun o e => same i1 (by simp) o e, h2.at fun o e => same i2 (by simp) o e⟩
  · rintro X rfl rfl rfl calm i pins s σ H E I room ⟨gz, gu, ⟨x0, y0, gv⟩, g1, g2⟩ ⟨xs, ys, x, y, isX, isY, nx, ny⟩
    obtain ⟨us, rel1, p1, _⟩ := I.list isX
    obtain ⟨vs, rel2, p2, _⟩ := I.tuple isY
    obtain ⟨c, nc, rc⟩ := rel1.get nx
    obtain ⟨d, ny', rd⟩ := rel2.get ny
    have isL : s.heap.IsList a us.toArray := p1.isList
    have isT : s.heap.IsTuple b vs.toArray := p2
    have D1 := Draws.list (prog := X.prog) (w := X.w) (A := X.A.in1) (I.ok.hd calm) i1 a (list_ne g1 isL) us.toArray
    have D2 := Draws.tuple (prog := X.prog) (w := X.w) (A := X.A.in1) (I.ok.hd calm) i2 b (tup_ne g2 isT) vs.toArray
    have in1 : i < us.toArray.size := by
      have := (List.getElem?_eq_some_iff.mp nc).1
      simpa using this
    have in2 : i < vs.toArray.size := by
      have := (List.getElem?_eq_some_iff.mp ny').1
      simpa using this
    have lz : z < s.heap.objs.size := Heap.lt_size gz
    refine wpAny_pyNext_zipD2_item S D1 D2 gz gu gv ⟨g1, isL⟩ ⟨g2, isT⟩ in1 in2 fun c' d' h1 tk ec ed gz' gv' st1 st2 newT _ kept => ?_
    obtain rfl : c' = c := by
      have ec : us.toArray[i]? = some c' := ec
      rw [List.getElem?_toArray, nc] at ec
      exact (Option.some.inj ec).symm
    obtain rfl : d' = d := by
      have ed : vs.toArray[i]? = some d' := ed
      rw [List.getElem?_toArray, ny'] at ed
      exact (Option.some.inj ed).symm
    refine ⟨_, rfl, wpAny_letOwnedTupleGo_zip (s := { s with heap := h1, toks := tk }) gz' fun h2 back same2 => ?_⟩
    have far : ∀ q o, q ∉ [z, u, v, i1, i2] → s.heap.get? q = some o → h2.get? q = some o := fun q o away e =>
      (same2.2 q fun k => away (by simp [k])).trans (kept q o (fun k => away (by simp [k])) (fun k => away (by simp [k])) (fun k => away (by simp [k])) (fun k => away (by simp [k])) e)
    have pair : ObjOk X.prog X.w (upd H s.heap.objs.size (.tup [x, y])) h2 s.heap.objs.size (.tup [x, y]) :=
      ⟨show 2 ≤ sizeLine by decide, [c', d'], .cons rc (.cons rd .nil), _, (same2.2 _ (Nat.ne_of_gt lz)).trans newT, rfl, _, rfl⟩
    refine ⟨.ref s.heap.objs.size, _, I.turnedNew (t' := tk) (ch := [z, u, v, i1, i2]) far room (Nat.le_refl _) pair, rfl, ⟨_, x, y, rfl, I.hok.fresh (Nat.le_refl _), rfl, fun l is' => ?_, fun l is' => ?_⟩, ⟨back, ?_, ⟨c', d', ?_⟩, ?_, ?_⟩, fun q hq => ?_⟩
    · rw [I.list_inj is' isX]; exact nx
    · rw [I.tuple_inj is' isY]; exact ny
    · exact (same2.2 _ S.TIz).trans (kept _ _ S.TIz S.TITO S.TIi1 S.TIi2 gu)
    · exact (same2.2 _ S.TOz).trans gv'
    · exact st1.1.at fun o e => (same2.2 _ fun k => S.zi1 k.symm).trans e
    · exact st2.1.at fun o e => (same2.2 _ fun k => S.zi2 k.symm).trans e
    · have lq : q < s.heap.objs.size := by
        obtain ⟨_, e1, _⟩ := g1
        obtain ⟨_, e2, _⟩ := g2
        exact five (p := fun q => q < s.heap.objs.size) hq lz (Heap.lt_size gu) (Heap.lt_size gv) (Heap.lt_size e1) (Heap.lt_size e2)
      rw [upd_ne (Nat.ne_of_lt lq)]
      exact (room q hq).1
  · rintro X rfl rfl rfl calm i pins s σ H E I room ⟨gz, gu, ⟨x0, y0, gv⟩, g1, g2⟩ ⟨xs, ys, isX, isY, l1, l2⟩
    obtain ⟨us, rel1, p1, _⟩ := I.list isX
    obtain ⟨vs, rel2, p2, _⟩ := I.tuple isY
    have isL : s.heap.IsList a us.toArray := p1.isList
    have isT : s.heap.IsTuple b vs.toArray := p2
    have D1 := Draws.list (prog := X.prog) (w := X.w) (A := X.A.in1) (I.ok.hd calm) i1 a (list_ne g1 isL) us.toArray
    have D2 := Draws.tuple (prog := X.prog) (w := X.w) (A := X.A.in1) (I.ok.hd calm) i2 b (tup_ne g2 isT) vs.toArray
    have n1 : i = us.toArray.size := by rw [List.size_toArray, ← rel1.length, l1]
    have n2 : i = vs.toArray.size := by rw [List.size_toArray, ← rel2.length, l2]
    refine wpAny_pyNext_zipD2_end S D1 D2 gz gu gv ⟨g1, isL⟩ ⟨g2, isT⟩ (by omega) (by omega) (.inl n1) fun h1 tk kept => ⟨rfl, ?_⟩
    exact I.turnedL (t' := tk) (ch := [z, u, v, i1, i2]) (fun c o away e => kept c o (fun k => away (by simp [k])) (fun k => away (by simp [k])) (fun k => away (by simp [k])) (fun k => away (by simp [k])) e) room
theorem sep_of (n a b : Nat) (la : a < n) (lb : b < n) : ZipSep2 (n + 4) (n + 2) (n + 3) n (n + 1) [n, a] [n + 1, b] := by
  have h1 : ¬ (n + 4 = a) := by omega
  have h2 : ¬ (n + 4 = b) := by omega
  have h3 : ¬ (n + 3 = a) := by omega
  have h4 : ¬ (n + 3 = b) := by omega
  have h5 : ¬ (n = b) := by omega
  have h6 : ¬ (n + 1 = a) := by omega
  constructor <;> simp [h1, h2, h3, h4, h5, h6]
/-- the reading of zip over a list and a tuple -/
def iZipM (K : PySem.W.Frag) (ta : TA) : TI := fun σ H R => ta σ H fun vs H1 => ∃ a b xs ys, vs = [.ref a, .ref b] ∧ SqL K H1 a xs ∧ SqT K H1 b ys ∧ R (ItzM K a b) H1
theorem pi_zipM {X : Cx} {e e2 : Expr} {ta : TA} {p pos tpos : Pos} {elts : List Expr} {kk : Nat} (hg : Gl X "zip") (hm : X.mg "zip" = none) (ha : PA X [e, e2] ta)
    (hs : starEach [e, e2] X.env = (false, eval e X.env) :: starEach [e2] X.env := by rfl) (hpl : (backTo pos (starEach [e2] X.env)).any (·.1) = false := by rfl) :
    PI X (.Tuple elts kk tpos) (.Call (.Name "zip" p) [e, e2] [] pos) (iZipM X.K ta) := by
  refine ⟨fun pins z σ H R I reading => Call_ (ld_blt I hg hm PyProof.Rows.boot_zip (PyProof.Rows.callWith_type1 (thn (ha.run pos pins z σ H _ I reading) fun us z1 got => ?_) hs hpl))⟩
  obtain ⟨vs, H1, I1, rel, a, b, xs, ys, rfl, isX, isY, q⟩ := got
  match us, rel with
  | [c, d], .cons rc (.cons rd .nil) =>
    obtain rfl : c = Value.ref a := rc
    obtain rfl : d = Value.ref b := rd
    obtain ⟨us, rel1, p1, _⟩ := I1.list isX
    obtain ⟨vs, rel2, p2, _⟩ := I1.tuple isY
    have isL : z1.heap.IsList a us.toArray := p1.isList
    have isT : z1.heap.IsTuple b vs.toArray := p2
    have la : a < z1.heap.objs.size := p1.lt
    have lb : b < z1.heap.objs.size := by
      obtain ⟨o, e, _⟩ := isT
      exact Heap.lt_size e
    refine zip_mixed isL isT fun h' gz gu gv g1 g2 kept => wpAny_pyIter_zip gz ?_
    have fresh : ∀ c ∈ [z1.heap.objs.size + 4, z1.heap.objs.size + 2, z1.heap.objs.size + 3, z1.heap.objs.size, z1.heap.objs.size + 1], FpOk X pins H1 c := fun c hc =>
      have far : z1.heap.objs.size ≤ c := five (p := fun c => z1.heap.objs.size ≤ c) hc (by omega) (by omega) (by omega) (by omega) (by omega)
      I1.fpOk far (I1.hok.fresh far)
    refine ⟨_, _, _, _, H1, rfl, I1.kept (t' := z1.toks) kept, turn_zipM (a := a) (b := b) (z := z1.heap.objs.size + 4) (u := z1.heap.objs.size + 2) (v := z1.heap.objs.size + 3) (i1 := z1.heap.objs.size) (i2 := z1.heap.objs.size + 1) ?_, ⟨gz, gu, ⟨_, _, gv⟩, g1, g2⟩, fresh, q⟩
    exact sep_of _ a b la lb
end L2.TB
namespace L2.TB
open PySem PySem.Spec PyProof.Rows
/-- a new key comes last -/
theorem put_last {acc : List (Key × V)} {k : Key} {v : V} (h : k ∉ acc.map (·.1)) : putK acc k v = acc ++ [(k, v)] := by
  have nd : ∀ acc : List (Key × V), k ∉ acc.map (·.1) → putK acc k v = acc ++ [(k, v)] := by
    intro acc h
    have no : (acc.any fun e => decide (e.1 = k)) = false := by
      cases q : acc.any fun e => decide (e.1 = k) with
      | false => rfl
      | true =>
        obtain ⟨e, he, ee⟩ := List.any_eq_true.mp q
        exact absurd (of_decide_eq_true ee ▸ List.mem_map_of_mem (f := (·.1)) he) h
    unfold putK
    rw [no]
    rfl
  exact nd acc h
/-- what a dict comprehension asks of its turns -/
def DcW (J : It) (g : TG) (tt : TT) (tk tv : TE) (vs : List Nat) (σ : St) (H1 : Hp) (Q : Addr → Hp → Prop) : Prop := ∀ D, H1 D = none → ∃ W : Nat → Nat → Hp → Prop, (∃ m, W 0 m (upd H1 D (.dK []))) ∧ ∀ i m H, W i m H →
  (J.stop i H ∧ Q D H) ∨ (J.go i H ∧ ∃ Nx : Hp → Prop, (∀ H', Nx H' → ∃ m', m' < m ∧ W (i + 1) m' H') ∧ ∀ x H', J.yld i H x H' → g x (wipe σ vs) H' fun σ2 H2 => wipe σ2 vs = wipe σ vs ∧ tt σ2 H2 fun b H3 =>
    if b = true then tk σ2 H3 fun y H4 => tv σ2 H4 fun z H5 => ∃ kvs k, y = kV k ∧ H5 D = some (.dK kvs) ∧ kvs.length < sizeLine ∧ Nx (upd H5 D (.dK (putK kvs k z))) else Nx H3)
/-- unlike keys: kvs is what it makes -/
theorem dc_gen {J : It} {g : TG} {tt : TT} {tk tv : TE} {vs : List Nat} {σ : St} {H1 : Hp} {Q : Addr → Hp → Prop} (kvs : List (Key × V)) (short : kvs.length < 1000000) (unlike : (kvs.map (·.1)).Nodup) (go : ∀ i H, Same H1 H → i < kvs.length → J.go i H) (stop : ∀ H, Same H1 H → J.stop kvs.length H)
    (turn : ∀ (i : Nat) (x : V) (k : Key) (v : V) (H H' : Hp) (C : V → V → Hp → Prop) (N : Hp → Prop), kvs[i]? = some (k, v) → Same H1 H → J.yld i H x H' → (∀ H5, Same H H5 → C (kV k) v H5) →
      g x (wipe σ vs) H' fun σ2 H2 => wipe σ2 vs = wipe σ vs ∧ tt σ2 H2 fun b H3 => if b = true then tk σ2 H3 fun y H4 => tv σ2 H4 fun z H5 => C y z H5 else N H3)
    (fin : ∀ H D, H1 D = none → H D = some (.dK kvs) → Same H1 H → Q D H) : DcW J g tt tk tv vs σ H1 Q := by
  intro D nD
  refine ⟨fun i m H => m = kvs.length - i ∧ i ≤ kvs.length ∧ H D = some (.dK (kvs.take i)) ∧ Same H1 H, ⟨_, rfl, Nat.zero_le _, upd_same, same_new nD⟩, ?_⟩
  rintro i m H ⟨rfl, le, oD, s1⟩
  by_cases lt : i < kvs.length
  · refine .inr ⟨go i H s1 lt, fun H' => H' D = some (.dK (kvs.take (i + 1))) ∧ Same H1 H', fun H' h => ⟨kvs.length - (i + 1), by omega, rfl, lt, h⟩, fun x H' yl => ?_⟩
    obtain ⟨k, v⟩ : Key × V := kvs[i]
    have ey : kvs[i]? = some (kvs[i].1, kvs[i].2) := List.getElem?_eq_getElem lt
    have et : kvs.take (i + 1) = kvs.take i ++ [(kvs[i].1, kvs[i].2)] := by rw [List.take_succ, ey]; rfl
    refine turn i x _ _ H H' (fun y z H5 => ∃ acc k, y = kV k ∧ H5 D = some (.dK acc) ∧ acc.length < sizeLine ∧ (upd H5 D (.dK (putK acc k z))) D = some (.dK (kvs.take (i + 1))) ∧ Same H1 (upd H5 D (.dK (putK acc k z)))) _ ey s1 yl fun H5 s5 => ⟨_, _, rfl, s5 _ _ oD, ?_, ?_, ?_⟩
    · rw [sizeLine_eq, List.length_take]; omega
    · rw [upd_same, put_last, et]
      have sp : ((kvs.take (i + 1)).map (·.1)).Nodup := (unlike.sublist ((List.take_sublist _ _).map _))
      rw [et, List.map_append, List.nodup_append] at sp
      exact fun hin => sp.2.2 _ hin _ (by simp) rfl
    · intro b u e
      rw [upd_ne (ne_of_none e nD)]
      exact s5 _ _ (s1 _ _ e)
  · obtain rfl : i = kvs.length := by omega
    rw [List.take_length] at oD
    exact .inl ⟨stop H s1, fin H D nD oD s1⟩
/-! the table's rows as dicts -/
def spDictOf (C : Addr) : Sp := fun vs H Q _ => ∃ (a p : Addr) (ns : List Str) (tbl : List (List Int)) (us : List Int), vs = [.ref a, .ref p] ∧ TabAt H C a ns tbl ∧ ns.Nodup ∧ ns.length < 1000 ∧ H p = some (.tup (us.map V.int)) ∧ us.length = ns.length ∧ ∀ H' d, H d = none → H' d = some (.dK (dk ns us)) → Same H H' → Q (.ref d) H'
def spRowsM (C : Addr) : Sp := fun vs H Q _ => ∃ (a : Addr) (ns : List Str) (tbl : List (List Int)), vs = [.ref a] ∧ TabAt H C a ns tbl ∧ ns.Nodup ∧ ns.length < 1000 ∧ tbl.length < 1000 ∧
  ∀ H' q as, H q = none → H' q = some (.lst ((as : List Addr).map V.ref)) → DRows H' ns as tbl → (∀ t ∈ as, H t = none) → Same H H' → Q (.ref q) H'
abbrev NDo : List Str := ["self", "row", "name", "answer"]
theorem scDictOf : FnScope NDo ["self", "row"] (defScope sDictOf) := ⟨rfl, rfl, rfl, by decide +kernel, rfl, by decide +kernel, by decide +kernel⟩
abbrev NRm : List Str := ["self", "row"]
theorem scRowsM : FnScope NRm ["self"] (defScope sRowsM) := ⟨rfl, rfl, rfl, by decide +kernel, rfl, by decide +kernel, by decide +kernel⟩
section
variable {P : Program} {w : World} {K : PySem.W.Frag} {mg : Str → Option Value} {base : Heap} {f C fD : Addr} {fd fdD : FuncData}
theorem ok_dictOf (F : Fun K "_dict_of" "Table._dict_of" sDictOf f fd) (T : TabC K C) (gZ : mg "zip" = none) : FnOk P w K mg base CX0 1 f fd ["self", "row"] (spDictOf C) := by
  refine F.ok scDictOf (fun vs H Q E h => by obtain ⟨a, p, ns, tbl, us, e, _⟩ := h; rw [e]; rfl) fun cdv A outer s H vs Q E hr hsp => ?_
  obtain ⟨a, p, ns, tbl, us, rfl, tab, nnd, nsh, hp, lu, hq⟩ := hsp
  obtain ⟨dx, qa, ra, ha, hqa, hra⟩ := tab.ex
  have nd := scDictOf.nd
  refine ⟨_, pss_one (ps_ret (pe_dc (own := [("name", 2), ("answer", 3)]) (tt := tYes) (g := gTup K 2 (gCons (gName 2) (gCons (gName 3) gNil))) (tk := tVar 2) (tv := tVar 3) rfl nd (pi_zipM rfl gZ (pa_cons (pe_fld (pv 0) rfl) (pa_cons (pv 1) pa_nil))) (blkOk_by (N := NDo) (sc := defScope sDictOf) (by decide +kernel))
    (fun _ _ _ _ _ => pg_tup rfl (pgs_cons (pg_name (i := 2) nd rfl (Or.inl rfl)) (pgs_cons (pg_name (i := 3) nd rfl (Or.inl rfl)) pgs_nil))) (fun _ _ _ _ _ => pts_nil) (fun _ _ _ _ _ => pv 2) (fun _ _ _ _ _ => pv 3))), ?_⟩
  have ldk : (dk ns us).length = ns.length := by
    unfold dk
    rw [List.length_map, List.length_zip]; omega
  refine ⟨_, rfl, a, C, dx, _, _, rfl, ha, T.cl, T.nQ, rfl, _, rfl, qa, p, ns.map V.str, us.map V.int, rfl, SqL.of hqa, SqT.of hp, ?_⟩
  refine dc_gen (Q := fun D H' => Q (.ref D) H') (dk ns us) (by omega) (dk_nd lu.symm nnd) (fun i H' k lt => ?_) (fun H' k => ⟨_, _, SqL.of (k _ _ hqa), SqT.of (k _ _ hp), by rw [List.length_map, ldk], by rw [List.length_map, ldk, lu]⟩) ?_ fun H' D nD oD k => hq H' D nD oD k
  · rw [ldk] at lt
    exact ⟨_, _, _, _, SqL.of (k _ _ hqa), SqT.of (k _ _ hp), List.getElem?_eq_getElem (by rw [List.length_map]; exact lt), List.getElem?_eq_getElem (by rw [List.length_map]; omega)⟩
  · rintro i x k v H2 H3 Cn Nn ekv s2 ⟨t, x1, x2, rfl, nt, rfl, g1, g2⟩ yes
    have e1 := g1 _ (SqL.of (s2 _ _ hqa))
    have e2 := g2 _ (SqT.of (s2 _ _ hp))
    obtain ⟨y, n, rfl, rfl, ey, _⟩ := dk_at ekv nnd lu.symm
    rw [List.getElem?_map, ey] at e1
    obtain rfl : V.str y = x1 := Option.some.inj e1
    have ex : x2 = V.int n := by
      unfold dk at ekv
      rw [List.getElem?_map] at ekv
      obtain ⟨z, ez, e⟩ := Option.map_eq_some_iff.mp ekv
      have ez : (ns.zip us)[i]? = some z := ez
      rw [List.getElem?_zip_eq_some] at ez
      have en : z.2 = n := V.int.inj (congrArg Prod.snd e)
      rw [List.getElem?_map, ez.2, Option.map_some, en] at e2
      exact (Option.some.inj e2).symm
    subst ex
    have st := same_new (o := .tup [V.str y, V.int n]) nt
    refine ⟨t, _, rfl, SqT.of upd_same, rfl, _, _, rfl, _, _, rfl, rfl, rfl, ?_⟩
    exact ⟨_, rfl, _, rfl, yes _ st⟩
theorem ok_rowsM (F : Fun K "rows" "Table.rows" sRowsM f fd) (T : TabC K C) (FD : Fun K "_dict_of" "Table._dict_of" sDictOf fD fdD) (mD : Meth K C "_dict_of" fD) (gZ : mg "zip" = none) : FnOk P w K mg base CX0 2 f fd ["self"] (spRowsM C) := by
  have GD : FnOk P w K mg base CX0 1 fD fdD ["self", "row"] (spDictOf C) := ok_dictOf FD T gZ
  have bD := FD.binds (ps := ["self", "row"]) fun _ _ _ _ _ _ us hl => match us, hl with | [_, _], _ => rfl
  refine F.ok scRowsM (fun vs H Q E h => by obtain ⟨a, ns, tbl, e, _⟩ := h; rw [e]; rfl) fun cdv A outer s H vs Q E hr hsp => ?_
  obtain ⟨a, ns, tbl, rfl, tab, nnd, nsh, tsh, hq⟩ := hsp
  obtain ⟨dx, qa, ra, ha, hqa, hra⟩ := id tab.ex
  obtain ⟨ps, hps, prs⟩ := hra
  have nd := scRowsM.nd
  have lp : ps.length = tbl.length := Paired.length prs
  refine ⟨_, pss_one (ps_ret (pe_lc (own := [("row", 1)]) (tt := tYes) rfl nd (pi_list (pe_fld (pv 0) rfl)) (blkOk_by (N := NRm) (sc := defScope sRowsM) (by decide +kernel)) (fun _ _ _ _ _ => pg_name (i := 1) nd rfl (Or.inl rfl)) (fun _ _ _ _ _ => pts_nil)
    (fun _ _ _ _ _ => pe_meth (pv 0) T.cl mD GD hr bD .nil pass0 (pa_cons (pv 1) pa_nil)))), ?_⟩
  refine ⟨_, rfl, a, C, dx, _, _, rfl, ha, T.cl, T.nR, rfl, ra, rfl, ⟨_, SqL.of hps⟩, ?_⟩
  refine lc_made (Q := fun D H' => Q (.ref D) H') tbl.length (by omega) (fun i H' k lt => ⟨_, _, SqL.of (k _ _ hps), List.getElem?_eq_getElem (by rw [List.length_map]; omega)⟩) (fun H' k => ⟨_, SqL.of (k _ _ hps), by rw [List.length_map]; omega⟩)
    (fun i y H' => ∃ t us, y = V.ref t ∧ tbl[i]? = some us ∧ H' t = some (.dK (dk ns us)) ∧ us.length = ns.length ∧ H t = none) ?_ ?_ ?_
  · rintro i y H2 H3 D l ⟨t, us, rfl, eu, ot, lu, nt⟩ oD keep
    exact ⟨t, us, rfl, eu, keep _ _ (ne_of ot oD (by intro z; cases z)) ot, lu, nt⟩
  · rintro i x H2 H3 Cn Nn lt s2 ⟨rfl, ex⟩ yes
    have ex := ex _ (SqL.of (s2 _ _ hps))
    rw [List.getElem?_map] at ex
    obtain ⟨p, ep, rfl⟩ := Option.map_eq_some_iff.mp ex
    obtain ⟨us, eu, op, lu⟩ := paired_get prs ep
    refine ⟨rfl, ?_⟩
    exact ⟨_, rfl, a, dx, _, rfl, s2 _ _ ha, rfl, _, rfl, a, p, ns, tbl, us, rfl, tab.same s2, nnd, nsh, s2 _ _ op, lu, fun H4 d nd od s4 => yes _ _ ⟨d, us, rfl, eu, od, lu, s2.free nd⟩ s4⟩
  · intro H2 D ys nD oD ly ry s2
    obtain ⟨as, rfl, pa⟩ := addrs_of (H := H2) (P := fun i t => (∃ us, tbl[i]? = some us ∧ H2 t = some (.dK (dk ns us)) ∧ us.length = ns.length) ∧ H t = none) ys 0 fun j y e => by
      obtain ⟨t, us, e1, e2, e3, e4, e5⟩ := ry j y e
      exact ⟨t, e1, ⟨us, by simpa using e2, e3, e4⟩, e5⟩
    refine hq H2 D as nD oD (paired_of as tbl (by rw [← ly, List.length_map]) fun i t us et eu => ?_) (fun t ht => ?_) s2
    rotate_left
    · obtain ⟨i, hi, e⟩ := List.getElem_of_mem ht
      exact (pa i t (by rw [List.getElem?_eq_getElem hi, e])).2
    obtain ⟨⟨us', e2, e3, e4⟩, _⟩ := pa i t et
    rw [Nat.zero_add, eu] at e2
    cases e2
    exact ⟨e3, e4⟩
end
end L2.TB
/-! d.setdefault(k, x), called at once -/
namespace L2.TB
open PySem PySem.Spec PyProof.Rows
/-- the dict, the key and what is laid where the key is new -/
def tSetd (td tk tx : TE) : TE := fun σ H Q => td σ H fun x H1 => ∃ p, x = .ref p ∧ IsD H1 p ∧ tk σ H1 fun y H2 => tx σ H2 fun z H3 => rSetd (.ref p) [y, z] H3 Q
section
variable {X : Cx} {do_ ek ex : Expr} {pA pC : Pos} {td tk tx : TE}
theorem pe_setd (hd : PE X do_ td) (hk : PE X ek tk) (hx : PE X ex tx) (look : M2 X do_ "setdefault" pA ek ex pC) : PE X (.Call (.Attribute do_ "setdefault" pA) [ek, ex] [] pC) (tSetd td tk tx) := by
  refine ⟨fun pins s σ H Q I h => ?_⟩
  have od := hd.run pins s σ H _ I h
  refine wpAny_Call_method look.base look.few look.line F.plainAttrs_dict F.slot_dict_setdefault F.type_dict_setdefault (thn od ?_)
  rintro ud sD ⟨vd, HD, ID, relD, p, rfl, isD, after⟩
  obtain rfl : ud = Value.ref p := relD
  have at_ := isD_at ID isD
  refine ⟨at_.1, at_.2.1, ?_⟩
  rw [look.trees]
  refine Calls.callWith_builtin rfl (Calls.evalArgs_plain (Calls.spliced_cons (thn (hk.run pins sD σ HD _ ID after) ?_)))
  rintro uk sK ⟨vk, HK, IK, relK, after⟩
  refine Calls.spliced_cons (thn (hx.run pins sK σ HK _ IK after) ?_)
  rintro ux sX ⟨vx, HX, IX, relX, p', kvs, k, v, ep, evs, atp, shortP, yes, no⟩
  cases ep
  cases evs
  refine Calls.spliced_nil ?_
  obtain ⟨szP, nosys, pairs, relP, isP⟩ := dk_of IX.hok atp
  have few : pairs.length ≤ sizeLine := relP.length ▸ szP
  refine call_meetsIn F.slot_dict_setdefault isP.typeIs F.entry_dict_setdefault (F.args_dict_setdefault_3 _ _ _) (kt_meets_setdefault (mixKind X.prog X.w) p (kV_is relK) nosys ux) ⟨pairs, isP, few, ?_, ?_⟩
  · intro u stands
    have both := relP.val k
    rw [stands] at both
    cases q : valV kvs k with
    | none => rw [q] at both; exact both.elim
    | some x => rw [q] at both; exact ⟨x, HX, IX.tok _, both, yes x q⟩
  · intro fresh h2 is2 but2
    have both := relP.val k
    rw [fresh] at both
    cases q : valV kvs k with
    | some x => rw [q] at both; exact both.elim
    | none =>
      have fits : (putK kvs k vx).length ≤ sizeLine := by
        have z := length_putK kvs k vx
        omega
      have there : ∃ o, h2.get? p = some o := by
        obtain ⟨o, _, _, e, _⟩ := is2
        exact ⟨o, e⟩
      exact ⟨vx, _, d_write (t' := sX.toks + 1) IX (by rw [atp]; exact True.intro) but2 there (dk_new fits nosys (relP.put k relX) is2), relX, no q⟩
end
end L2.TB
/-! dict comprehensions whose values are made in the turns; rows parted by what they say to a question -/
namespace L2.TB
open PySem PySem.Spec PyProof.Rows
theorem map_snoc {α β : Type} (f : α → β) {l : List α} {x : α} : (l ++ [x]).map f = l.map f ++ [f x] := by rw [List.map_append]; rfl
theorem dc_made {J : It} {g : TG} {tt : TT} {tk tv : TE} {vs : List Nat} {σ : St} {H1 : Hp} {Q : Addr → Hp → Prop} (ks : List Key) (short : ks.length < 1000000) (unlike : ks.Nodup) (go : ∀ i H, Same H1 H → i < ks.length → J.go i H) (stop : ∀ H, Same H1 H → J.stop ks.length H)
    (R : Nat → V → Hp → Prop) (stays : ∀ i y H H' D l, R i y H → H D = some (.dK l) → (∀ b o, b ≠ D → H b = some o → H' b = some o) → R i y H')
    (turn : ∀ (i : Nat) (x : V) (k : Key) (H H' : Hp) (C : V → V → Hp → Prop) (N : Hp → Prop), ks[i]? = some k → Same H1 H → J.yld i H x H' → (∀ v H5, R i v H5 → Same H H5 → C (kV k) v H5) →
      g x (wipe σ vs) H' fun σ2 H2 => wipe σ2 vs = wipe σ vs ∧ tt σ2 H2 fun b H3 => if b = true then tk σ2 H3 fun y H4 => tv σ2 H4 fun z H5 => C y z H5 else N H3)
    (fin : ∀ H D kvs, H1 D = none → H D = some (.dK kvs) → kvs.map (·.1) = ks → (∀ j k y, kvs[j]? = some (k, y) → R j y H) → Same H1 H → Q D H) : DcW J g tt tk tv vs σ H1 Q := by
  intro D nD
  refine ⟨fun i m H => m = ks.length - i ∧ i ≤ ks.length ∧ (∃ acc : List (Key × V), H D = some (.dK acc) ∧ acc.map (·.1) = ks.take i ∧ ∀ j k y, acc[j]? = some (k, y) → R j y H) ∧ Same H1 H,
    ⟨_, rfl, Nat.zero_le _, ⟨[], upd_same, by simp, fun j k y e => by simp at e⟩, same_new nD⟩, ?_⟩
  rintro i m H ⟨rfl, le, ⟨acc, oD, ea, hR⟩, s1⟩
  have la : acc.length = i := by
    have z := congrArg List.length ea
    rw [List.length_map, List.length_take] at z
    omega
  by_cases lt : i < ks.length
  · refine .inr ⟨go i H s1 lt, fun H' => (∃ acc : List (Key × V), H' D = some (.dK acc) ∧ acc.map (·.1) = ks.take (i + 1) ∧ ∀ j k y, acc[j]? = some (k, y) → R j y H') ∧ Same H1 H', fun H' h => ⟨ks.length - (i + 1), by omega, rfl, lt, h⟩, fun x H' yl => ?_⟩
    have ek : ks[i]? = some ks[i] := List.getElem?_eq_getElem lt
    have et : ks.take (i + 1) = ks.take i ++ [ks[i]] := by rw [List.take_succ, ek]; rfl
    have sp : (ks.take (i + 1)).Nodup := unlike.sublist (List.take_sublist _ _)
    rw [et, List.nodup_append] at sp
    have out : ks[i] ∉ acc.map (·.1) := fun z => sp.2.2 _ (by rw [← ea]; exact z) _ (by simp) rfl
    refine turn i x ks[i] H H' _ _ ek s1 yl fun v H5 hv s5 => ⟨acc, ks[i], rfl, s5 _ _ oD, by rw [sizeLine_eq]; omega, ⟨acc ++ [(ks[i], v)], ?_, ?_, ?_⟩, ?_⟩
    · rw [upd_same, put_last out]
    · rw [map_snoc, ea, et]
    · have keep : ∀ b o, b ≠ D → H5 b = some o → upd H5 D (.dK (putK acc ks[i] v)) b = some o := fun b o nb e => by rw [upd_ne nb]; exact e
      intro j k y e
      by_cases hj : j < acc.length
      · rw [List.getElem?_append_left hj] at e
        have a1 : R j y H5 := stays j y H H5 D acc (hR j k y e) oD fun b o _ e => s5 _ _ e
        exact stays j y H5 _ D acc a1 (s5 _ _ oD) keep
      · rw [List.getElem?_append_right (by omega)] at e
        have : j - acc.length = 0 := by
          rcases Nat.eq_zero_or_pos (j - acc.length) with z | z
          · exact z
          · rw [List.getElem?_eq_none (by simp; omega)] at e; cases e
        rw [this] at e
        cases e
        have : j = i := by omega
        rw [this]
        exact stays i v H5 _ D acc hv (s5 _ _ oD) keep
    · intro b u e
      rw [upd_ne (ne_of_none e nD)]
      exact s5 _ _ (s1 _ _ e)
  · obtain rfl : i = ks.length := by omega
    rw [List.take_length] at ea
    exact .inl ⟨stop H s1, fin H D acc nD oD ea hR s1⟩
/-! the parting itself -/
/-- what stands in a list, each once, in the order of its first place -/
def onceZ (l : List Int) : List Int := l.foldl (fun acc v => if v ∈ acc then acc else acc ++ [v]) []
theorem once_snoc (l : List Int) (v : Int) : onceZ (l ++ [v]) = if v ∈ onceZ l then onceZ l else onceZ l ++ [v] := by
  unfold onceZ
  rw [List.foldl_append]
  rfl
theorem rev_ind {α : Type} {P : List α → Prop} (h0 : P []) (hs : ∀ l x, P l → P (l ++ [x])) (l : List α) : P l := by
  have z : ∀ r : List α, P r.reverse := fun r => by
    induction r with
    | nil => exact h0
    | cons x r ih => rw [List.reverse_cons]; exact hs _ _ ih
  have := z l.reverse
  rw [List.reverse_reverse] at this
  exact this
theorem once_mem (l : List Int) : ∀ v, v ∈ onceZ l ↔ v ∈ l := by
  induction l using rev_ind with
  | h0 => intro v; simp [onceZ]
  | hs l x ih =>
    intro v
    rw [once_snoc]
    by_cases h : x ∈ onceZ l
    · rw [if_pos h, ih v, List.mem_append]
      refine ⟨.inl, fun z => z.elim id fun z => ?_⟩
      have : v = x := by simpa using z
      rw [this]; exact (ih x).mp h
    · rw [if_neg h, List.mem_append, List.mem_append, ih v]
theorem once_nd (l : List Int) : (onceZ l).Nodup := by
  induction l using rev_ind with
  | h0 => exact List.nodup_nil
  | hs l x ih =>
    rw [once_snoc]
    by_cases h : x ∈ onceZ l
    · rw [if_pos h]; exact ih
    · rw [if_neg h, List.nodup_append]
      exact ⟨ih, by simp, fun a ha b hb e => h (by have : b = x := by simpa using hb
                                                   rw [← this, ← e]; exact ha)⟩
theorem once_len (l : List Int) : (onceZ l).length ≤ l.length := by
  induction l using rev_ind with
  | h0 => exact Nat.le_refl _
  | hs l x ih =>
    rw [once_snoc, List.length_append]
    split
    · omega
    · rw [List.length_append]; simp; omega
/-- the parts of some rows by what each says: answers in the order in which they come first -/
def answersOf (f : Nat → Int) (part : List Nat) : List Int := onceZ (part.map f)
def partOf (f : Nat → Int) (part : List Nat) (v : Int) : List Nat := part.filter fun i => decide (f i = v)
theorem part_snoc (f : Nat → Int) (p : List Nat) (i : Nat) (v : Int) : partOf f (p ++ [i]) v = if f i = v then partOf f p v ++ [i] else partOf f p v := by
  unfold partOf
  rw [List.filter_append]
  by_cases h : f i = v
  · rw [if_pos h]; simp [h]
  · rw [if_neg h]; simp [h]
theorem part_none {f : Nat → Int} {p : List Nat} {v : Int} (h : v ∉ answersOf f p) : partOf f p v = [] := by
  unfold partOf
  refine List.filter_eq_nil_iff.mpr fun i hi e => h ?_
  unfold answersOf
  rw [once_mem]
  exact List.mem_map.mpr ⟨i, hi, of_decide_eq_true e⟩
theorem part_some {f : Nat → Int} {p : List Nat} {v : Int} (h : v ∈ answersOf f p) : partOf f p v ≠ [] := by
  unfold answersOf at h
  rw [once_mem] at h
  obtain ⟨i, hi, e⟩ := List.mem_map.mp h
  intro z
  have : i ∈ partOf f p v := List.mem_filter.mpr ⟨hi, decide_eq_true e⟩
  rw [z] at this
  cases this
end L2.TB
namespace L2.TB
open PySem PySem.Spec PyProof.Rows
/-! the law's own look at pairs of rows -/
theorem ints_shape : ∀ ks : List Int, PyData.canLayAll0 (ks.map PyData.int) = true ∧ PyData.depthAll (ks.map PyData.int) = 0
  | [] => ⟨by simp [PyData.canLayAll0], by simp [PyData.depthAll]⟩
  | b :: bs => by
    obtain ⟨h1, h2⟩ := ints_shape bs
    exact ⟨by simp [PyData.canLayAll0, PyData.canLay0, h1], by simp [PyData.depthAll, PyData.depth, h2]⟩
theorem tup_shaped (ks : List Int) : SeqAt.shaped (.tuple (ks.map PyData.int)) = true := by
  obtain ⟨h1, h2⟩ := ints_shape ks
  unfold SeqAt.shaped
  simp [PyData.canLay0, PyData.depth, h1, h2]
theorem tup_eqvAll : ∀ a b : List Int, PyData.eqvAll (a.map PyData.int) (b.map PyData.int) = decide (a = b)
  | [], [] => by simp [PyData.eqvAll]
  | [], _ :: _ => by simp [PyData.eqvAll]
  | _ :: _, [] => by simp [PyData.eqvAll]
  | x :: a, y :: b => by
    rw [List.map_cons, List.map_cons, PyData.eqvAll, tup_eqvAll a b, PyData.eqv]
    by_cases h1 : x = y
    · by_cases h2 : a = b <;> simp [h1, h2]
    · simp [h1]
theorem tup_eqv (a b : List Int) : PyData.eqv (.tuple (a.map PyData.int)) (.tuple (b.map PyData.int)) = decide (a = b) := by rw [PyData.eqv, tup_eqvAll]
theorem dk_av {ns : List Str} {vs : List Int} {x : Str} (nd : ns.Nodup) (hl : vs.length = ns.length) (xin : x ∈ ns) : valV (dk ns vs) (Sum.inr x) = some (.int (av ns vs x)) := by
  have lt : idx ns x < ns.length := List.idxOf_lt_length_of_mem xin
  have e1 : ns[idx ns x]? = some x := by
    rw [List.getElem?_eq_getElem lt]
    exact congrArg some (List.getElem_idxOf lt)
  have e2 : vs[idx ns x]? = some (av ns vs x) := by
    unfold av
    rw [List.getD_eq_getElem?_getD, List.getElem?_eq_getElem (by omega)]
    rfl
  have edk : (dk ns vs)[idx ns x]? = some (Sum.inr x, V.int (av ns vs x)) := by
    unfold dk
    rw [List.getElem?_map, List.getElem?_zip_eq_some.mpr (show ns[idx ns x]? = some (x, av ns vs x).1 ∧ vs[idx ns x]? = some (x, av ns vs x).2 from ⟨e1, e2⟩)]
    rfl
  obtain ⟨z', n', q1, q2, _, hv⟩ := dk_at edk nd hl.symm
  obtain rfl := Sum.inr.inj q1
  obtain rfl := V.int.inj q2
  exact hv
theorem rd_same {H H' : Hp} {d : Addr} {u : HO} (h : Rd H d u) (s : Same H H') : Rd H' d u := h.imp (s _ _) fun ⟨o, e⟩ => ⟨o, s _ _ e⟩
theorem dget_r {H : Hp} {a : Addr} {kvs : List (Key × V)} {k : Key} (e : Rd H a (.dK kvs)) : DGet H a (kV k) (valV kvs k) := .inl ⟨kvs, k, e, rfl, rfl⟩
/-- rows that are read, one of them perhaps being walked -/
def RRows (H : Hp) (ns : List Str) : List Addr → List (List Int) → Prop := Paired fun a vs => Rd H a (.dK (dk ns vs)) ∧ vs.length = ns.length
theorem RRows.same {H H' : Hp} {ns : List Str} {as : List Addr} {tbl : List (List Int)} (r : RRows H ns as tbl) (s : Same H H') : RRows H' ns as tbl := Paired.mapP r fun a vs h => ⟨rd_same h.1 s, h.2⟩
theorem DRows.rd {H : Hp} {ns : List Str} {as : List Addr} {tbl : List (List Int)} (r : DRows H ns as tbl) : RRows H ns as tbl := Paired.mapP r fun a vs h => ⟨.inl h.1, h.2⟩
end L2.TB
/-! a search: its fields; rows parted -/
namespace L2.TB
open PySem PySem.Spec PyProof.Rows
variable {wa : Addr} {ws : Option (List Int)}
def seaF (rL : Addr) (x of wt : V) (bs : Addr) : List (Str × V) := [("_rows", .ref rL), ("_asked", x), ("_of", of), ("_weights", wt), ("_bests", .ref bs)]
structure SeaC (K : PySem.W.Frag) (C : Addr) : Prop where
  cl : Cls K C
  nR : NoAttr K C "_rows"
  nA : NoAttr K C "_asked"
  nO : NoAttr K C "_of"
  nW : NoAttr K C "_weights"
  nB : NoAttr K C "_bests"
abbrev NSi : List Str := ["self", "table", "asked", "of", "weights"]
theorem scSi : FnScope NSi NSi (defScope sSInit) := ⟨rfl, rfl, rfl, by decide +kernel, rfl, by decide +kernel, by decide +kernel⟩
def spSInit (CT C : Addr) : Sp := fun vs H Q _ => ∃ (p dx t : Addr) (x of wt : V) (ns : List Str) (tbl : List (List Int)), vs = [.ref p, .ref t, x, of, wt] ∧ H p = some (.ins C dx []) ∧ TabAt H CT t ns tbl ∧ ns.Nodup ∧ ns.length < 1000 ∧ tbl.length < 1000 ∧
  ∀ H' rL bs as, H rL = none → H bs = none → H' p = some (.ins C dx (seaF rL x of wt bs)) → H' rL = some (.lst ((as : List Addr).map V.ref)) → DRows H' ns as tbl → H' bs = some (.dT []) → (∀ b o, b ≠ p → H b = some o → H' b = some o) → Q .non H'
/-- the weights, if any -/
def wtV (wa : Addr) : Option (List Int) → V
  | none => .non
  | some _ => .ref wa
def WtOk (H : Hp) (wa : Addr) (ws : Option (List Int)) (n : Nat) : Prop := ∀ l, ws = some l → H wa = some (.lst (l.map V.int)) ∧ l.length = n
/-- a search over the rows of tbl; what is known of the best stands elsewhere, at bs -/
structure SeaAt (wa : Addr) (ws : Option (List Int)) (H : Hp) (C a : Addr) (ns : List Str) (tbl : List (List Int)) (x : Str) (of : List Str) (bs : Addr) : Prop where
  ex : ∃ dx rL oL as, H a = some (.ins C dx (seaF rL (.str x) (.ref oL) (wtV wa ws) bs)) ∧ H rL = some (.lst ((as : List Addr).map V.ref)) ∧ DRows H ns as tbl ∧ H oL = some (.lst (of.map V.str))
  nd : ns.Nodup
  xin : x ∈ ns
  sub : ∀ y ∈ of, y ∈ ns
  sh : tbl.length < 1000
  so : of.length < 1000
  wok : WtOk H wa ws tbl.length
/-- a dict of what is known of the best, whatever -/
def IsT (H : Hp) (bs : Addr) : Prop := ∃ kvs, H bs = some (.dT kvs)
/-- all stays but what is at bs -/
def ButB (bs : Addr) (H H' : Hp) : Prop := ∀ b o, b ≠ bs → H b = some o → H' b = some o
theorem ButB.refl {bs : Addr} {H : Hp} : ButB bs H H := fun _ _ _ e => e
theorem ButB.trans {bs : Addr} {H H1 H2 : Hp} (a : ButB bs H H1) (b : ButB bs H1 H2) : ButB bs H H2 := fun c o n e => b c o n (a c o n e)
theorem ButB.of {bs : Addr} {H H' : Hp} (s : Same H H') : ButB bs H H' := fun b o _ e => s b o e
theorem DRows.but {bs : Addr} {H H' : Hp} {ns : List Str} {as : List Addr} {tbl : List (List Int)} (r : DRows H ns as tbl) (t : IsT H bs) (s : ButB bs H H') : DRows H' ns as tbl :=
  Paired.mapP r fun a vs h => ⟨s _ _ (fun z => by obtain ⟨kvs, e⟩ := t; rw [z, e] at h; cases h.1) h.1, h.2⟩
theorem SeaAt.but {H H' : Hp} {C a bs : Addr} {ns : List Str} {tbl : List (List Int)} {x : Str} {of : List Str} (h : SeaAt wa ws H C a ns tbl x of bs) (t : IsT H bs) (s : ButB bs H H') : SeaAt wa ws H' C a ns tbl x of bs := by
  obtain ⟨⟨dx, rL, oL, as, h1, h2, h3, h4⟩, n1, n2, n3, n4, n5, n6⟩ := h
  have ne : ∀ {b : Addr} {o : HO}, (∀ kvs, o ≠ .dT kvs) → H b = some o → b ≠ bs := fun no e z => by
    obtain ⟨kvs, et⟩ := t
    rw [z, et] at e
    exact no _ (Option.some.inj e).symm
  exact ⟨⟨dx, rL, oL, as, s _ _ (ne (fun _ z => by cases z) h1) h1, s _ _ (ne (fun _ z => by cases z) h2) h2, h3.but t s, s _ _ (ne (fun _ z => by cases z) h4) h4⟩, n1, n2, n3, n4, n5, fun l e => ⟨s _ _ (ne (fun _ z => by cases z) (n6 l e).1) (n6 l e).1, (n6 l e).2⟩⟩
theorem SeaAt.same {H H' : Hp} {C a bs : Addr} {ns : List Str} {tbl : List (List Int)} {x : Str} {of : List Str} (h : SeaAt wa ws H C a ns tbl x of bs) (s : Same H H') : SeaAt wa ws H' C a ns tbl x of bs := by
  obtain ⟨⟨dx, rL, oL, as, h1, h2, h3, h4⟩, n1, n2, n3, n4, n5, n6⟩ := h
  exact ⟨⟨dx, rL, oL, as, s _ _ h1, s _ _ h2, h3.same s, s _ _ h4⟩, n1, n2, n3, n4, n5, fun l e => ⟨s _ _ (n6 l e).1, (n6 l e).2⟩⟩
/-- what row i says to q -/
def says (ns : List Str) (tbl : List (List Int)) (q : Str) (i : Nat) : Int := av ns (tbl.getD i []) q
def natV (i : Nat) : V := .int (i : Int)
/-- a part of the rows: their numbers -/
def PartAt (H : Hp) (a : Addr) (n : Nat) (part : List Nat) : Prop := H a = some (.tup (part.map natV)) ∧ part.length < 1000 ∧ ∀ i ∈ part, i < n
theorem PartAt.same {H H' : Hp} {a : Addr} {n : Nat} {part : List Nat} (h : PartAt H a n part) (s : Same H H') : PartAt H' a n part := ⟨s _ _ h.1, h.2⟩
/-- the parts, by answers, in a dict -/
def PartsAt (H : Hp) (d : Addr) (f : Nat → Int) (part : List Nat) : Prop := ∃ kvs, H d = some (.dK kvs) ∧ kvs.map (·.1) = (answersOf f part).map Sum.inl ∧ ∀ v ∈ answersOf f part, ∃ t, valV kvs (Sum.inl v) = some (.ref t) ∧ H t = some (.tup ((partOf f part v).map natV))
def spPartsOf (wa : Addr) (ws : Option (List Int)) (C : Addr) : Sp := fun vs H Q _ => ∃ (a pa bs : Addr) (ns : List Str) (tbl : List (List Int)) (x q : Str) (of : List Str) (part : List Nat), vs = [.ref a, .ref pa, .str q] ∧ SeaAt wa ws H C a ns tbl x of bs ∧ PartAt H pa tbl.length part ∧ q ∈ ns ∧
  ∀ H' d, Same H H' → H d = none → PartsAt H' d (says ns tbl q) part → Q (.ref d) H'
def spWhole (wa : Addr) (ws : Option (List Int)) (C : Addr) : Sp := fun vs H Q _ => ∃ (a bs : Addr) (ns : List Str) (tbl : List (List Int)) (x : Str) (of : List Str), vs = [.ref a] ∧ SeaAt wa ws H C a ns tbl x of bs ∧ ∀ H' p, Same H H' → PartAt H' p tbl.length (List.range tbl.length) → Q (.ref p) H'
theorem scWh : FnScope ["self"] ["self"] (defScope sWhole) := ⟨rfl, rfl, rfl, by decide +kernel, rfl, by decide +kernel, by decide +kernel⟩
section
variable {P : Program} {w : World} {K : PySem.W.Frag} {mg : Str → Option Value} {base : Heap} {f C CT fR : Addr} {fd fdR : FuncData}
theorem ok_sinit (F : Fun K "__init__" "Search.__init__" sSInit f fd) (S : SeaC K C) (T : TabC K CT) (FR : Fun K "rows" "Table.rows" sRowsM fR fdR) (mR : Meth K CT "rows" fR) (GR : FnOk P w K mg base CX0 2 fR fdR ["self"] (spRowsM CT)) : FnOk P w K mg base CX0 3 f fd NSi (spSInit CT C) := by
  have b := FR.binds (ps := ["self"]) fun _ _ _ _ _ _ us hl => match us, hl with | [_], _ => rfl
  refine F.ok scSi (fun vs H Q E h => by obtain ⟨p, dx, t, x, of, wt, ns, tbl, e, _⟩ := h; rw [e]; rfl) fun cdv A outer s H vs Q E hr hsp => ?_
  obtain ⟨p, dx, t, x, of, wt, ns, tbl, rfl, hp, tab, nd, nsh, tsh, hq⟩ := hsp
  refine ⟨_, pss_cons (ps_fld (pv 0) (pe_meth0 (pv 1) T.cl mR GR hr b .nil pass0 rfl) rfl) (pss_cons (ps_fld (pv 0) (pv 2) rfl) (pss_cons (ps_fld (pv 0) (pv 3) rfl) (pss_cons (ps_fld (pv 0) (pv 4) rfl) (pss_one (ps_fld (pv 0) pe_dnewT rfl))))), ?_⟩
  obtain ⟨dx2, qa, ra, ha, hqa, hra⟩ := id tab.ex
  refine ⟨_, rfl, t, dx2, _, rfl, ha, rfl, ?_⟩
  unfold tNil
  show spRowsM CT _ _ _ _
  refine ⟨t, ns, tbl, rfl, tab, nd, nsh, tsh, fun H1 rL as nrL orL R1 fresh s1 => ?_⟩
  refine ⟨_, rfl, p, C, dx, _, rfl, s1 _ _ hp, S.cl, S.nR, (by show 0 < 1000; omega), ?_⟩
  refine ⟨_, rfl, _, rfl, p, C, dx, _, rfl, upd_same, S.cl, S.nA, (by show 1 < 1000; omega), ?_⟩
  refine ⟨_, rfl, _, rfl, p, C, dx, _, rfl, upd_same, S.cl, S.nO, (by show 2 < 1000; omega), ?_⟩
  refine ⟨_, rfl, _, rfl, p, C, dx, _, rfl, upd_same, S.cl, S.nW, (by show 3 < 1000; omega), ?_⟩
  rw [upd_upd, upd_upd, upd_upd]
  intro bs nb
  have nbp : bs ≠ p := fun z => by rw [z, upd_same] at nb; cases nb
  have nb1 : H1 bs = none := by rw [upd_ne nbp] at nb; exact nb
  refine ⟨_, rfl, p, C, dx, _, rfl, by rw [upd_ne nbp.symm, upd_same], S.cl, S.nB, (by show 4 < 1000; omega), ?_⟩
  have keep : ∀ {b : Addr} {o : HO} {u v : HO}, b ≠ p → H1 b = some o → upd (upd (upd H1 p u) bs (.dT [])) p v b = some o := fun nbp2 e => by
    rw [upd_ne nbp2, upd_ne (ne_of_none e nb1), upd_ne nbp2]; exact e
  have np : ∀ {b : Addr} {o : HO}, H1 b = some o → (∀ C dx fs, o ≠ .ins C dx fs) → b ≠ p := fun e no z => by
    rw [z, s1 _ _ hp] at e; exact no _ _ _ (Option.some.inj e).symm
  refine hq _ rL bs as nrL (s1.free nb1) upd_same (keep (np orL fun _ _ _ z => by cases z) orL) (Paired.mapP R1 fun a vs h => ⟨keep (np h.1 fun _ _ _ z => by cases z) h.1, h.2⟩) (by rw [upd_ne nbp, upd_same]) fun b o nbp2 e => keep nbp2 (s1 _ _ e)
theorem ok_whole (F : Fun K "whole" "Search.whole" sWhole f fd) (S : SeaC K C) (gT : mg "tuple" = none) (gR : mg "range" = none) (gN : mg "len" = none) : FnOk P w K mg base CX0 1 f fd ["self"] (spWhole wa ws C) := by
  refine F.ok scWh (fun vs H Q E h => by obtain ⟨a, bs, ns, tbl, x, of, e, _⟩ := h; rw [e]; rfl) fun cdv A outer s H vs Q E hr hsp => ?_
  obtain ⟨a, bs, ns, tbl, x, of, rfl, sea, hq⟩ := hsp
  obtain ⟨dx, rL, oL, as, h1, h2, h3, h4⟩ := sea.ex
  have la : as.length = tbl.length := Paired.length h3
  have sh := sea.sh
  refine ⟨_, pss_one (ps_ret (pe_tupRg rfl rfl gT (prg_1 rfl gR (pe_callB (r := _) call_len rfl gN boot_len (pa_cons (pe_fld (pv 0) rfl) pa_nil))))), ?_⟩
  refine ⟨_, rfl, a, C, dx, _, _, rfl, h1, S.cl, S.nR, rfl, ?_⟩
  refine ⟨_, tbl.length, rfl, .inl ⟨_, SqL.of h2, by rw [List.length_map, la]⟩, _, rfl, RgOk.of_le (by omega) (by omega) (by omega) (by omega), fun q nq => ?_⟩
  have e : rgV 0 (tbl.length : Int) = (List.range tbl.length).map natV := by
    unfold rgV
    have : ((tbl.length : Int) - 0).toNat = tbl.length := by omega
    rw [this]
    refine List.map_congr_left fun i _ => ?_
    show V.int (0 + (i : Int)) = V.int (i : Int)
    rw [Int.zero_add]
  rw [e]
  exact hq _ q (same_new nq) ⟨upd_same, by rw [List.length_range]; exact sh, fun i hi => List.mem_range.mp hi⟩
end
end L2.TB
/-! parts_of -/
namespace L2.TB
open PySem PySem.Spec PyProof.Rows
variable {wa : Addr} {ws : Option (List Int)}
abbrev NPo : List Str := ["self", "part", "question", "lists", "index", "answer"]
theorem scPo : FnScope NPo ["self", "part", "question"] (defScope sPartsOf) := ⟨rfl, rfl, rfl, by decide +kernel, rfl, by decide +kernel, by decide +kernel⟩
/-- the lists behind the rows p -/
structure LotsAt (H1 H : Hp) (D : Addr) (f : Nat → Int) (p : List Nat) (kvs : List (Key × V)) : Prop where
  d : H D = some (.dK kvs)
  ks : kvs.map (·.1) = (answersOf f p).map Sum.inl
  at_ : ∀ v ∈ answersOf f p, ∃ t, valV kvs (Sum.inl v) = some (.ref t) ∧ H t = some (.lst ((partOf f p v).map natV)) ∧ H1 t = none ∧ t ≠ D
theorem ans_snoc (f : Nat → Int) (p : List Nat) (i : Nat) : answersOf f (p ++ [i]) = if f i ∈ answersOf f p then answersOf f p else answersOf f p ++ [f i] := by
  unfold answersOf
  rw [List.map_append]
  exact once_snoc _ _
theorem ans_len (f : Nat → Int) (p : List Nat) : (answersOf f p).length ≤ p.length := by
  have z := once_len (p.map f)
  rw [List.length_map] at z
  exact z
theorem val_none_of {kvs : List (Key × V)} {k : Key} (h : k ∉ kvs.map (·.1)) : valV kvs k = none := by
  induction kvs with
  | nil => rfl
  | cons e r ih =>
    rw [List.map_cons, List.mem_cons, not_or] at h
    rw [valV_neg (fun z => h.1 z.symm)]
    exact ih h.2
theorem natV_inj {l r : List Nat} (h : l.map natV = r.map natV) : l = r := by
  induction l generalizing r with
  | nil => cases r with
    | nil => rfl
    | cons _ _ => cases h
  | cons a l ih => cases r with
    | nil => cases h
    | cons b r =>
      rw [List.map_cons, List.map_cons, List.cons.injEq] at h
      have e : (a : Int) = (b : Int) := V.int.inj h.1
      rw [ih h.2, Int.ofNat.inj e]
/-- lists of unlike answers stand apart -/
theorem lots_apart {H1 H : Hp} {D : Addr} {f : Nat → Int} {p : List Nat} {kvs : List (Key × V)} (L : LotsAt H1 H D f p kvs) {u v : Int} {t s : Addr} (hu : u ∈ answersOf f p) (hv : v ∈ answersOf f p) (et : H t = some (.lst ((partOf f p u).map natV))) (es : H s = some (.lst ((partOf f p v).map natV))) (ne : u ≠ v) : t ≠ s := by
  rintro rfl
  rw [et] at es
  have e := natV_inj (HO.lst.inj (Option.some.inj es))
  have z := part_some hu
  cases q : partOf f p u with
  | nil => exact z q
  | cons i r =>
    have m1 : i ∈ partOf f p u := by rw [q]; simp
    have m2 : i ∈ partOf f p v := by rw [← e]; exact m1
    exact ne ((of_decide_eq_true (List.mem_filter.mp m1).2).symm.trans (of_decide_eq_true (List.mem_filter.mp m2).2))
section
variable {P : Program} {w : World} {K : PySem.W.Frag} {mg : Str → Option Value} {base : Heap} {f C : Addr} {fd : FuncData}
theorem ok_partsOf (F : Fun K "parts_of" "Search.parts_of" sPartsOf f fd) (S : SeaC K C) (gT : mg "tuple" = none) : FnOk P w K mg base CX0 1 f fd ["self", "part", "question"] (spPartsOf wa ws C) := by
  refine F.ok scPo (fun vs H Q E h => by obtain ⟨a, pa, bs, ns, tbl, x, q, of, part, e, _⟩ := h; rw [e]; rfl) fun cdv A outer s H vs Q E hr hsp => ?_
  obtain ⟨a, pa, bs, ns, tbl, x, q, of, part, rfl, sea, ⟨hpa, shp, below⟩, qin, hq⟩ := hsp
  obtain ⟨dx, rL, oL, as, h1, h2, h3, h4⟩ := sea.ex
  have la : as.length = tbl.length := Paired.length h3
  have nd := scPo.nd
  have nd_ := sea.nd
  have hu := hu_of hr
  let g := says ns tbl q
  refine ⟨_, pss_cons (ps_set (i := 3) nd rfl (Or.inr rfl) pe_dnewK)
    (pss_cons (ps_for PassesOwn.never rfl (pi_seq (pv 1)) (pg_name (i := 4) nd rfl (Or.inl rfl))
      (pss_one (ps_expr (pe_bm PySem.F.plainAttrs_list PySem.F.slot_list_append PySem.F.type_list_append mt_append
        (pe_setd (pv 3) (pe_dget hu (pe_ix (r := rIxL K) ix_list (pe_fld (pv 0) rfl) (pv 4) (fun _ _ => rfl)) (pv 2) (fun _ _ => rfl)) (pe_lst pa_nil) ⟨rfl, rfl, rfl, rfl⟩) (pa_cons (pv 4) pa_nil)))))
    (pss_one (ps_ret (pe_lock (pe_dc (own := [("answer", 5)]) (tt := tYes) (g := gName 5) (tk := tVar 5) (tv := tCB (rTupOf K) (tCons (tDGet (tVar 3) (tVar 5)) tNil)) rfl nd (pi_keys (pv 3)) (blkOk_by (N := NPo) (sc := defScope sPartsOf) (by decide +kernel))
      (fun _ _ _ _ _ => pg_name (i := 5) nd rfl (Or.inl rfl)) (fun _ _ _ _ _ => pts_nil) (fun _ _ _ _ _ => pv 5)
      (fun _ _ _ _ _ => pe_callTy (r := rTupOf K) call_tuple_of rfl gT boot_tuple' (pa_cons (pe_dget hu (pv 3) (pv 5) (fun _ _ => rfl)) pa_nil))))))), ?_⟩
  intro D nD
  refine ⟨_, rfl, for_seq (.inr rfl) (fun i σ H' => Same H H' ∧ (∃ kvs, LotsAt H H' D g (part.take i) kvs) ∧ ∃ s4, σ = [some (.ref a), some (.ref pa), some (.str q), some (.ref D), s4, none]) ⟨same_new nD, ⟨[], upd_same, by simp [answersOf, onceZ], fun v hv => by simp [answersOf, onceZ] at hv⟩, _, rfl⟩ (fun i σ H' _ h => h.1 _ _ hpa) ?_ ?_⟩
  · rintro i y σ H2 ey ⟨s2, ⟨kvs, L⟩, s4, rfl⟩
    rw [List.getElem?_map] at ey
    obtain ⟨r, er, rfl⟩ := Option.map_eq_some_iff.mp ey
    have lt : i < part.length := (List.getElem?_eq_some_iff.mp er).1
    have rin : r < tbl.length := below r (List.mem_of_getElem? er)
    obtain ⟨t, et⟩ : ∃ t, as[r]? = some t := ⟨as[r]'(by omega), List.getElem?_eq_getElem _⟩
    obtain ⟨vs, ev, ot, lv⟩ := paired_get (h3.same s2) et
    have at0 : atI (as.map V.ref) ((r : Nat) : Int) = some (.ref t) := atI_nat (by rw [List.getElem?_map, et]; rfl)
    have eg : g r = av ns vs q := by
      show av ns (tbl.getD r []) q = _
      rw [List.getD_eq_getElem?_getD, ev]
      rfl
    have gv : DGet H2 t (.str q) (some (.int (g r))) := by
      have z := DGet.k (k := Sum.inr q) ot
      rw [dk_av nd_ lv qin, ← eg] at z
      exact z
    have lk : kvs.length < 1000 := by
      have z := congrArg List.length L.ks
      rw [List.length_map, List.length_map] at z
      have := ans_len g (part.take i)
      rw [List.length_take] at this
      omega
    have ep : part.take (i + 1) = part.take i ++ [r] := by rw [List.take_succ, er]; rfl
    refine ⟨.ref D, rfl, D, rfl, .inl ⟨kvs, .inl L.d⟩, ?_⟩
    refine ⟨_, rfl, a, C, dx, _, _, rfl, s2 _ _ h1, S.cl, S.nR, rfl, _, rfl, rL, _, _, _, rfl, rfl, SqL.of (s2 _ _ h2), at0, ?_⟩
    refine ⟨_, rfl, t, _, rfl, gv, ?_⟩
    refine ⟨(by show 0 ≤ sizeLine; omega), fun n nn => ?_⟩
    have sn := same_new (o := .lst []) nn
    have nD2 : n ≠ D := fun z => by rw [z, L.d] at nn; cases nn
    have stepA := ans_snoc g (part.take i) r
    rw [← ep] at stepA
    refine ⟨D, kvs, Sum.inl (g r), .ref n, rfl, rfl, sn _ _ L.d, by rw [sizeLine_eq]; omega, fun u hu2 => ?_, fun hn => ?_⟩
    · -- the answer has come before
      have old : g r ∈ answersOf g (part.take i) := by
        refine Classical.byContradiction fun z => ?_
        have : Sum.inl (g r) ∉ kvs.map (·.1) := by
          rw [L.ks]
          intro m
          obtain ⟨v, hv, e⟩ := List.mem_map.mp m
          exact z (by rw [← Sum.inl.inj e]; exact hv)
        rw [val_none_of this] at hu2
        cases hu2
      obtain ⟨l, el, ol, nl, lD⟩ := L.at_ _ old
      rw [el] at hu2
      obtain rfl : V.ref l = u := Option.some.inj hu2
      have ln : l ≠ n := ne_of_none ol nn
      refine ⟨.inl ⟨rfl, _, SqL.of (sn _ _ ol)⟩, _, rfl, l, _, _, rfl, rfl, sn _ _ ol, ?_, ?_, ⟨kvs, ?_, ?_, fun v hv => ?_⟩, _, rfl⟩
      · have z := List.length_filter_le (fun i => decide (g i = g r)) (part.take i)
        rw [List.length_map, sizeLine_eq]
        show (List.filter _ _).length < _
        rw [List.length_take] at z
        omega
      · exact fun b o e => by
          rw [upd_ne (ne_of_none e nl)]
          exact sn _ _ (s2 _ _ e)
      · rw [upd_ne lD.symm]; exact sn _ _ L.d
      · rw [L.ks, stepA, if_pos old]
      · rw [stepA, if_pos old] at hv
        by_cases hvr : v = g r
        · subst hvr
          refine ⟨l, el, ?_, nl, lD⟩
          rw [upd_same, ep, part_snoc, if_pos rfl, map_snoc]
        · obtain ⟨m, em, om, nm, mD⟩ := L.at_ v hv
          refine ⟨m, em, ?_, nm, mD⟩
          rw [upd_ne (lots_apart L hv old om ol hvr), ep, part_snoc, if_neg (fun z => hvr z.symm)]
          exact sn _ _ om
    · -- a new answer
      have new : g r ∉ answersOf g (part.take i) := by
        intro z
        obtain ⟨l, el, _⟩ := L.at_ _ z
        rw [hn] at el
        cases el
      have out : Sum.inl (g r) ∉ kvs.map (·.1) := by
        rw [L.ks]
        intro m
        obtain ⟨v, hv, e⟩ := List.mem_map.mp m
        exact new (by rw [← Sum.inl.inj e]; exact hv)
      have nH : H n = none := s2.free nn
      refine ⟨.inl ⟨rfl, [], SqL.of (by rw [upd_ne nD2, upd_same])⟩, _, rfl, n, [], _, rfl, rfl, by rw [upd_ne nD2, upd_same], by rw [sizeLine_eq]; simp, ?_, ⟨putK kvs (Sum.inl (g r)) (.ref n), ?_, ?_, fun v hv => ?_⟩, _, rfl⟩
      · exact fun b o e => by
          rw [upd_ne (ne_of_none e nH), upd_ne (ne_of_none e nD)]
          exact sn _ _ (s2 _ _ e)
      · rw [upd_ne nD2.symm, upd_same]
      · rw [put_last out, map_snoc, L.ks, stepA, if_neg new, map_snoc]
      · rw [stepA, if_neg new, List.mem_append] at hv
        by_cases hvr : v = g r
        · subst hvr
          refine ⟨n, by rw [valV_put, if_pos rfl], ?_, nH, nD2⟩
          rw [upd_same, ep, part_snoc, if_pos rfl, part_none new]
          rfl
        · have hv2 : v ∈ answersOf g (part.take i) := hv.elim id fun z => absurd (by simpa using z) hvr
          obtain ⟨m, em, om, nm, mD⟩ := L.at_ v hv2
          refine ⟨m, by rw [valV_put, if_neg (fun z => hvr (Sum.inl.inj z))]; exact em, ?_, nm, mD⟩
          rw [upd_ne (ne_of_none om nn), upd_ne mD, ep, part_snoc, if_neg (fun z => hvr z.symm)]
          exact sn _ _ om
  · rintro σ H2 ⟨s2, ⟨kvs, L⟩, s4, rfl⟩
    rw [List.length_map, List.take_length] at L
    have lk : kvs.length < 1000 := by
      have z := congrArg List.length L.ks
      rw [List.length_map, List.length_map] at z
      have := ans_len g part
      omega
    have ndA : (answersOf g part).Nodup := once_nd _
    have ndK : (kvs.map (·.1)).Nodup := by
      rw [L.ks]
      exact ndA.map _ fun a b n e => n (Sum.inl.inj e)
    refine ⟨D, _, L.d, trivial, fun od => ⟨_, rfl, D, od, rfl, .inl ⟨kvs, upd_same, ?_⟩⟩⟩
    have oL : upd H2 D (.frz od (.dK kvs)) D = some (.frz od (.dK kvs)) := upd_same
    refine dc_made (kvs.map (·.1)) (by rw [List.length_map]; omega) ndK (fun i H' s lt => ⟨s _ _ oL, by rw [List.length_map] at lt; exact lt⟩) (fun H' s => ⟨s _ _ oL, by rw [List.length_map]; exact Nat.le_refl _⟩)
      (fun i y H' => ∃ t v, y = V.ref t ∧ (answersOf g part)[i]? = some v ∧ H' t = some (.tup ((partOf g part v).map natV))) ?_ ?_ ?_
    · rintro i y H3 H4 d l ⟨t, v, rfl, e1, e2⟩ od2 keep
      exact ⟨t, v, rfl, e1, keep _ _ (ne_of e2 od2 (by intro z; cases z)) e2⟩
    · rintro i x k H3 H4 Cn Nn ek s3 ⟨rfl, k2, x2, ek2, rfl⟩ yes
      rw [List.getElem?_map, ek2] at ek
      obtain rfl : k2 = k := Option.some.inj ek
      have eA : ((answersOf g part).map Sum.inl)[i]? = some k2 := by
        rw [← L.ks, List.getElem?_map, ek2]
        rfl
      rw [List.getElem?_map] at eA
      obtain ⟨v, ev, rfl⟩ := Option.map_eq_some_iff.mp eA
      obtain ⟨t, et, ot, nt, tD⟩ := L.at_ v (List.mem_of_getElem? ev)
      refine ⟨rfl, ?_⟩
      refine ⟨_, rfl, _, rfl, _, rfl, D, _, rfl, .inl ⟨kvs, Sum.inl v, .inr ⟨od, s3 _ _ oL⟩, rfl, et.symm⟩, t, _, rfl, .inl ⟨SqL.of (s3 _ _ (by rw [upd_ne tD]; exact ot)), fun l nl => ?_⟩⟩
      exact yes _ _ ⟨l, v, rfl, ev, upd_same⟩ (same_new nl)
    · intro H3 d kvs2 nd2 od2 ek2 hR s3
      obtain ⟨b1, s02⟩ := lock_off L.d s3
      have dD : d ≠ D := fun z => by rw [z, upd_same] at nd2; cases nd2
      have nd3 : H2 d = none := by rw [upd_ne dD] at nd2; exact nd2
      have ek3 : kvs2.map (·.1) = (answersOf g part).map Sum.inl := ek2.trans L.ks
      refine ⟨b1, hq _ d (s2.trans s02) (s2.free nd3) ⟨kvs2, by rw [upd_ne dD]; exact od2, ek3, fun v hv => ?_⟩⟩
      obtain ⟨j, hj, ej⟩ := List.getElem_of_mem hv
      have ev : (answersOf g part)[j]? = some v := by rw [List.getElem?_eq_getElem hj, ej]
      have e1 : (kvs2.map (·.1))[j]? = some (Sum.inl v) := by rw [ek3, List.getElem?_map, ev]; rfl
      rw [List.getElem?_map] at e1
      obtain ⟨⟨k, y⟩, e2, e3⟩ := Option.map_eq_some_iff.mp e1
      obtain rfl : k = Sum.inl v := e3
      obtain ⟨t, v2, rfl, e4, e5⟩ := hR j _ _ e2
      rw [ev] at e4
      obtain rfl := Option.some.inj e4
      refine ⟨t, valV_at (by rw [ek2]; exact ndK) e2, ?_⟩
      rw [upd_ne (fun z => by rw [z, b1] at e5; cases e5)]
      exact e5
end
end L2.TB
/-! the best that can be done with a part of the rows -/
namespace L2.TB
open PySem PySem.Spec PyProof.Rows
variable {wa : Addr} {ws : Option (List Int)}
def maxZ : List Int → Int
  | [] => 0
  | a :: l => l.foldl (fun b c => if b < c then c else b) a
theorem maxZ_le : ∀ (l : List Int) (a : Int), a ≤ l.foldl (fun b c => if b < c then c else b) a ∧ (∀ y ∈ l, y ≤ l.foldl (fun b c => if b < c then c else b) a) ∧ (l.foldl (fun b c => if b < c then c else b) a = a ∨ l.foldl (fun b c => if b < c then c else b) a ∈ l)
  | [], a => ⟨Int.le_refl _, fun y h => by simp at h, .inl rfl⟩
  | c :: l, a => by
    rw [List.foldl_cons]
    obtain ⟨h1, h2, h3⟩ := maxZ_le l (if a < c then c else a)
    have st : a ≤ (if a < c then c else a) ∧ c ≤ (if a < c then c else a) := by split <;> omega
    refine ⟨Int.le_trans st.1 h1, fun y hy => ?_, ?_⟩
    · rcases List.mem_cons.mp hy with e | hy
      · rw [e]; exact Int.le_trans st.2 h1
      · exact h2 y hy
    · rcases h3 with h3 | h3
      · by_cases q : a < c
        · rw [if_pos q] at h3; right; rw [if_pos q, h3]; simp
        · rw [if_neg q] at h3; left; rw [if_neg q]; exact h3
      · right; exact List.mem_cons_of_mem _ h3
theorem maxZ_of {l : List Int} {m : Int} (hm : m ∈ l) (le : ∀ y ∈ l, y ≤ m) : maxZ l = m := by
  cases l with
  | nil => cases hm
  | cons a l =>
    obtain ⟨h1, h2, h3⟩ := maxZ_le l a
    have up : maxZ (a :: l) ≤ m := by
      rcases h3 with h | h
      · show List.foldl _ _ _ ≤ _
        rw [h]; exact le a (by simp)
      · exact le _ (List.mem_cons_of_mem _ h)
    have dn : m ≤ maxZ (a :: l) := by
      rcases List.mem_cons.mp hm with rfl | h
      · exact h1
      · exact h2 m h
    omega
/-- one more than the most, where all can be done -/
def costOf (ws : Option (List Int)) (part : List Nat) (cs : List (Option Int)) : Option Int := if none ∈ cs then none else match ws with
  | none => some (1 + maxZ (cs.filterMap id))
  | some l => some ((part.map fun i => l.getD i 0).sum + (cs.filterMap id).sum)
def better (best : Option Int × Option Str) (q : Str) : Option Int → Option Int × Option Str
  | none => best
  | some c => match best.1 with
    | none => (some c, some q)
    | some b => if c < b then (some c, some q) else best
def stepQ (ws : Option (List Int)) (c : List Nat → Option Int) (sy : Str → Nat → Int) (part : List Nat) (best : Option Int × Option Str) (q : Str) : Option Int × Option Str :=
  if 1 < (answersOf (sy q) part).length then better best q (costOf ws part ((answersOf (sy q) part).map fun v => c (partOf (sy q) part v))) else best
def bestN (ws : Option (List Int)) (sy : Str → Nat → Int) (x : Str) (of : List Str) : Nat → List Nat → Option Int × Option Str
  | 0, _ => (none, none)
  | n + 1, part => if (answersOf (sy x) part).length = 1 then (some 0, none) else of.foldl (stepQ ws (fun p => (bestN ws sy x of n p).1) sy part) (none, none)
def bestS (ws : Option (List Int)) (sy : Str → Nat → Int) (x : Str) (of : List Str) (part : List Nat) : Option Int × Option Str := bestN ws sy x of part.length part
theorem fold_same {α β : Type} {f g : α → β → α} : ∀ (l : List β) (a : α), (∀ a b, b ∈ l → f a b = g a b) → l.foldl f a = l.foldl g a
  | [], _, _ => rfl
  | b :: l, a, h => by
    rw [List.foldl_cons, List.foldl_cons, h a b (by simp)]
    exact fold_same l _ fun a b hb => h a b (List.mem_cons_of_mem _ hb)
theorem part_lt {f : Nat → Int} {part : List Nat} {v : Int} (h1 : 1 < (answersOf f part).length) (hv : v ∈ answersOf f part) : (partOf f part v).length < part.length := by
  obtain ⟨u, hu, ne⟩ : ∃ u ∈ answersOf f part, u ≠ v := by
    refine Classical.byContradiction fun z => ?_
    have all : ∀ u ∈ answersOf f part, u = v := fun u hu => Classical.byContradiction fun q => z ⟨u, hu, q⟩
    have nd : (answersOf f part).Nodup := once_nd _
    match q : answersOf f part, h1, nd, all with
    | [], h1, _, _ => simp at h1
    | [_], h1, _, _ => simp at h1
    | a :: b :: l, _, nd, all =>
      have e1 := all a (by simp)
      have e2 := all b (by simp)
      rw [List.nodup_cons] at nd
      exact nd.1 (by rw [e1, ← e2]; simp)
  have z := part_some hu
  obtain ⟨i, hi⟩ : ∃ i, i ∈ partOf f part u := by
    cases q : partOf f part u with
    | nil => exact absurd q z
    | cons i r => exact ⟨i, by simp⟩
  obtain ⟨ip, ei⟩ := List.mem_filter.mp hi
  have out : i ∉ partOf f part v := fun h => ne ((of_decide_eq_true ei).symm.trans (of_decide_eq_true (List.mem_filter.mp h).2))
  have le : (partOf f part v).length ≤ part.length := List.length_filter_le _ _
  rcases Nat.lt_or_eq_of_le le with h | h
  · exact h
  · exact absurd (by
      have e : partOf f part v = part := (List.filter_sublist (l := part) (p := fun i => decide (f i = v))).eq_of_length h
      rw [e]; exact ip) out
theorem bestN_nil (sy : Str → Nat → Int) (x : Str) (of : List Str) : ∀ n, bestN ws sy x of n [] = (none, none)
  | 0 => rfl
  | n + 1 => by
    have e : ∀ q, (answersOf (sy q) []).length = 0 := fun q => rfl
    have f : ∀ l : List Str, l.foldl (stepQ ws (fun p => (bestN ws sy x of n p).1) sy []) (none, none) = (none, none) := fun l => by
      induction l with
      | nil => rfl
      | cons q l ih =>
        rw [List.foldl_cons]
        have : stepQ ws (fun p => (bestN ws sy x of n p).1) sy [] (none, none) q = (none, none) := by
          unfold stepQ
          rw [if_neg (by rw [e q]; omega)]
        rw [this, ih]
    show (if (answersOf (sy x) []).length = 1 then _ else _) = _
    rw [if_neg (by rw [e x]; omega), f]
theorem step_same {c d : List Nat → Option Int} {sy : Str → Nat → Int} {part : List Nat} (h : ∀ p : List Nat, p.length < part.length → c p = d p) (b : Option Int × Option Str) (q : Str) : stepQ ws c sy part b q = stepQ ws d sy part b q := by
  unfold stepQ
  by_cases z : 1 < (answersOf (sy q) part).length
  · rw [if_pos z, if_pos z]
    congr 2
    exact List.map_congr_left fun v hv => h _ (part_lt z hv)
  · rw [if_neg z, if_neg z]
theorem bestN_eq (sy : Str → Nat → Int) (x : Str) (of : List Str) : ∀ (n m : Nat) (part : List Nat), part.length ≤ n → part.length ≤ m → bestN ws sy x of n part = bestN ws sy x of m part
  | 0, m, part, h, _ => by
    obtain rfl : part = [] := List.length_eq_zero_iff.mp (by omega)
    rw [bestN_nil, bestN_nil]
  | n + 1, 0, part, _, h => by
    obtain rfl : part = [] := List.length_eq_zero_iff.mp (by omega)
    rw [bestN_nil, bestN_nil]
  | n + 1, m + 1, part, h1, h2 => by
    show (if _ then _ else _) = (if _ then _ else _)
    by_cases z : (answersOf (sy x) part).length = 1
    · rw [if_pos z, if_pos z]
    · rw [if_neg z, if_neg z]
      exact fold_same _ _ fun b q _ => step_same (fun p hp => by rw [bestN_eq sy x of n m p (by omega) (by omega)]) b q
theorem bestS_eq (sy : Str → Nat → Int) (x : Str) (of : List Str) (part : List Nat) : bestS ws sy x of part = if (answersOf (sy x) part).length = 1 then (some 0, none) else of.foldl (stepQ ws (fun p => (bestS ws sy x of p).1) sy part) (none, none) := by
  have e : bestS ws sy x of part = bestN ws sy x of (part.length + 1) part := bestN_eq _ _ _ _ _ _ (Nat.le_refl _) (Nat.le_succ _)
  rw [e]
  show (if _ then _ else _) = _
  by_cases z : (answersOf (sy x) part).length = 1
  · rw [if_pos z, if_pos z]
  · rw [if_neg z, if_neg z]
    exact fold_same _ _ fun b q _ => step_same (fun p hp => by rw [bestN_eq sy x of part.length p.length p (by omega) (Nat.le_refl _)]; rfl) b q
/-! the parts of some rows: so many at most -/
def subsL : List Nat → List (List Nat)
  | [] => [[]]
  | a :: l => subsL l ++ (subsL l).map (a :: ·)
theorem subsL_mem : ∀ {l p : List Nat}, p.Sublist l → p ∈ subsL l := by
  intro l
  induction l with
  | nil => intro p h; rw [List.sublist_nil.mp h]; simp [subsL]
  | cons a l ih =>
    intro p h
    rw [subsL, List.mem_append]
    cases h with
    | cons _ h => exact .inl (ih h)
    | cons_cons _ h => exact .inr (List.mem_map.mpr ⟨_, ih h, rfl⟩)
theorem subsL_len : ∀ l : List Nat, (subsL l).length = 2 ^ l.length
  | [] => rfl
  | a :: l => by
    rw [subsL, List.length_append, List.length_map, subsL_len l, List.length_cons, Nat.pow_succ]
    omega
theorem nodup_le {α : Type} [DecidableEq α] : ∀ {l r : List α}, l.Nodup → (∀ x ∈ l, x ∈ r) → l.length ≤ r.length
  | [], _, _, _ => Nat.zero_le _
  | a :: l, r, nd, sub => by
    rw [List.nodup_cons] at nd
    have ih := nodup_le (l := l) (r := r.erase a) nd.2 fun x hx => (List.mem_erase_of_ne (fun z => nd.1 (by rw [← z]; exact hx))).mpr (sub x (List.mem_cons_of_mem _ hx))
    have e := List.length_erase_of_mem (sub a (by simp))
    have : 0 < r.length := List.length_pos_iff.mpr fun z => by have := sub a (by simp); rw [z] at this; cases this
    rw [List.length_cons]
    omega
end L2.TB
/-! what is known of the best; _cost_of -/
namespace L2.TB
open PySem PySem.Spec PyProof.Rows
variable {wa : Addr} {ws : Option (List Int)}
def optZ : Option Int → V
  | none => .non
  | some z => .int z
def optS : Option Str → V
  | none => .non
  | some z => .str z
def keyP (part : List Nat) : List Key := part.map fun i => (Sum.inl (Int.ofNat i) : Key)
theorem keyP_kV (part : List Nat) : (keyP part).map kV = part.map natV := by
  unfold keyP
  rw [List.map_map]
  rfl
theorem keyP_inj {p q : List Nat} (h : keyP p = keyP q) : p = q := by
  refine natV_inj ?_
  rw [← keyP_kV, ← keyP_kV, h]
/-- what is known of the best is right -/
structure Memo (ws : Option (List Int)) (H : Hp) (bs : Addr) (sy : Str → Nat → Int) (x : Str) (of : List Str) (m : Nat) (kvs : List (List Key × V)) : Prop where
  at_ : H bs = some (.dT kvs)
  nd : (kvs.map (·.1)).Nodup
  of_ : ∀ k v, (k, v) ∈ kvs → ∃ (p : List Nat) (t : Addr), k = keyP p ∧ p.Sublist (List.range m) ∧ v = .ref t ∧ H t = some (.tup [optZ (bestS ws sy x of p).1, optS (bestS ws sy x of p).2])
def MemoAt (ws : Option (List Int)) (H : Hp) (bs : Addr) (sy : Str → Nat → Int) (x : Str) (of : List Str) (m : Nat) : Prop := ∃ kvs, Memo ws H bs sy x of m kvs
section
variable {H H' : Hp} {bs d : Addr} {sy : Str → Nat → Int} {x : Str} {of : List Str} {m : Nat} {kvs : List (List Key × V)} {part : List Nat} {v : V}
theorem Memo.few (M : Memo ws H bs sy x of m kvs) (hm : m ≤ 10) : kvs.length ≤ 1024 := by
  have z := nodup_le (l := kvs.map (·.1)) (r := (subsL (List.range m)).map keyP) M.nd fun k hk => by
    obtain ⟨⟨k2, v2⟩, h, rfl⟩ := List.mem_map.mp hk
    obtain ⟨p, t, e, s, _⟩ := M.of_ _ _ h
    exact List.mem_map.mpr ⟨p, subsL_mem s, e.symm⟩
  rw [List.length_map, List.length_map, subsL_len, List.length_range] at z
  exact Nat.le_trans z (Nat.pow_le_pow_right (n := 2) (by omega) hm)
theorem MemoAt.isT (M : MemoAt ws H bs sy x of m) : IsT H bs := by
  obtain ⟨kvs, M⟩ := M
  exact ⟨kvs, M.at_⟩
/-- what stands elsewhere may grow, and change where it is neither a tuple nor this -/
theorem MemoAt.keep (M : MemoAt ws H bs sy x of m) (h : ∀ b o, H b = some o → (b = bs ∨ ∃ l, o = .tup l) → H' b = some o) : MemoAt ws H' bs sy x of m := by
  obtain ⟨kvs, M⟩ := M
  refine ⟨kvs, h _ _ M.at_ (.inl rfl), M.nd, fun k v hk => ?_⟩
  obtain ⟨p, t, e1, e2, e3, e4⟩ := M.of_ k v hk
  exact ⟨p, t, e1, e2, e3, h _ _ e4 (.inr ⟨_, rfl⟩)⟩
theorem MemoAt.same (M : MemoAt ws H bs sy x of m) (s : Same H H') : MemoAt ws H' bs sy x of m := M.keep fun b o e _ => s b o e
theorem MemoAt.lock (M : MemoAt ws H bs sy x of m) {o u : HO} (hd : H d = some o) (n1 : ∀ l, o ≠ .dT l) (n2 : ∀ l, o ≠ .tup l) : MemoAt ws (upd H d u) bs sy x of m := M.keep fun b q e h => by
  rw [upd_ne]
  · exact e
  · rintro rfl
    rw [hd] at e
    obtain rfl := Option.some.inj e
    rcases h with rfl | ⟨l, rfl⟩
    · obtain ⟨kvs, M⟩ := M
      rw [M.at_] at hd
      exact n1 _ (Option.some.inj hd).symm
    · exact n2 _ rfl
theorem mem_of_val {κ : Type} [DecidableEq κ] : ∀ {kvs : List (κ × V)} {k : κ} {v : V}, valV kvs k = some v → (k, v) ∈ kvs
  | [], _, _, h => by simp [valV] at h
  | (j, y) :: r, k, v, h => by
    by_cases e : j = k
    · subst e
      have : valV ((j, y) :: r) j = some y := valV_pos rfl
      rw [this] at h
      obtain rfl := Option.some.inj h
      simp
    · rw [valV_neg e] at h
      exact List.mem_cons_of_mem _ (mem_of_val h)
theorem val_none_not {κ : Type} [DecidableEq κ] : ∀ {kvs : List (κ × V)} {k : κ}, valV kvs k = none → k ∉ kvs.map (·.1)
  | [], _, _ => by simp
  | (j, y) :: r, k, h => by
    intro z
    by_cases e : j = k
    · subst e
      have : valV ((j, y) :: r) j = some y := valV_pos rfl
      rw [this] at h
      cases h
    · rw [valV_neg e] at h
      rcases List.mem_cons.mp z with z | z
      · exact e z.symm
      · exact val_none_not h z
theorem put_new {κ : Type} [DecidableEq κ] {acc : List (κ × V)} {k : κ} {v : V} (h : k ∉ acc.map (·.1)) : putK acc k v = acc ++ [(k, v)] := by
  have no : ¬ ((acc.any fun e => decide (e.1 = k)) = true) := fun q => by
    obtain ⟨e, he, ee⟩ := List.any_eq_true.mp q
    exact h (of_decide_eq_true ee ▸ List.mem_map_of_mem (f := (·.1)) he)
  unfold putK
  rw [if_neg no]
theorem Memo.got (M : Memo ws H bs sy x of m kvs) (h : valV kvs (keyP part) = some v) : ∃ t, v = .ref t ∧ H t = some (.tup [optZ (bestS ws sy x of part).1, optS (bestS ws sy x of part).2]) := by
  obtain ⟨p, t, e1, _, e3, e4⟩ := M.of_ _ _ (mem_of_val h)
  rw [keyP_inj e1]
  exact ⟨t, e3, e4⟩
theorem put_mem {κ : Type} [DecidableEq κ] {kvs : List (κ × V)} {k j : κ} {y z : V} (h : (j, z) ∈ putK kvs k y) : (j, z) ∈ kvs ∨ (j = k ∧ z = y) := by
  unfold putK at h
  split at h
  · obtain ⟨e, he, q⟩ := List.mem_map.mp h
    by_cases c : e.1 = k
    · rw [if_pos c] at q
      cases q
      exact .inr ⟨c, rfl⟩
    · rw [if_neg c] at q
      rw [← q]
      exact .inl he
  · rcases List.mem_append.mp h with h | h
    · exact .inl h
    · have q : (j, z) = (k, y) := by simpa using h
      cases q
      exact .inr ⟨rfl, rfl⟩
theorem put_nd {κ : Type} [DecidableEq κ] {kvs : List (κ × V)} {k : κ} {y : V} (nd : (kvs.map (·.1)).Nodup) : ((putK kvs k y).map (·.1)).Nodup := by
  cases q : valV kvs k with
  | none =>
    have out := val_none_not q
    rw [put_new out, map_snoc, List.nodup_append]
    exact ⟨nd, by simp, fun a ha b hb e => out (by have : b = k := by simpa using hb
                                                   rw [← this, ← e]; exact ha)⟩
  | some v =>
    have yes : (kvs.any fun kv => decide (kv.1 = k)) = true := List.any_eq_true.mpr ⟨_, mem_of_val q, decide_eq_true rfl⟩
    have e : (putK kvs k y).map (·.1) = kvs.map (·.1) := by
      unfold putK
      rw [if_pos yes, List.map_map]
      refine List.map_congr_left fun a _ => ?_
      show (if a.1 = k then (a.1, y) else a).1 = a.1
      split <;> rfl
    rw [e]
    exact nd
theorem Memo.same (M : Memo ws H bs sy x of m kvs) (s : Same H H') : Memo ws H' bs sy x of m kvs := ⟨s _ _ M.at_, M.nd, fun k v hk => by
  obtain ⟨p, t, e1, e2, e3, e4⟩ := M.of_ k v hk
  exact ⟨p, t, e1, e2, e3, s _ _ e4⟩⟩
/-- one more is known -/
theorem Memo.put (M : Memo ws H bs sy x of m kvs) (sub : part.Sublist (List.range m)) {t : Addr} (ht : H t = some (.tup [optZ (bestS ws sy x of part).1, optS (bestS ws sy x of part).2])) : Memo ws (upd H bs (.dT (putK kvs (keyP part) (.ref t)))) bs sy x of m (putK kvs (keyP part) (.ref t)) := by
  have nb : ∀ {t : Addr} {l : List V}, H t = some (.tup l) → t ≠ bs := fun e z => by rw [z, M.at_] at e; cases e
  refine ⟨upd_same, put_nd M.nd, fun k v hk => ?_⟩
  rcases put_mem hk with hk | ⟨rfl, rfl⟩
  · obtain ⟨p, s, e1, e2, e3, e4⟩ := M.of_ k v hk
    exact ⟨p, s, e1, e2, e3, by rw [upd_ne (nb e4)]; exact e4⟩
  · exact ⟨part, t, rfl, sub, rfl, by rw [upd_ne (nb ht)]; exact ht⟩
end
abbrev NCo : List Str := ["self", "part", "costs", "index"]
theorem scCo : FnScope NCo ["self", "part", "costs"] (defScope sCostOf) := ⟨rfl, rfl, rfl, by decide +kernel, rfl, by decide +kernel, by decide +kernel⟩
def spCostOf (wa : Addr) (ws : Option (List Int)) (C : Addr) : Sp := fun vs H Q _ => ∃ (a c bs pa : Addr) (ns : List Str) (tbl : List (List Int)) (x : Str) (of : List Str) (part : List Nat) (cs : List (Option Int)), vs = [.ref a, .ref pa, .ref c] ∧ SeaAt wa ws H C a ns tbl x of bs ∧ PartAt H pa tbl.length part ∧ H c = some (.lst (cs.map optZ)) ∧ 0 < cs.length ∧ ∀ H', Same H H' → Q (optZ (costOf ws part cs)) H'
section
variable {P : Program} {w : World} {K : PySem.W.Frag} {mg : Str → Option Value} {base : Heap} {f C : Addr} {fd : FuncData}
theorem boot_sumC : bootBuiltins "sum" = some (.builtin "sum") := by decide +kernel
theorem all_some : ∀ {cs : List (Option Int)}, none ∉ cs → cs.map optZ = (cs.filterMap id).map V.int
  | [], _ => rfl
  | none :: cs, h => absurd (by simp) h
  | some z :: cs, h => by
    show V.int z :: cs.map optZ = V.int z :: (cs.filterMap id).map V.int
    rw [all_some fun q => h (List.mem_cons_of_mem _ q)]
theorem inV_none : ∀ cs : List (Option Int), inV .non (cs.map optZ) = decide (none ∈ cs)
  | [] => rfl
  | none :: cs => by
    rw [decide_eq_true (by simp)]
    rfl
  | some z :: cs => by
    show (eqV .non (.int z) || inV .non (cs.map optZ)) = _
    rw [inV_none cs]
    by_cases h : none ∈ cs
    · rw [decide_eq_true h, decide_eq_true (List.mem_cons_of_mem _ h)]; rfl
    · rw [decide_eq_false h, decide_eq_false (by simpa using h)]; rfl
theorem flat_opt : ∀ cs : List (Option Int), (cs.map optZ).all flatV = true
  | [] => rfl
  | none :: cs => flat_opt cs
  | some _ :: cs => flat_opt cs
theorem ok_costOf (F : Fun K "_cost_of" "Search._cost_of" sCostOf f fd) (S : SeaC K C) (gM : mg "max" = none) (gS : mg "sum" = none) : FnOk P w K mg base CX0 1 f fd ["self", "part", "costs"] (spCostOf wa ws C) := by
  refine F.ok scCo (fun vs H Q E h => by obtain ⟨a, c, bs, pa, ns, tbl, x, of, part, cs, e, _⟩ := h; rw [e]; rfl) fun cdv A outer s H vs Q E hr hsp => ?_
  obtain ⟨a, c, bs, pa, ns, tbl, x, of, part, cs, rfl, sea, ⟨hpa, shp, below⟩, hc, pos, hq⟩ := hsp
  obtain ⟨dx, rL, oL, as, h1, h2, h3, h4⟩ := sea.ex
  have nd := scCo.nd
  refine ⟨_, pss_cons (ps_if (pt_cmpR op_in_seq pe_non (pv 2) rfl) (pss_one (ps_ret pe_non)) pss_nil)
    (pss_cons (ps_if (pt_cmp (pc_isN (pe_fld (pv 0) rfl))) (pss_one (ps_ret (pe_op op_add pe_int (pe_callB (r := rMax K) (cr_max rfl) rfl gM boot_max (pa_cons (pv 2) pa_nil))))) pss_nil)
    (pss_one (ps_ret (pe_op op_add (pe_callB (r := rSum K) (cr_sum rfl) rfl gS boot_sumC (pa_cons (pe_lc (own := [("index", 3)]) (g := gName 3) (tt := tYes) (te := tOp (rIxL K) (tFld K (tVar 0) "_weights") (tVar 3)) rfl nd (pi_seq (pv 1)) (blkOk_by (N := NCo) (sc := defScope sCostOf) (by decide +kernel)) (fun _ _ _ _ _ => pg_name (i := 3) nd rfl (Or.inl rfl)) (fun _ _ _ _ _ => pts_nil) (fun _ _ _ _ _ => pe_ix (r := rIxL K) ix_list (pe_fld (pv 0) rfl) (pv 3) (fun _ _ => rfl))) pa_nil))
      (pe_callB (r := rSum K) (cr_sum rfl) rfl gS boot_sumC (pa_cons (pv 2) pa_nil)))))), ?_⟩
  have ndn := inV_none cs
  refine ⟨_, rfl, c, _, rfl, .inl (SqL.of hc), rfl, flat_opt cs, _, rfl, ?_⟩
  rw [if_neg Bool.false_ne_true, ndn]
  by_cases h : none ∈ cs
  · rw [decide_eq_true h]
    refine iteT ?_
    have e : costOf ws part cs = none := by unfold costOf; rw [if_pos h]
    rw [e] at hq
    exact hq _ (Same.refl _)
  · rw [decide_eq_false h]
    refine iteF ?_
    have ea := all_some h
    rw [ea] at hc
    have ln : (cs.filterMap id).length = cs.length := by
      have z := congrArg List.length ea
      rw [List.length_map, List.length_map] at z
      exact z.symm
    refine ⟨_, rfl, a, C, dx, _, _, rfl, h1, S.cl, S.nW, rfl, _, rfl, ?_⟩
    cases ws with
    | none =>
      have e : costOf none part cs = some (1 + maxZ (cs.filterMap id)) := by unfold costOf; rw [if_neg h]
      rw [e] at hq
      refine iteT ?_
      refine ⟨_, rfl, c, _, rfl, SqL.of hc, by omega, fun m hm le => ?_⟩
      refine ⟨1, m, rfl, rfl, ?_⟩
      have z := hq _ (Same.refl _)
      rw [maxZ_of hm le] at z
      exact z
    | some l =>
      have e : costOf (some l) part cs = some ((part.map fun i => l.getD i 0).sum + (cs.filterMap id).sum) := by unfold costOf; rw [if_neg h]
      rw [e] at hq
      obtain ⟨ow, lw⟩ := sea.wok l rfl
      refine iteF ?_
      refine ⟨_, rfl, pa, _, rfl, .inr ⟨SqT.of hpa, fun D nD => lc_it walk_tup (fun j H' => H' D = some (.lst ((part.take j).map fun i => V.int (l.getD i 0))) ∧ Same H H') ⟨upd_same, same_new nD⟩ (fun j H' _ g => SqT.of (g.2 _ _ hpa)) ?_ ?_⟩⟩
      · rintro j y H4 H5 lj ⟨oD, k4⟩ ⟨rfl, ey⟩
        rw [List.getElem?_map] at ey
        obtain ⟨i, ei, rfl⟩ := Option.map_eq_some_iff.mp ey
        have hi := below i (List.mem_of_getElem? ei)
        refine ⟨rfl, ?_⟩
        have ew : atI (l.map V.int) ((i : Nat) : Int) = some (.int (l.getD i 0)) := atI_nat (by
          rw [List.getElem?_map, List.getD_eq_getElem?_getD, List.getElem?_eq_getElem (show i < l.length by omega)]
          rfl)
        refine ⟨_, rfl, a, C, dx, _, _, rfl, k4 _ _ h1, S.cl, S.nW, rfl, _, rfl, wa, _, _, _, rfl, rfl, SqL.of (k4 _ _ ow), ew, _, oD, ?_, ?_, ?_⟩
        · rw [List.length_map, List.length_take, sizeLine_eq]; omega
        · rw [upd_same, List.take_succ, ei, List.map_append]
          rfl
        · exact fun b o e => by
            rw [upd_ne (ne_of_none e nD)]
            exact k4 _ _ e
      · rintro H6 ⟨oD, k6⟩
        rw [List.length_map, List.take_length] at oD
        refine ⟨D, part.map fun i => l.getD i 0, rfl, SqL.of (by rw [List.map_map]; exact oD), ?_⟩
        refine ⟨_, rfl, c, _, rfl, SqL.of (k6 _ _ hc), _, _, rfl, rfl, hq _ k6⟩
end
end L2.TB
/-! _best_question, where the cost of lesser parts is known -/
namespace L2.TB
open PySem PySem.Spec PyProof.Rows
variable {wa : Addr} {ws : Option (List Int)}
def spCost (wa : Addr) (ws : Option (List Int)) (C : Addr) (n : Nat) : Sp := fun vs H Q _ => ∃ (a pa bs : Addr) (ns : List Str) (tbl : List (List Int)) (x : Str) (of : List Str) (part : List Nat), vs = [.ref a, .ref pa] ∧ SeaAt wa ws H C a ns tbl x of bs ∧ MemoAt ws H bs (says ns tbl) x of tbl.length ∧ H pa = some (.tup (part.map natV)) ∧ part.Sublist (List.range tbl.length) ∧ 0 < part.length ∧ part.length ≤ n ∧ tbl.length ≤ 10 ∧
  ∀ H', ButB bs H H' → MemoAt ws H' bs (says ns tbl) x of tbl.length → Q (optZ (bestS ws (says ns tbl) x of part).1) H'
def foldQ (ws : Option (List Int)) (sy : Str → Nat → Int) (x : Str) (of : List Str) (part : List Nat) (l : List Str) : Option Int × Option Str := l.foldl (stepQ ws (fun p => (bestS ws sy x of p).1) sy part) (none, none)
def spBestQ (wa : Addr) (ws : Option (List Int)) (C : Addr) (n : Nat) : Sp := fun vs H Q _ => ∃ (a pa bs : Addr) (ns : List Str) (tbl : List (List Int)) (x : Str) (of : List Str) (part : List Nat), vs = [.ref a, .ref pa] ∧ SeaAt wa ws H C a ns tbl x of bs ∧ MemoAt ws H bs (says ns tbl) x of tbl.length ∧ H pa = some (.tup (part.map natV)) ∧ part.Sublist (List.range tbl.length) ∧ part.length ≤ n + 1 ∧ tbl.length ≤ 10 ∧
  ∀ H' t, ButB bs H H' → MemoAt ws H' bs (says ns tbl) x of tbl.length → H' t = some (.tup [optZ (foldQ ws (says ns tbl) x of part of).1, optS (foldQ ws (says ns tbl) x of part of).2]) → Q (.ref t) H'
abbrev NBq : List Str := ["self", "part", "best", "question", "parts", "cost", "answer"]
theorem scBq : FnScope NBq ["self", "part"] (defScope sBestQ) := ⟨rfl, rfl, rfl, by decide +kernel, rfl, by decide +kernel, by decide +kernel⟩
theorem fold_snoc (sy : Str → Nat → Int) (x : Str) (of : List Str) (part : List Nat) (l : List Str) (q : Str) : foldQ ws sy x of part (l ++ [q]) = stepQ ws (fun p => (bestS ws sy x of p).1) sy part (foldQ ws sy x of part l) q := by
  unfold foldQ
  rw [List.foldl_append]
  rfl
theorem range_below {part : List Nat} {m : Nat} (h : part.Sublist (List.range m)) : part.length ≤ m ∧ ∀ i ∈ part, i < m := by
  refine ⟨?_, fun i hi => List.mem_range.mp (h.subset hi)⟩
  have z := h.length_le
  rw [List.length_range] at z
  exact z
section
variable {P : Program} {w : World} {K : PySem.W.Frag} {mg : Str → Option Value} {base : Heap} {f C fP fO fC : Addr} {fd fdP fdO fdC : FuncData} {n k : Nat}
theorem ok_bestQ (F : Fun K "_best_question" "Search._best_question" sBestQ f fd) (S : SeaC K C) (FP : Fun K "parts_of" "Search.parts_of" sPartsOf fP fdP) (mP : Meth K C "parts_of" fP) (GP : FnOk P w K mg base CX0 1 fP fdP ["self", "part", "question"] (spPartsOf wa ws C))
    (FO : Fun K "_cost_of" "Search._cost_of" sCostOf fO fdO) (mO : Meth K C "_cost_of" fO) (GO : FnOk P w K mg base CX0 1 fO fdO ["self", "part", "costs"] (spCostOf wa ws C)) (FC : Fun K "cost" "Search.cost" sCost fC fdC) (mC : Meth K C "cost" fC) (hk : 1 ≤ k) (GC : FnOk P w K mg base CX0 k fC fdC ["self", "part"] (spCost wa ws C n)) (gN : mg "len" = none) :
    FnOk P w K mg base CX0 (k + 1) f fd ["self", "part"] (spBestQ wa ws C n) := by
  have bP := FP.binds (ps := ["self", "part", "question"]) fun _ _ _ _ _ _ us hl => match us, hl with | [_, _, _], _ => rfl
  have bO := FO.binds (ps := ["self", "part", "costs"]) fun _ _ _ _ _ _ us hl => match us, hl with | [_, _, _], _ => rfl
  have bC := FC.binds (ps := ["self", "part"]) fun _ _ _ _ _ _ us hl => match us, hl with | [_, _], _ => rfl
  refine F.ok scBq (fun vs H Q E h => by obtain ⟨a, pa, bs, ns, tbl, x, of, part, e, _⟩ := h; rw [e]; rfl) fun cdv A outer s H vs Q E hr hsp => ?_
  obtain ⟨a, pa, bs, ns, tbl, x, of, part, rfl, sea, memo, hpa, sub, lp, few, hq⟩ := hsp
  obtain ⟨dx, rL, oL, as, h1, h2, h3, h4⟩ := sea.ex
  obtain ⟨lm, below⟩ := range_below sub
  have nd := scBq.nd
  have hu := hu_of (hr.mono hk)
  refine ⟨_, pss_cons (ps_set (i := 2) nd rfl (Or.inl rfl) (pe_tup (pa_cons pe_non (pa_cons pe_non pa_nil))))
    (pss_cons (ps_for PassesOwn.never rfl (pi_seq (pe_fld (pv 0) rfl)) (pg_name (i := 3) nd rfl (Or.inl rfl))
      (pss_cons (ps_set (i := 4) nd rfl (Or.inr rfl) (pe_meth (pv 0) S.cl mP GP (hr.mono hk) bP .nil pass0 (pa_cons (pv 1) (pa_cons (pv 3) pa_nil))))
      (pss_one (ps_if (pt_cmp (pc_gt (pe_callB call_lenD rfl gN boot_len (pa_cons (pv 4) pa_nil)) pe_int))
        (pss_cons (ps_set (i := 5) nd rfl (Or.inl rfl) (pe_meth (pv 0) S.cl mO GO (hr.mono hk) bO .nil pass0 (pa_cons (pv 1) (pa_cons (pe_lock (pe_lc (own := [("answer", 6)]) (tt := tYes) (g := gName 6) rfl nd (pi_keys (pv 4)) (blkOk_by (N := NBq) (sc := defScope sBestQ) (by decide +kernel))
            (fun _ _ _ _ _ => pg_name (i := 6) nd rfl (Or.inl rfl)) (fun _ _ _ _ _ => pts_nil) (fun _ _ _ _ _ => pe_meth (pv 0) S.cl mC GC hr bC .nil pass0 (pa_cons (pe_dget hu (pv 4) (pv 6) (fun _ _ => rfl)) pa_nil)))) pa_nil))))
        (pss_one (ps_if (pw_and (pt_cmp (pc_notN (pv 5))) (pw_and1 (pw_or (pt_cmp (pc_isN (pe_ix (r := rIxT K) ix_tup (pv 2) pe_int (fun _ _ => rfl)))) (pw_or1 (pt_cmp (pc_lt (pv 5) (pe_ix (r := rIxT K) ix_tup (pv 2) pe_int (fun _ _ => rfl)))))).pt)).pt
          (pss_one (ps_set (i := 2) nd rfl (Or.inl rfl) (pe_tup (pa_cons (pv 5) (pa_cons (pv 3) pa_nil))))) pss_nil)))
        pss_nil))))
    (pss_one (ps_ret (pv 2)))), ?_⟩
  have isT := memo.isT
  have nB : ∀ {b : Addr} {o : HO}, (∀ l, o ≠ .dT l) → H b = some o → b ≠ bs := fun no e z => by
    obtain ⟨kvs, et⟩ := isT
    rw [z, et] at e
    exact no _ (Option.some.inj e).symm
  have naB := nB (fun _ z => by cases z) h1
  have npB := nB (fun _ z => by cases z) hpa
  have noB := nB (fun _ z => by cases z) h4
  refine ⟨(by show 2 ≤ sizeLine; decide), fun t0 nt0 => ?_⟩
  have sd := same_new (o := .tup [.non, .non]) nt0
  refine ⟨_, rfl, a, C, dx, _, _, rfl, sd _ _ h1, S.cl, S.nO, rfl, for_seq (.inl rfl) (fun i σ H' => H' oL = some (.lst (of.map V.str)) ∧ ButB bs H H' ∧ MemoAt ws H' bs (says ns tbl) x of tbl.length ∧ ∃ bt s3 s4 s5, σ = [some (.ref a), some (.ref pa), some (.ref bt), s3, s4, s5, none] ∧ H' bt = some (.tup [optZ (foldQ ws (says ns tbl) x of part (of.take i)).1, optS (foldQ ws (says ns tbl) x of part (of.take i)).2]))
    ⟨sd _ _ h4, .of sd, memo.same sd, t0, _, _, _, rfl, upd_same⟩ (fun i σ H' _ h => h.1) ?_ ?_⟩
  · rintro i y σ H2 ey ⟨oO, B2, M2, bt, s3, s4, s5, rfl, ob⟩
    rw [List.getElem?_map] at ey
    obtain ⟨q, eq_, rfl⟩ := Option.map_eq_some_iff.mp ey
    have qin : q ∈ ns := sea.sub q (List.mem_of_getElem? eq_)
    have sea2 := sea.but isT B2
    have ha2 := B2 _ _ naB h1
    have ep : of.take (i + 1) = of.take i ++ [q] := by rw [List.take_succ, eq_]; rfl
    have fs := fold_snoc (ws := ws) (says ns tbl) x of part (of.take i) q
    rw [← ep] at fs
    refine ⟨_, rfl, a, dx, _, rfl, ha2, rfl, _, rfl, _, rfl, a, pa, bs, ns, tbl, x, q, of, part, rfl, sea2, ⟨B2 _ _ npB hpa, by omega, below⟩, qin, fun H3 d k3 nd3 P3 => ?_⟩
    obtain ⟨kvs, od, ek, ev⟩ := P3
    have lk : kvs.length = (answersOf (says ns tbl q) part).length := by
      have z := congrArg List.length ek
      rw [List.length_map, List.length_map] at z
      exact z
    have M3 := M2.same k3
    have B3 := B2.trans (.of k3)
    have la3 := ans_len (says ns tbl q) part
    refine ⟨_, rfl, d, kvs, rfl, od, _, _, rfl, rfl, ?_⟩
    by_cases big : 1 < (answersOf (says ns tbl q) part).length
    · refine ⟨true, congrArg V.bl (decide_eq_true (by show (1 : Int) < ((kvs.length : Nat) : Int); omega)), iteT ?_⟩
      have isT3 := M3.isT
      have n3 : ∀ {b : Addr} {o : HO}, (∀ l, o ≠ .dT l) → H3 b = some o → b ≠ bs := fun no e z => by
        obtain ⟨l, et⟩ := isT3
        rw [z, et] at e
        exact no _ (Option.some.inj e).symm
      have dB := n3 (fun _ z => by cases z) od
      refine ⟨_, rfl, a, dx, _, rfl, B3 _ _ naB h1, rfl, _, rfl, d, _, od, trivial, fun odj => ⟨_, rfl, d, odj, rfl, .inl ⟨kvs, upd_same, fun D nD => ?_⟩⟩⟩
      have memoL : MemoAt ws (upd H3 d (.frz odj (.dK kvs))) bs (says ns tbl) x of tbl.length := M3.lock od (fun _ z => by cases z) (fun _ z => by cases z)
      have B0L : ButB bs H2 (upd H3 d (.frz odj (.dK kvs))) := fun b o nb e => by rw [upd_ne (ne_of_none e nd3)]; exact k3 _ _ e
      have oLd : upd H3 d (.frz odj (.dK kvs)) d = some (.frz odj (.dK kvs)) := upd_same
      refine lc_it walk_keys (fun j H' => H' D = some (.lst (((answersOf (says ns tbl q) part).take j).map fun v => optZ (bestS ws (says ns tbl) x of (partOf (says ns tbl q) part v)).1)) ∧ ButB bs (upd H3 d (.frz odj (.dK kvs))) H' ∧ MemoAt ws H' bs (says ns tbl) x of tbl.length)
        ⟨upd_same, .of (same_new nD), memoL.same (same_new nD)⟩ (fun j H' _ h => h.2.1 _ _ dB oLd) ?_ ?_
      · rintro j y H4 H5 lj ⟨oD, B4, M4⟩ ⟨rfl, k0, v0, ekv, rfl⟩
        have eA : ((answersOf (says ns tbl q) part).map Sum.inl)[j]? = some k0 := by
          rw [← ek, List.getElem?_map, ekv]
          rfl
        rw [List.getElem?_map] at eA
        obtain ⟨v, evj, rfl⟩ := Option.map_eq_some_iff.mp eA
        have vin := List.mem_of_getElem? evj
        obtain ⟨t, et, ot⟩ := ev v vin
        have tB := n3 (fun _ z => by cases z) ot
        have td : t ≠ d := fun z => by rw [z, od] at ot; cases ot
        have ot4 := B4 _ _ tB (by rw [upd_ne td]; exact ot)
        have B24 := B0L.trans B4
        have ltp := part_lt big vin
        refine ⟨rfl, ?_⟩
        refine ⟨_, rfl, a, dx, _, rfl, B24 _ _ naB ha2, rfl, _, rfl, _, rfl, d, _, rfl, .inl ⟨kvs, Sum.inl v, .inr ⟨odj, B4 _ _ dB oLd⟩, rfl, et.symm⟩, ?_⟩
        refine ⟨a, t, bs, ns, tbl, x, of, partOf (says ns tbl q) part v, rfl, sea2.but M2.isT B24, M4, ot4, (List.filter_sublist).trans sub, List.length_pos_iff.mpr (part_some vin), by omega, few, fun H6 B6 M6 => ?_⟩
        have nDb : D ≠ bs := fun z => by
          obtain ⟨l, et⟩ := memoL.isT
          rw [z, et] at nD
          cases nD
        have oD6 := B6 _ _ nDb oD
        refine ⟨_, oD6, ?_, ?_, ?_, ?_⟩
        · rw [List.length_map, List.length_take, sizeLine_eq]; omega
        · rw [upd_same, List.take_succ, evj, List.map_append]
          rfl
        · exact fun b o nb e => by
            rw [upd_ne (ne_of_none e nD)]
            exact B6 _ _ nb (B4 _ _ nb e)
        · exact M6.lock oD6 (fun _ z => by cases z) (fun _ z => by cases z)
      · rintro H6 ⟨oD, B6, M6⟩
        rw [lk, List.take_length] at oD
        have od6 := B6 _ _ dB oLd
        have M7 : MemoAt ws (upd H6 d (.dK kvs)) bs (says ns tbl) x of tbl.length := M6.lock od6 (fun _ z => by cases z) (fun _ z => by cases z)
        have B37 : ButB bs H3 (upd H6 d (.dK kvs)) := fun b o nb e => by
          by_cases hb : b = d
          · rw [hb] at e ⊢
            rw [upd_same, ← od, e]
          · rw [upd_ne hb]
            exact B6 _ _ nb (by rw [upd_ne hb]; exact e)
        have B7 := B3.trans B37
        have Dd : D ≠ d := fun z => by rw [z, upd_same] at nD; cases nD
        have ob7 : upd H6 d (.dK kvs) bt = _ := (ButB.trans (.of k3) B37) _ _ (fun z => by obtain ⟨l, et⟩ := M2.isT; rw [z, et] at ob; cases ob) ob
        have oO7 := (ButB.trans (.of k3) B37) _ _ noB oO
        have oD7 : upd H6 d (.dK kvs) D = some (.lst (((answersOf (says ns tbl q) part).map fun v => (bestS ws (says ns tbl) x of (partOf (says ns tbl q) part v)).1).map optZ)) := by
          rw [upd_ne Dd, oD, List.map_map]
          rfl
        refine ⟨od6, ?_⟩
        have pos : 0 < ((answersOf (says ns tbl q) part).map fun v => (bestS ws (says ns tbl) x of (partOf (says ns tbl q) part v)).1).length := by rw [List.length_map]; omega
        refine ⟨a, D, bs, pa, ns, tbl, x, of, part, _, rfl, sea.but isT B7, ⟨B7 _ _ npB hpa, by omega, below⟩, oD7, pos, fun H8 k8 => ?_⟩
        replace oO7 := k8 _ _ oO7
        replace B7 := B7.trans (.of k8)
        replace M7 := M7.same k8
        replace ob7 := k8 _ _ ob7
        have st : foldQ ws (says ns tbl) x of part (of.take (i + 1)) = better (foldQ ws (says ns tbl) x of part (of.take i)) q (costOf ws part ((answersOf (says ns tbl q) part).map fun v => (bestS ws (says ns tbl) x of (partOf (says ns tbl q) part v)).1)) := by
          rw [fs]
          unfold stepQ
          rw [if_pos big]
        rw [st]
        generalize costOf ws part ((answersOf (says ns tbl q) part).map fun v => (bestS ws (says ns tbl) x of (partOf (says ns tbl q) part v)).1) = c
        generalize foldQ ws (says ns tbl) x of part (of.take i) = b at ob7
        obtain ⟨b1, b2⟩ := b
        cases c with
        | none => exact ⟨_, rfl, _, rfl, iteF (iteF ⟨oO7, B7, M7, bt, _, _, _, rfl, ob7⟩)⟩
        | some z =>
          refine ⟨_, rfl, _, rfl, iteT ?_⟩
          cases b1 with
          | none =>
            refine ⟨_, rfl, bt, _, 0, _, rfl, rfl, SqT.of ob7, rfl, _, rfl, iteT (iteT ?_)⟩
            refine ⟨_, rfl, _, rfl, (by show 2 ≤ sizeLine; decide), fun t2 nt2 => ?_⟩
            have sd2 := same_new (o := .tup [.int z, .str q]) nt2
            exact ⟨sd2 _ _ oO7, B7.trans (.of sd2), M7.same sd2, t2, _, _, _, rfl, upd_same⟩
          | some y =>
            refine ⟨_, rfl, bt, _, 0, _, rfl, rfl, SqT.of ob7, rfl, _, rfl, iteF ?_⟩
            refine ⟨_, rfl, _, rfl, bt, _, 0, _, rfl, rfl, SqT.of ob7, rfl, _, _, rfl, rfl, ?_⟩
            by_cases lt : z < y
            · refine ⟨true, congrArg V.bl (decide_eq_true lt), iteT ?_⟩
              have eb : better (some y, b2) q (some z) = (some z, some q) := by
                show (if z < y then _ else _) = _
                rw [if_pos lt]
              rw [eb]
              refine ⟨_, rfl, _, rfl, (by show 2 ≤ sizeLine; decide), fun t2 nt2 => ?_⟩
              have sd2 := same_new (o := .tup [.int z, .str q]) nt2
              exact ⟨sd2 _ _ oO7, B7.trans (.of sd2), M7.same sd2, t2, _, _, _, rfl, upd_same⟩
            · have eb : better (some y, b2) q (some z) = (some y, b2) := by
                show (if z < y then _ else _) = _
                rw [if_neg lt]
              rw [eb]
              exact ⟨false, congrArg V.bl (decide_eq_false lt), iteF ⟨oO7, B7, M7, bt, _, _, _, rfl, ob7⟩⟩
    · have st : foldQ ws (says ns tbl) x of part (of.take (i + 1)) = foldQ ws (says ns tbl) x of part (of.take i) := by
        rw [fs]
        unfold stepQ
        rw [if_neg big]
      rw [st]
      exact ⟨false, congrArg V.bl (decide_eq_false (by show ¬ (1 : Int) < ((kvs.length : Nat) : Int); omega)), iteF ⟨k3 _ _ oO, B3, M3, bt, _, _, _, rfl, k3 _ _ ob⟩⟩
  · rintro σ H2 ⟨oO, B2, M2, bt, s3, s4, s5, rfl, ob⟩
    rw [List.length_map, List.take_length] at ob
    exact ⟨_, rfl, hq H2 bt B2 M2 ob⟩
end
end L2.TB
/-! _best, cost, by the size of the part -/
namespace L2.TB
open PySem PySem.Spec PyProof.Rows
variable {wa : Addr} {ws : Option (List Int)}
def spBest (wa : Addr) (ws : Option (List Int)) (C : Addr) (n : Nat) : Sp := fun vs H Q _ => ∃ (a pa bs : Addr) (ns : List Str) (tbl : List (List Int)) (x : Str) (of : List Str) (part : List Nat), vs = [.ref a, .ref pa] ∧ SeaAt wa ws H C a ns tbl x of bs ∧ MemoAt ws H bs (says ns tbl) x of tbl.length ∧ H pa = some (.tup (part.map natV)) ∧ part.Sublist (List.range tbl.length) ∧ 0 < part.length ∧ part.length ≤ n ∧ tbl.length ≤ 10 ∧
  ∀ H' t, ButB bs H H' → MemoAt ws H' bs (says ns tbl) x of tbl.length → H' t = some (.tup [optZ (bestS ws (says ns tbl) x of part).1, optS (bestS ws (says ns tbl) x of part).2]) → Q (.ref t) H'
theorem scBe : FnScope ["self", "part"] ["self", "part"] (defScope sBest) := ⟨rfl, rfl, rfl, by decide +kernel, rfl, by decide +kernel, by decide +kernel⟩
theorem scCt : FnScope ["self", "part"] ["self", "part"] (defScope sCost) := ⟨rfl, rfl, rfl, by decide +kernel, rfl, by decide +kernel, by decide +kernel⟩
section
variable {P : Program} {w : World} {K : PySem.W.Frag} {mg : Str → Option Value} {base : Heap} {f C fP fQ fB : Addr} {fd fdP fdQ fdB : FuncData} {n k : Nat}
theorem ok_best (F : Fun K "_best" "Search._best" sBest f fd) (S : SeaC K C) (FP : Fun K "parts_of" "Search.parts_of" sPartsOf fP fdP) (mP : Meth K C "parts_of" fP) (GP : FnOk P w K mg base CX0 1 fP fdP ["self", "part", "question"] (spPartsOf wa ws C))
    (FQ : Fun K "_best_question" "Search._best_question" sBestQ fQ fdQ) (mQ : Meth K C "_best_question" fQ) (GQ : FnOk P w K mg base CX0 (k + 1) fQ fdQ ["self", "part"] (spBestQ wa ws C n)) (gN : mg "len" = none) :
    FnOk P w K mg base CX0 (k + 2) f fd ["self", "part"] (spBest wa ws C (n + 1)) := by
  have bP := FP.binds (ps := ["self", "part", "question"]) fun _ _ _ _ _ _ us hl => match us, hl with | [_, _, _], _ => rfl
  have bQ := FQ.binds (ps := ["self", "part"]) fun _ _ _ _ _ _ us hl => match us, hl with | [_, _], _ => rfl
  refine F.ok scBe (fun vs H Q E h => by obtain ⟨a, pa, bs, ns, tbl, x, of, part, e, _⟩ := h; rw [e]; rfl) fun cdv A outer s H vs Q E hr hsp => ?_
  obtain ⟨a, pa, bs, ns, tbl, x, of, part, rfl, sea, memo, hpa, sub, pos, lp, few, hq⟩ := hsp
  obtain ⟨dx, rL, oL, as, h1, h2, h3, h4⟩ := sea.ex
  obtain ⟨lm, below⟩ := range_below sub
  have nd := scBe.nd
  have hu := hu_of (hr.mono (show 1 ≤ k + 1 by omega))
  refine ⟨_, pss_cons (ps_if (pt_cmp (pc_dnotin hu (pv 1) (pe_fld (pv 0) rfl)))
      (pss_one (ps_if (pt_cmpR op_eq (pe_callB call_lenD rfl gN boot_len (pa_cons (pe_meth (pv 0) S.cl mP GP (hr.mono (by omega)) bP .nil pass0 (pa_cons (pv 1) (pa_cons (pe_fld (pv 0) rfl) pa_nil))) pa_nil)) pe_int (nomark _))
        (pss_one (ps_dput hu (pe_fld (pv 0) rfl) (pv 1) (pe_tup (pa_cons pe_int (pa_cons pe_non pa_nil))) rfl))
        (pss_one (ps_dput hu (pe_fld (pv 0) rfl) (pv 1) (pe_meth (pv 0) S.cl mQ GQ hr bQ .nil pass0 (pa_cons (pv 1) pa_nil)) rfl)))) pss_nil)
    (pss_one (ps_ret (pe_dget hu (pe_fld (pv 0) rfl) (pv 1) (fun _ _ => rfl)))), ?_⟩
  have isT := memo.isT
  have nB : ∀ {b : Addr} {o : HO}, (∀ l, o ≠ .dT l) → H b = some o → b ≠ bs := fun no e z => by
    obtain ⟨kvs, et⟩ := isT
    rw [z, et] at e
    exact no _ (Option.some.inj e).symm
  have naB := nB (fun _ z => by cases z) h1
  have npB := nB (fun _ z => by cases z) hpa
  have kp : H pa = some (.tup ((keyP part).map kV)) := by rw [keyP_kV]; exact hpa
  -- the end: what is known is told
  have fin : ∀ (H1 : Hp) (kvs : List (List Key × V)) (v : V), ButB bs H H1 → Memo ws H1 bs (says ns tbl) x of tbl.length kvs → valV kvs (keyP part) = some v →
      tRet (tDGet (tFld K (tVar 0) "_bests") (tVar 1)) { nx := fun _ H' => Q .non H', rt := Q } [some (.ref a), some (.ref pa)] H1 := fun H1 kvs v B M hv => by
    obtain ⟨t, rfl, ht⟩ := M.got hv
    refine ⟨_, rfl, a, C, dx, _, _, rfl, B _ _ naB h1, S.cl, S.nB, rfl, _, rfl, bs, _, rfl, ?_, hq H1 t B ⟨kvs, M⟩ ht⟩
    rw [← hv]
    exact DGet.t M.at_ (B _ _ npB kp)
  obtain ⟨kvs, M⟩ := id memo
  have lk := M.few few
  refine ⟨_, rfl, _, rfl, a, C, dx, _, _, rfl, h1, S.cl, S.nB, rfl, bs, _, rfl, DGet.t M.at_ kp, _, rfl, ?_⟩
  cases ev : valV kvs (keyP part) with
  | some v => exact iteF (fin H kvs v ButB.refl M ev)
  | none =>
    refine iteT ?_
    refine ⟨_, rfl, a, dx, _, rfl, h1, rfl, _, rfl, _, rfl, a, C, dx, _, _, rfl, h1, S.cl, S.nA, rfl, a, pa, bs, ns, tbl, x, x, of, part, rfl, sea, ⟨hpa, by omega, below⟩, sea.xin, fun H3 d k3 nd3 P3 => ?_⟩
    obtain ⟨ks, od, ek, _⟩ := P3
    have lks : ks.length = (answersOf (says ns tbl x) part).length := by
      have z := congrArg List.length ek
      rw [List.length_map, List.length_map] at z
      exact z
    have eb := bestS_eq (ws := ws) (says ns tbl) x of part
    have M3 := M.same k3
    refine ⟨d, ks, rfl, od, rfl, ?_⟩
    by_cases one : (answersOf (says ns tbl x) part).length = 1
    · rw [if_pos one] at eb
      refine ⟨true, congrArg V.bl (decide_eq_true (by rw [lks, one]; rfl)), iteT ?_⟩
      refine ⟨(by show 2 ≤ sizeLine; decide), fun t nt => ?_⟩
      have sd := same_new (o := .tup [.int 0, .non]) nt
      have M4 := M3.same sd
      refine ⟨_, rfl, a, C, dx, _, _, rfl, sd _ _ (k3 _ _ h1), S.cl, S.nB, rfl, _, rfl, bs, _, rfl, DPut.t M4.at_ (sd _ _ (k3 _ _ kp)) (by rw [sizeLine_eq]; omega), ?_⟩
      refine fin _ _ (.ref t) (fun b o nb e => ?_) (M4.put sub (part := part) (t := t) ?_) (by rw [valV_put, if_pos rfl])
      · rw [upd_ne nb]; exact sd _ _ (k3 _ _ e)
      · rw [eb]; exact upd_same
    · rw [if_neg one] at eb
      refine ⟨false, congrArg V.bl (decide_eq_false (fun z => one (by rw [lks] at z; exact Int.ofNat.inj (V.int.inj z)))), iteF ?_⟩
      refine ⟨_, rfl, a, dx, _, rfl, k3 _ _ h1, rfl, _, rfl, a, pa, bs, ns, tbl, x, of, part, rfl, sea.same k3, memo.same k3, k3 _ _ hpa, sub, lp, few, fun H4 t B4 MA4 ht => ?_⟩
      obtain ⟨kvs4, M4⟩ := MA4
      have lk4 := M4.few few
      have B04 := (ButB.of k3).trans B4
      refine ⟨_, rfl, a, C, dx, _, _, rfl, B04 _ _ naB h1, S.cl, S.nB, rfl, _, rfl, bs, _, rfl, DPut.t M4.at_ (B04 _ _ npB kp) (by rw [sizeLine_eq]; omega), ?_⟩
      refine fin _ _ (.ref t) (fun b o nb e => ?_) (M4.put sub (part := part) (t := t) ?_) (by rw [valV_put, if_pos rfl])
      · rw [upd_ne nb]; exact B04 _ _ nb e
      · rw [eb]; exact ht
theorem ok_cost1 (F : Fun K "cost" "Search.cost" sCost f fd) (S : SeaC K C) (FB : Fun K "_best" "Search._best" sBest fB fdB) (mB : Meth K C "_best" fB) (GB : FnOk P w K mg base CX0 k fB fdB ["self", "part"] (spBest wa ws C n)) : FnOk P w K mg base CX0 (k + 1) f fd ["self", "part"] (spCost wa ws C n) := by
  have bB := FB.binds (ps := ["self", "part"]) fun _ _ _ _ _ _ us hl => match us, hl with | [_, _], _ => rfl
  refine F.ok scCt (fun vs H Q E h => by obtain ⟨a, pa, bs, ns, tbl, x, of, part, e, _⟩ := h; rw [e]; rfl) fun cdv A outer s H vs Q E hr hsp => ?_
  obtain ⟨a, pa, bs, ns, tbl, x, of, part, rfl, sea, memo, hpa, sub, pos, lp, few, hq⟩ := hsp
  obtain ⟨dx, rL, oL, as, h1, h2, h3, h4⟩ := sea.ex
  refine ⟨_, pss_one (ps_ret (pe_ix (r := rIxT K) ix_tup (pe_meth (pv 0) S.cl mB GB hr bB .nil pass0 (pa_cons (pv 1) pa_nil)) pe_int (fun _ _ => rfl))), ?_⟩
  exact ⟨_, rfl, a, dx, _, rfl, h1, rfl, _, rfl, a, pa, bs, ns, tbl, x, of, part, rfl, sea, memo, hpa, sub, pos, lp, few, fun H' t B M ht => ⟨t, _, 0, _, rfl, rfl, SqT.of ht, rfl, hq H' B M⟩⟩
/-- what the methods of a search are -/
structure SeaM (K : PySem.W.Frag) (mg : Str → Option Value) (C fP fO fQ fB fC : Addr) : Prop where
  c : SeaC K C
  P : ∃ fd, Fun K "parts_of" "Search.parts_of" sPartsOf fP fd
  mP : Meth K C "parts_of" fP
  O : ∃ fd, Fun K "_cost_of" "Search._cost_of" sCostOf fO fd
  mO : Meth K C "_cost_of" fO
  Q : ∃ fd, Fun K "_best_question" "Search._best_question" sBestQ fQ fd
  mQ : Meth K C "_best_question" fQ
  B : ∃ fd, Fun K "_best" "Search._best" sBest fB fd
  mB : Meth K C "_best" fB
  Ct : ∃ fd, Fun K "cost" "Search.cost" sCost fC fd
  mC : Meth K C "cost" fC
  nT : mg "tuple" = none
  nM : mg "max" = none
  nSm : mg "sum" = none
  nN : mg "len" = none
theorem ok_cost {fP fO fQ fB fC : Addr} (M : SeaM K mg C fP fO fQ fB fC) : ∀ (n : Nat) {fd : FuncData}, Fun K "cost" "Search.cost" sCost fC fd → FnOk P w K mg base CX0 (3 * n + 1) fC fd ["self", "part"] (spCost wa ws C n)
  | 0, fd, _ => ⟨fun vs H Q E h => by obtain ⟨a, pa, bs, ns, tbl, x, of, part, e, _⟩ := h; rw [e]; rfl, fun A outer s H args us vs Q E hr he hb hv hs => by
      obtain ⟨a, pa, bs, ns, tbl, x, of, part, _, _, _, _, _, h1, h2, _⟩ := hs
      omega⟩
  | n + 1, fd, F => by
    have GC := ok_cost M n F
    obtain ⟨fdP, FP⟩ := M.P
    obtain ⟨fdO, FO⟩ := M.O
    obtain ⟨fdQ, FQ⟩ := M.Q
    obtain ⟨fdB, FB⟩ := M.B
    have GP : FnOk P w K mg base CX0 1 fP fdP ["self", "part", "question"] (spPartsOf wa ws C) := ok_partsOf FP M.c M.nT
    have GO : FnOk P w K mg base CX0 1 fO fdO ["self", "part", "costs"] (spCostOf wa ws C) := ok_costOf FO M.c M.nM M.nSm
    have GQ := ok_bestQ (P := P) (w := w) (base := base) FQ M.c FP M.mP GP FO M.mO GO F M.mC (by omega) GC M.nN
    have GB := ok_best (P := P) (w := w) (base := base) FB M.c FP M.mP GP FQ M.mQ GQ M.nN
    exact (ok_cost1 F M.c FB M.mB GB).mono (by omega)
end
end L2.TB
/-! things: None, numbers, texts; lists, tuples, dicts of things; is_hard; what a hold is -/
namespace L2.TB
open PySem PySem.Spec PyProof.Rows
inductive Hd
  | at_ (v : V)
  | sq (isT : Bool) (l : List Hd)
  | di (kvs : List (Str × Hd))
def seqO (isT : Bool) (us : List V) : HO := if isT = true then .tup us else .lst us
/-- v is the thing t, each address of which is as A says -/
inductive HdAt (A : Addr → Prop) (H : Hp) : Hd → V → Prop
  | at_ {v : V} (h : Atom v) : HdAt A H (.at_ v) v
  | sq {a : Addr} {isT : Bool} {us : List V} {l : List Hd} (ok : A a) (h : H a = some (seqO isT us)) (len : us.length = l.length) (al : ∀ (i : Nat) (u : V) (t : Hd), us[i]? = some u → l[i]? = some t → HdAt A H t u) : HdAt A H (.sq isT l) (.ref a)
  | di {a : Addr} {es : List (Key × V)} {kvs : List (Str × Hd)} (ok : A a) (h : H a = some (.dK es)) (ks : es.map (·.1) = kvs.map fun e => Sum.inr e.1) (nd : (kvs.map (·.1)).Nodup) (al : ∀ (i : Nat) (k : Key) (u : V) (x : Str) (t : Hd), es[i]? = some (k, u) → kvs[i]? = some (x, t) → HdAt A H t u) : HdAt A H (.di kvs) (.ref a)
theorem seqO_dT (isT : Bool) (us : List V) (l : List (List Key × V)) : seqO isT us ≠ .dT l := by
  unfold seqO
  split <;> (intro z; cases z)
theorem HdAt.keep {A A' : Addr → Prop} {H H' : Hp} {t : Hd} {v : V} (h : HdAt A H t v) (hA : ∀ b, A b → A' b) (s : ∀ b o, A b → H b = some o → (∀ l, o ≠ .dT l) → H' b = some o) : HdAt A' H' t v := by
  induction h with
  | at_ h => exact .at_ h
  | sq ok h len _ ih => exact .sq (hA _ ok) (s _ _ ok h (seqO_dT _ _)) len ih
  | di ok h ks nd _ ih => exact .di (hA _ ok) (s _ _ ok h (fun _ z => by cases z)) ks nd ih
theorem HdAt.same {A : Addr → Prop} {H H' : Hp} {t : Hd} {v : V} (h : HdAt A H t v) (s : Same H H') : HdAt A H' t v := h.keep (fun _ z => z) fun b o _ e _ => s b o e
theorem HdAt.but {A : Addr → Prop} {H H' : Hp} {bs : Addr} {t : Hd} {v : V} (h : HdAt A H t v) (T : IsT H bs) (s : ButB bs H H') : HdAt A H' t v := h.keep (fun _ z => z) fun b o _ e n => s b o (fun z => by
  obtain ⟨l, et⟩ := T
  rw [z, et] at e
  exact n _ (Option.some.inj e).symm) e
/-- not told by d questions -/
def hardP (c : Option Int) (d : Nat) : Bool := match c with
  | none => true
  | some z => decide ((d : Int) ≤ z)
def spIsHard (C : Addr) (n : Nat) : Sp := fun vs H Q _ => ∃ (a pa bs : Addr) (ns : List Str) (tbl : List (List Int)) (x : Str) (of : List Str) (part : List Nat) (d : Nat), vs = [.ref a, .ref pa, .int d] ∧ SeaAt 0 none H C a ns tbl x of bs ∧ MemoAt none H bs (says ns tbl) x of tbl.length ∧ H pa = some (.tup (part.map natV)) ∧ part.Sublist (List.range tbl.length) ∧ 0 < part.length ∧ part.length ≤ n ∧ tbl.length ≤ 10 ∧
  ∀ H', ButB bs H H' → MemoAt none H' bs (says ns tbl) x of tbl.length → Q (.bl (hardP (bestS none (says ns tbl) x of part).1 d)) H'
abbrev NIh : List Str := ["self", "part", "depth", "cost"]
theorem scIh : FnScope NIh ["self", "part", "depth"] (defScope sIsHard) := ⟨rfl, rfl, rfl, by decide +kernel, rfl, by decide +kernel, by decide +kernel⟩
section
variable {P : Program} {w : World} {K : PySem.W.Frag} {mg : Str → Option Value} {base : Heap} {f C fC : Addr} {fd fdC : FuncData} {n k : Nat}
theorem ok_isHard (F : Fun K "is_hard" "Search.is_hard" sIsHard f fd) (S : SeaC K C) (FC : Fun K "cost" "Search.cost" sCost fC fdC) (mC : Meth K C "cost" fC) (GC : FnOk P w K mg base CX0 k fC fdC ["self", "part"] (spCost 0 none C n)) : FnOk P w K mg base CX0 (k + 1) f fd ["self", "part", "depth"] (spIsHard C n) := by
  have bC := FC.binds (ps := ["self", "part"]) fun _ _ _ _ _ _ us hl => match us, hl with | [_, _], _ => rfl
  refine F.ok scIh (fun vs H Q E h => by obtain ⟨a, pa, bs, ns, tbl, x, of, part, d, e, _⟩ := h; rw [e]; rfl) fun cdv A outer s H vs Q E hr hsp => ?_
  obtain ⟨a, pa, bs, ns, tbl, x, of, part, d, rfl, sea, memo, hpa, sub, pos, lp, few, hq⟩ := hsp
  obtain ⟨dx, rL, oL, as, h1, h2, h3, h4⟩ := sea.ex
  have nd := scIh.nd
  refine ⟨_, pss_cons (ps_set (i := 3) nd rfl (Or.inl rfl) (pe_meth (pv 0) S.cl mC GC hr bC .nil pass0 (pa_cons (pv 1) pa_nil)))
    (pss_one (ps_ret (pe_or (pe_cmp (pc_isN (pv 3))) (pe_one (pe_cmp (pc_ge (pv 3) (pv 2))))))), ?_⟩
  refine ⟨_, rfl, a, dx, _, rfl, h1, rfl, _, rfl, a, pa, bs, ns, tbl, x, of, part, rfl, sea, memo, hpa, sub, pos, lp, few, fun H' B M => ?_⟩
  have z := hq H' B M
  generalize (bestS none (says ns tbl) x of part).1 = c at z
  cases c with
  | none => exact ⟨_, rfl, _, rfl, iteT z⟩
  | some y =>
    refine ⟨_, rfl, _, rfl, iteF ?_⟩
    exact ⟨_, rfl, _, rfl, _, _, rfl, rfl, z⟩
end
/-- what hold tells of a part that is hard -/
def firstHard (sy : Str → Nat → Int) (x : Str) (of : List Str) (part : List Nat) (d : Nat) (q : Str) : Int := ((answersOf (sy q) part).filter fun v => hardP (bestS none sy x of (partOf (sy q) part v)).1 d).headD 0
def holdT (sy : Str → Nat → Int) (x : Str) (of : List Str) : Nat → List Nat → Hd
  | 0, _ => .sq true []
  | d + 1, part => .di (of.map fun q => (q, .sq true [.at_ (.int (firstHard sy x of part d q)), holdT sy x of d (partOf (sy q) part (firstHard sy x of part d q))]))
/-- a question of one answer parts nothing -/
theorem ans_one {f : Nat → Int} {part : List Nat} (h : ¬ 1 < (answersOf f part).length) {v : Int} (hv : v ∈ answersOf f part) : partOf f part v = part := by
  refine (List.filter_eq_self.mpr fun i hi => decide_eq_true ?_)
  have hi2 : f i ∈ answersOf f part := by
    unfold answersOf
    rw [once_mem]
    exact List.mem_map.mpr ⟨i, hi, rfl⟩
  match q : answersOf f part, h, hv, hi2 with
  | [], _, hv, _ => simp at hv
  | [u], _, hv, hi2 =>
    have e1 : v = u := by simpa using hv
    have e2 : f i = u := by simpa using hi2
    rw [e1, e2]
  | a :: b :: l, h, _, _ => simp at h
theorem ans_pos {f : Nat → Int} {part : List Nat} (h : 0 < part.length) : ∃ v, v ∈ answersOf f part := by
  cases part with
  | nil => simp at h
  | cons i r => exact ⟨f i, by unfold answersOf; rw [once_mem]; simp⟩
end L2.TB
/-! when a part is hard -/
namespace L2.TB
open PySem PySem.Spec PyProof.Rows
theorem hard_less {c : Option Int} {d : Nat} (h : hardP c (d + 1) = true) : hardP c d = true := by
  cases c with
  | none => rfl
  | some z => exact decide_eq_true (by have := of_decide_eq_true h; omega)
theorem hard_better (b : Option Int × Option Str) (q : Str) (c : Option Int) (d : Nat) : hardP (better b q c).1 d = (hardP b.1 d && hardP c d) := by
  obtain ⟨b1, b2⟩ := b
  cases c with
  | none =>
    show hardP b1 d = (hardP b1 d && true)
    rw [Bool.and_true]
  | some z =>
    cases b1 with
    | none => rfl
    | some y =>
      show hardP (if z < y then (some z, some q) else (some y, b2)).1 d = (decide ((d : Int) ≤ y) && decide ((d : Int) ≤ z))
      by_cases h : z < y
      · rw [if_pos h]
        show decide _ = _
        by_cases h2 : (d : Int) ≤ z
        · rw [decide_eq_true h2, decide_eq_true (show (d : Int) ≤ y by omega)]; rfl
        · rw [decide_eq_false h2, Bool.and_false]
      · rw [if_neg h]
        show decide _ = _
        by_cases h2 : (d : Int) ≤ y
        · rw [decide_eq_true h2, decide_eq_true (show (d : Int) ≤ z by omega)]; rfl
        · rw [decide_eq_false h2]; rfl
theorem some_mem {cs : List (Option Int)} {z : Int} : z ∈ cs.filterMap id ↔ some z ∈ cs := by
  rw [List.mem_filterMap]
  exact ⟨fun ⟨a, h, e⟩ => by have e : a = some z := e; rw [← e]; exact h, fun h => ⟨_, h, rfl⟩⟩
theorem hard_cost {part : List Nat} {cs : List (Option Int)} (pos : cs ≠ []) (d : Nat) : hardP (costOf none part cs) (d + 1) = true ↔ ∃ c ∈ cs, hardP c d = true := by
  unfold costOf
  by_cases h : none ∈ cs
  · rw [if_pos h]
    exact ⟨fun _ => ⟨none, h, rfl⟩, fun _ => rfl⟩
  · rw [if_neg h]
    have ne : cs.filterMap id ≠ [] := by
      obtain ⟨c, hc⟩ : ∃ c, c ∈ cs := List.exists_mem_of_ne_nil _ pos
      cases c with
      | none => exact absurd hc h
      | some z => exact List.ne_nil_of_mem (some_mem.mpr hc)
    obtain ⟨hm, hle⟩ : maxZ (cs.filterMap id) ∈ cs.filterMap id ∧ ∀ y ∈ cs.filterMap id, y ≤ maxZ (cs.filterMap id) := by
      cases q : cs.filterMap id with
      | nil => exact absurd q ne
      | cons a l =>
        obtain ⟨h1, h2, h3⟩ := maxZ_le l a
        refine ⟨?_, fun y hy => ?_⟩
        · rcases h3 with h3 | h3
          · show List.foldl _ _ _ ∈ _
            rw [h3]; simp
          · exact List.mem_cons_of_mem _ h3
        · rcases List.mem_cons.mp hy with e | hy
          · rw [e]; exact h1
          · exact h2 y hy
    constructor
    · intro z
      have z : ((d + 1 : Nat) : Int) ≤ 1 + maxZ (cs.filterMap id) := of_decide_eq_true z
      exact ⟨some _, some_mem.mp hm, decide_eq_true (by omega)⟩
    · rintro ⟨c, hc, hh⟩
      cases c with
      | none => exact absurd hc h
      | some y =>
        have := hle y (some_mem.mpr hc)
        have hh : (d : Int) ≤ y := of_decide_eq_true hh
        exact decide_eq_true (by omega)
section
variable {sy : Str → Nat → Int} {x : Str} {of : List Str}
theorem hard_fold {part : List Nat} (d : Nat) : ∀ (l : List Str), hardP (foldQ none sy x of part l).1 (d + 1) = true ↔ ∀ q ∈ l, 1 < (answersOf (sy q) part).length → ∃ v ∈ answersOf (sy q) part, hardP (bestS none sy x of (partOf (sy q) part v)).1 d = true := by
  intro l
  induction l using rev_ind with
  | h0 => exact ⟨fun _ q h => (by cases h), fun _ => rfl⟩
  | hs l q ih =>
    rw [fold_snoc]
    unfold stepQ
    by_cases big : 1 < (answersOf (sy q) part).length
    · rw [if_pos big, hard_better, Bool.and_eq_true, ih, hard_cost (by intro z; rw [List.map_eq_nil_iff] at z; rw [z] at big; simp at big)]
      constructor
      · rintro ⟨h1, h2⟩ r hr hb
        rcases List.mem_append.mp hr with hr | hr
        · exact h1 r hr hb
        · obtain rfl : r = q := by simpa using hr
          obtain ⟨c, hc, hh⟩ := h2
          obtain ⟨v, hv, rfl⟩ := List.mem_map.mp hc
          exact ⟨v, hv, hh⟩
      · intro h
        refine ⟨fun r hr hb => h r (List.mem_append_left _ hr) hb, ?_⟩
        obtain ⟨v, hv, hh⟩ := h q (by simp) big
        exact ⟨_, List.mem_map.mpr ⟨v, hv, rfl⟩, hh⟩
    · rw [if_neg big, ih]
      constructor
      · intro h r hr hb
        rcases List.mem_append.mp hr with hr | hr
        · exact h r hr hb
        · obtain rfl : r = q := by simpa using hr
          exact absurd hb big
      · intro h r hr hb
        exact h r (List.mem_append_left _ hr) hb
/-- hard for one more: answers differ, and each question leaves a part that is hard -/
theorem hard_step {part : List Nat} (pos : 0 < part.length) (d : Nat) : hardP (bestS none sy x of part).1 (d + 1) = true ↔ (answersOf (sy x) part).length ≠ 1 ∧ ∀ q ∈ of, ∃ v ∈ answersOf (sy q) part, hardP (bestS none sy x of (partOf (sy q) part v)).1 d = true := by
  have eb := bestS_eq (ws := none) sy x of part
  by_cases one : (answersOf (sy x) part).length = 1
  · rw [eb, if_pos one]
    constructor
    · intro h
      have h : ((d + 1 : Nat) : Int) ≤ 0 := of_decide_eq_true h
      omega
    · exact fun h => absurd one h.1
  · have e2 : (bestS none sy x of part).1 = (foldQ none sy x of part of).1 := by
      rw [eb, if_neg one]
      rfl
    constructor
    · intro h
      refine ⟨one, fun q hq => ?_⟩
      by_cases big : 1 < (answersOf (sy q) part).length
      · rw [e2] at h
        exact (hard_fold d of).mp h q hq big
      · obtain ⟨v, hv⟩ := ans_pos (f := sy q) pos
        exact ⟨v, hv, by rw [ans_one big hv]; exact hard_less h⟩
    · rintro ⟨_, h⟩
      rw [e2]
      exact (hard_fold d of).mpr fun q hq _ => h q hq
theorem cost_pos : ∀ (n : Nat) (part : List Nat), part.length ≤ n → ∀ z, (bestS none sy x of part).1 = some z → 0 ≤ z
  | 0, part, h, z, e => by
    obtain rfl : part = [] := List.length_eq_zero_iff.mp (by omega)
    cases e
  | n + 1, part, h, z, e => by
    rw [bestS_eq] at e
    by_cases one : (answersOf (sy x) part).length = 1
    · rw [if_pos one] at e
      cases e
      omega
    · rw [if_neg one] at e
      have key : ∀ (l : List Str) (b : Option Int × Option Str), (∀ y, b.1 = some y → 0 ≤ y) → ∀ y, (l.foldl (stepQ none (fun p => (bestS none sy x of p).1) sy part) b).1 = some y → 0 ≤ y := fun l => by
        induction l with
        | nil => exact fun b hb y hy => hb y hy
        | cons q l ih =>
          intro b hb y hy
          rw [List.foldl_cons] at hy
          refine ih _ (fun y2 h2 => ?_) y hy
          unfold stepQ at h2
          by_cases big : 1 < (answersOf (sy q) part).length
          · rw [if_pos big] at h2
            have hc : ∀ u, costOf none part ((answersOf (sy q) part).map fun v => (bestS none sy x of (partOf (sy q) part v)).1) = some u → 0 ≤ u := fun u hu => by
              unfold costOf at hu
              split at hu
              · cases hu
              · have nn : ∀ l : List Int, (∀ y ∈ l, 0 ≤ y) → 0 ≤ maxZ l := fun l hl => by
                  cases l with
                  | nil => exact Int.le_refl _
                  | cons a l => exact Int.le_trans (hl a (by simp)) (maxZ_le l a).1
                have := nn _ fun y hy => by
                  obtain ⟨v, hv, ev⟩ := List.mem_map.mp (some_mem.mp hy)
                  have ltp := part_lt big hv
                  exact cost_pos n (partOf (sy q) part v) (by omega) y ev
                have e3 := Option.some.inj hu
                omega
            obtain ⟨b1, b2⟩ := b
            cases q2 : costOf none part ((answersOf (sy q) part).map fun v => (bestS none sy x of (partOf (sy q) part v)).1) with
            | none =>
              rw [q2] at h2
              exact hb y2 h2
            | some u =>
              rw [q2] at h2
              have hu := hc u q2
              cases b1 with
              | none =>
                cases h2
                exact hu
              | some t =>
                have h2 : (if u < t then (some u, some q) else (some t, b2)).1 = some y2 := h2
                split at h2
                · cases h2; exact hu
                · exact hb y2 h2
          · rw [if_neg big] at h2
            exact hb y2 h2
      exact key of _ (fun y hy => by cases hy) z e
theorem hard_zero (part : List Nat) : hardP (bestS none sy x of part).1 0 = true := by
  cases q : (bestS none sy x of part).1 with
  | none => rfl
  | some z =>
    have := cost_pos _ part (Nat.le_refl _) z q
    exact decide_eq_true (by omega)
/-- the first hard answer -/
theorem first_hard {part : List Nat} {d : Nat} {q : Str} (h : ∃ v ∈ answersOf (sy q) part, hardP (bestS none sy x of (partOf (sy q) part v)).1 d = true) :
    firstHard sy x of part d q ∈ answersOf (sy q) part ∧ hardP (bestS none sy x of (partOf (sy q) part (firstHard sy x of part d q))).1 d = true ∧ ((answersOf (sy q) part).filter fun v => hardP (bestS none sy x of (partOf (sy q) part v)).1 d)[0]? = some (firstHard sy x of part d q) := by
  obtain ⟨v, hv, hh⟩ := h
  have hm : v ∈ (answersOf (sy q) part).filter fun v => hardP (bestS none sy x of (partOf (sy q) part v)).1 d := List.mem_filter.mpr ⟨hv, hh⟩
  unfold firstHard
  cases e : (answersOf (sy q) part).filter fun v => hardP (bestS none sy x of (partOf (sy q) part v)).1 d with
  | nil => rw [e] at hm; cases hm
  | cons u r =>
    have hu : u ∈ (answersOf (sy q) part).filter fun v => hardP (bestS none sy x of (partOf (sy q) part v)).1 d := by rw [e]; simp
    obtain ⟨h1, h2⟩ := List.mem_filter.mp hu
    exact ⟨h1, h2, rfl⟩
end
end L2.TB
/-! the method hold -/
namespace L2.TB
open PySem PySem.Spec PyProof.Rows
def spHold (C : Addr) (d : Nat) : Sp := fun vs H Q _ => ∃ (a pa bs : Addr) (ns : List Str) (tbl : List (List Int)) (x : Str) (of : List Str) (part : List Nat), vs = [.ref a, .ref pa, .int d] ∧ SeaAt 0 none H C a ns tbl x of bs ∧ MemoAt none H bs (says ns tbl) x of tbl.length ∧ H pa = some (.tup (part.map natV)) ∧ part.Sublist (List.range tbl.length) ∧ 0 < part.length ∧ tbl.length ≤ 10 ∧ of.Nodup ∧
  hardP (bestS none (says ns tbl) x of part).1 d = true ∧ ∀ H' v, ButB bs H H' → MemoAt none H' bs (says ns tbl) x of tbl.length → HdAt (fun b => H b = none) H' (holdT (says ns tbl) x of d part) v → Q v H'
abbrev NHo : List Str := ["self", "part", "depth", "out", "question", "parts", "answer", "one"]
theorem scHo : FnScope NHo ["self", "part", "depth"] (defScope sHoldM) := ⟨rfl, rfl, rfl, by decide +kernel, rfl, by decide +kernel, by decide +kernel⟩
theorem ButB.free {bs : Addr} {H H' : Hp} {b : Addr} (s : ButB bs H H') (T : IsT H' bs) (h : H' b = none) : H b = none := by
  cases q : H b with
  | none => rfl
  | some o =>
    by_cases e : b = bs
    · obtain ⟨l, et⟩ := T
      rw [← e, h] at et
      cases et
    · rw [s b o e q] at h
      cases h
theorem filter_take_snoc {α : Type} (p : α → Bool) {l : List α} {j : Nat} {v : α} (h : l[j]? = some v) : (l.take (j + 1)).filter p = (l.take j).filter p ++ (if p v = true then [v] else []) := by
  rw [List.take_succ, h, List.filter_append]
  congr 1
  show [v].filter p = _
  by_cases q : p v = true
  · rw [if_pos q]; simp [q]
  · rw [if_neg q]; simp [q]
/-- one entry of what hold tells -/
def entT (sy : Str → Nat → Int) (x : Str) (of : List Str) (d : Nat) (part : List Nat) (q : Str) : Hd := .sq true [.at_ (.int (firstHard sy x of part d q)), holdT sy x of d (partOf (sy q) part (firstHard sy x of part d q))]
section
variable {P : Program} {w : World} {K : PySem.W.Frag} {mg : Str → Option Value} {base : Heap} {f C fP fH : Addr} {fd fdP fdH : FuncData} {k : Nat}
theorem ok_hold0 (F : Fun K "hold" "Search.hold" sHoldM f fd) : FnOk P w K mg base CX0 1 f fd ["self", "part", "depth"] (spHold C 0) := by
  refine F.ok scHo (fun vs H Q E h => by obtain ⟨a, pa, bs, ns, tbl, x, of, part, e, _⟩ := h; rw [e]; rfl) fun cdv A outer s H vs Q E hr hsp => ?_
  obtain ⟨a, pa, bs, ns, tbl, x, of, part, rfl, sea, memo, hpa, sub, pos, few, nof, hard, hq⟩ := hsp
  refine ⟨_, pss_cons (ps_if (pt_cmpR op_eq (pv 2) pe_int (nomark _)) (pss_one (ps_ret (pe_tup pa_nil))) pss_nil) pss_never, ?_⟩
  refine ⟨_, rfl, rfl, true, rfl, iteT ⟨(by show 0 ≤ sizeLine; omega), fun t nt => ?_⟩⟩
  have sd := same_new (o := .tup []) nt
  exact hq _ _ (.of sd) (memo.same sd) (.sq (isT := true) nt upd_same rfl fun i u t e _ => by simp at e)
theorem ok_holdS {d : Nat} (F : Fun K "hold" "Search.hold" sHoldM f fd) (mF : Meth K C "hold" f) (S : SeaC K C) (FP : Fun K "parts_of" "Search.parts_of" sPartsOf fP fdP) (mP : Meth K C "parts_of" fP) (GP : FnOk P w K mg base CX0 1 fP fdP ["self", "part", "question"] (spPartsOf 0 none C))
    (FH : Fun K "is_hard" "Search.is_hard" sIsHard fH fdH) (mH : Meth K C "is_hard" fH) (GH : FnOk P w K mg base CX0 k fH fdH ["self", "part", "depth"] (spIsHard C 10)) (hk : 1 ≤ k) (GR : FnOk P w K mg base CX0 k f fd ["self", "part", "depth"] (spHold C d)) : FnOk P w K mg base CX0 (k + 1) f fd ["self", "part", "depth"] (spHold C (d + 1)) := by
  have bP := FP.binds (ps := ["self", "part", "question"]) fun _ _ _ _ _ _ us hl => match us, hl with | [_, _, _], _ => rfl
  have bH := FH.binds (ps := ["self", "part", "depth"]) fun _ _ _ _ _ _ us hl => match us, hl with | [_, _, _], _ => rfl
  have bR := F.binds (ps := ["self", "part", "depth"]) fun _ _ _ _ _ _ us hl => match us, hl with | [_, _, _], _ => rfl
  refine F.ok scHo (fun vs H Q E h => by obtain ⟨a, pa, bs, ns, tbl, x, of, part, e, _⟩ := h; rw [e]; rfl) fun cdv A outer s H vs Q E hr hsp => ?_
  obtain ⟨a, pa, bs, ns, tbl, x, of, part, rfl, sea, memo, hpa, sub, pos, few, nof, hard, hq⟩ := hsp
  obtain ⟨dx, rL, oL, as, h1, h2, h3, h4⟩ := sea.ex
  obtain ⟨lm, below⟩ := range_below sub
  have nd := scHo.nd
  have hu := hu_of (hr.mono hk)
  obtain ⟨_, hardQ⟩ := (hard_step pos d).mp hard
  refine ⟨_, pss_cons (ps_if (pt_cmpR op_eq (pv 2) pe_int (nomark _)) (pss_one (ps_ret (pe_tup pa_nil))) pss_nil)
    (pss_cons (ps_set (i := 3) nd rfl (Or.inl rfl) pe_dnewK)
    (pss_cons (ps_for PassesOwn.never rfl (pi_seq (pe_fld (pv 0) rfl)) (pg_name (i := 4) nd rfl (Or.inl rfl))
      (pss_cons (ps_set (i := 5) nd rfl (Or.inr rfl) (pe_meth (pv 0) S.cl mP GP (hr.mono hk) bP .nil pass0 (pa_cons (pv 1) (pa_cons (pv 4) pa_nil))))
      (pss_cons (ps_set (i := 6) nd rfl (Or.inl rfl) (pe_ix (r := rIxL K) ix_list (pe_lock (pe_lc (own := [("one", 7)]) (g := gName 7) rfl nd (pi_keys (pv 5)) (blkOk_by (N := NHo) (sc := defScope sHoldM) (by decide +kernel))
            (fun _ _ _ _ _ => pg_name (i := 7) nd rfl (Or.inl rfl)) (fun _ _ _ _ _ => pts_one (pt_val (pe_meth (pv 0) S.cl mH GH hr bH .nil pass0 (pa_cons (pe_dget hu (pv 5) (pv 7) (fun _ _ => rfl)) (pa_cons (pe_op op_sub (pv 2) pe_int) pa_nil))))) (fun _ _ _ _ _ => pv 7))) pe_int (fun _ _ => rfl)))
      (pss_one (ps_dput hu (pv 3) (pv 4) (pe_tup (pa_cons (pv 6) (pa_cons (pe_meth (pv 0) S.cl mF GR hr bR .nil pass0 (pa_cons (pe_dget hu (pv 5) (pv 6) (fun _ _ => rfl)) (pa_cons (pe_op op_sub (pv 2) pe_int) pa_nil))) pa_nil))) rfl)))))
    (pss_one (ps_ret (pv 3))))), ?_⟩
  have isT := memo.isT
  have nB : ∀ {b : Addr} {o : HO}, (∀ l, o ≠ .dT l) → H b = some o → b ≠ bs := fun no e z => by
    obtain ⟨kvs, et⟩ := isT
    rw [z, et] at e
    exact no _ (Option.some.inj e).symm
  have naB := nB (fun _ z => by cases z) h1
  have npB := nB (fun _ z => by cases z) hpa
  have noB := nB (fun _ z => by cases z) h4
  have e1 : V.int (((d + 1 : Nat) : Int) - 1) = V.int (d : Int) := congrArg V.int (by omega)
  refine ⟨_, rfl, rfl, false, congrArg V.bl (decide_eq_false (fun z => by have z := V.int.inj z; omega)), iteF ?_⟩
  intro D nD
  have sD := same_new (o := .dK []) nD
  have DB : D ≠ bs := fun z => by obtain ⟨l, et⟩ := isT; rw [← z, nD] at et; cases et
  have h0 : ∀ (j : Nat) (k : Key) (u : V) (q : Str), ([] : List (Key × V))[j]? = some (k, u) → of[j]? = some q → HdAt (fun b => H b = none ∧ b ≠ D) (upd H D (.dK [])) (entT (says ns tbl) x of d part q) u := fun j k u q e _ => by simp at e
  refine ⟨_, rfl, a, C, dx, _, _, rfl, sD _ _ h1, S.cl, S.nO, rfl, for_seq (.inl rfl) (fun i σ H' => H' oL = some (.lst (of.map V.str)) ∧ ButB bs H H' ∧ MemoAt none H' bs (says ns tbl) x of tbl.length ∧ (∃ s4 s5 s6, σ = [some (.ref a), some (.ref pa), some (.int (d + 1 : Nat)), some (.ref D), s4, s5, s6, none]) ∧
      ∃ acc : List (Key × V), H' D = some (.dK acc) ∧ acc.map (·.1) = (of.take i).map Sum.inr ∧ ∀ j k u q, acc[j]? = some (k, u) → of[j]? = some q → HdAt (fun b => H b = none ∧ b ≠ D) H' (entT (says ns tbl) x of d part q) u)
    ⟨sD _ _ h4, .of sD, memo.same sD, ⟨_, _, _, rfl⟩, [], upd_same, by simp, h0⟩ (fun i σ H' _ h => h.1) ?_ ?_⟩
  · rintro i y σ H2 ey ⟨oO, B2, M2, ⟨s4, s5, s6, rfl⟩, acc, oD, ea, hacc⟩
    rw [List.getElem?_map] at ey
    obtain ⟨q, eq_, rfl⟩ := Option.map_eq_some_iff.mp ey
    have qof := List.mem_of_getElem? eq_
    have qin : q ∈ ns := sea.sub q qof
    have sea2 := sea.but isT B2
    have ha2 := B2 _ _ naB h1
    obtain ⟨z1, z2, z3⟩ := first_hard (hardQ q qof)
    refine ⟨_, rfl, a, dx, _, rfl, ha2, rfl, _, rfl, _, rfl, a, pa, bs, ns, tbl, x, q, of, part, rfl, sea2, ⟨B2 _ _ npB hpa, by omega, below⟩, qin, fun H3 e k3 nd3 P3 => ?_⟩
    obtain ⟨kvs, od, ek, ev⟩ := P3
    have lk : kvs.length = (answersOf (says ns tbl q) part).length := by
      have z := congrArg List.length ek
      rw [List.length_map, List.length_map] at z
      exact z
    have M3 := M2.same k3
    have B3 := B2.trans (.of k3)
    have la3 := ans_len (says ns tbl q) part
    have isT3 := M3.isT
    have n3 : ∀ {b : Addr} {o : HO}, (∀ l, o ≠ .dT l) → H3 b = some o → b ≠ bs := fun no e z => by
      obtain ⟨l, et⟩ := isT3
      rw [z, et] at e
      exact no _ (Option.some.inj e).symm
    have dB := n3 (fun _ z => by cases z) od
    refine ⟨e, _, od, trivial, fun odj => ⟨_, rfl, e, odj, rfl, .inl ⟨kvs, upd_same, fun L nL => ?_⟩⟩⟩
    have memoL : MemoAt none (upd H3 e (.frz odj (.dK kvs))) bs (says ns tbl) x of tbl.length := M3.lock od (fun _ z => by cases z) (fun _ z => by cases z)
    have B0L : ButB bs H2 (upd H3 e (.frz odj (.dK kvs))) := fun b o nb e => by rw [upd_ne (ne_of_none e nd3)]; exact k3 _ _ e
    have oLd : upd H3 e (.frz odj (.dK kvs)) e = some (.frz odj (.dK kvs)) := upd_same
    have LB : L ≠ bs := fun z => by
      obtain ⟨l, et⟩ := memoL.isT
      rw [← z, nL] at et
      cases et
    refine lc_it walk_keys (fun j H' => H' L = some (.lst ((((answersOf (says ns tbl q) part).take j).filter fun v => hardP (bestS none (says ns tbl) x of (partOf (says ns tbl q) part v)).1 d).map V.int)) ∧ ButB bs (upd H3 e (.frz odj (.dK kvs))) H' ∧ MemoAt none H' bs (says ns tbl) x of tbl.length)
      ⟨upd_same, .of (same_new nL), memoL.same (same_new nL)⟩ (fun j H' _ h => h.2.1 _ _ dB oLd) ?_ ?_
    · rintro j y H4 H5 lj ⟨oL4, B4, M4⟩ ⟨rfl, k0, v0, ekv, rfl⟩
      have eA : ((answersOf (says ns tbl q) part).map Sum.inl)[j]? = some k0 := by
        rw [← ek, List.getElem?_map, ekv]
        rfl
      rw [List.getElem?_map] at eA
      obtain ⟨v, evj, rfl⟩ := Option.map_eq_some_iff.mp eA
      have vin := List.mem_of_getElem? evj
      obtain ⟨t, et, ot⟩ := ev v vin
      have tB := n3 (fun _ z => by cases z) ot
      have td : t ≠ e := fun z => by rw [z, od] at ot; cases ot
      have ot4 := B4 _ _ tB (by rw [upd_ne td]; exact ot)
      have B24 := B0L.trans B4
      have lf : (partOf (says ns tbl q) part v).length ≤ part.length := List.length_filter_le _ _
      refine ⟨rfl, ?_⟩
      refine ⟨_, rfl, a, dx, _, rfl, B24 _ _ naB ha2, rfl, _, rfl, _, rfl, e, _, rfl, .inl ⟨kvs, Sum.inl v, .inr ⟨odj, B4 _ _ dB oLd⟩, rfl, et.symm⟩, _, rfl, _, _, rfl, rfl, ?_⟩
      refine ⟨a, t, bs, ns, tbl, x, of, partOf (says ns tbl q) part v, d, congrArg (fun z => [V.ref a, V.ref t, z]) e1, sea2.but M2.isT B24, M4, ot4, (List.filter_sublist).trans sub, List.length_pos_iff.mpr (part_some vin), by omega, few, fun H6 B6 M6 => ?_⟩
      have oL6 := B6 _ _ LB oL4
      have es := filter_take_snoc (fun v => hardP (bestS none (says ns tbl) x of (partOf (says ns tbl q) part v)).1 d) evj
      refine ⟨_, rfl, ?_⟩
      by_cases hh : hardP (bestS none (says ns tbl) x of (partOf (says ns tbl q) part v)).1 d = true
      · rw [if_pos hh] at es
        rw [hh]
        refine iteT ⟨_, rfl, _, oL6, ?_, ?_, ?_, ?_⟩
        · have := List.length_filter_le (fun v => hardP (bestS none (says ns tbl) x of (partOf (says ns tbl q) part v)).1 d) ((answersOf (says ns tbl q) part).take j)
          rw [List.length_take] at this
          rw [List.length_map, sizeLine_eq]
          omega
        · rw [upd_same, es, List.map_append]
          rfl
        · exact fun b o nb e => by
            rw [upd_ne (ne_of_none e nL)]
            exact B6 _ _ nb (B4 _ _ nb e)
        · exact M6.lock oL6 (fun _ z => by cases z) (fun _ z => by cases z)
      · rw [if_neg hh, List.append_nil] at es
        rw [Bool.eq_false_iff.mpr hh]
        exact iteF ⟨by rw [es]; exact oL6, B4.trans B6, M6⟩
    · rintro H6 ⟨oL6, B6, M6⟩
      rw [lk, List.take_length] at oL6
      have od6 := B6 _ _ dB oLd
      have M7 : MemoAt none (upd H6 e (.dK kvs)) bs (says ns tbl) x of tbl.length := M6.lock od6 (fun _ z => by cases z) (fun _ z => by cases z)
      have B37 : ButB bs H3 (upd H6 e (.dK kvs)) := fun b o nb eb => by
        by_cases hb : b = e
        · rw [hb] at eb ⊢
          rw [upd_same, ← od, eb]
        · rw [upd_ne hb]
          exact B6 _ _ nb (by rw [upd_ne hb]; exact eb)
      have Le : L ≠ e := fun z => by rw [z, upd_same] at nL; cases nL
      have B27 : ButB bs H2 (upd H6 e (.dK kvs)) := (ButB.of k3).trans B37
      have oL7 : upd H6 e (.dK kvs) L = some (.lst (((answersOf (says ns tbl q) part).filter fun v => hardP (bestS none (says ns tbl) x of (partOf (says ns tbl q) part v)).1 d).map V.int)) := by rw [upd_ne Le]; exact oL6
      obtain ⟨t, et, ot⟩ := ev _ z1
      have tB := n3 (fun _ z => by cases z) ot
      have a0 : atI (((answersOf (says ns tbl q) part).filter fun v => hardP (bestS none (says ns tbl) x of (partOf (says ns tbl q) part v)).1 d).map V.int) ((0 : Nat) : Int) = some (.int (firstHard (says ns tbl) x of part d q)) := atI_nat (by rw [List.getElem?_map, z3]; rfl)
      refine ⟨od6, L, _, 0, _, rfl, rfl, SqL.of oL7, a0, ?_⟩
      have ot7 := B37 _ _ tB ot
      have lf : (partOf (says ns tbl q) part (firstHard (says ns tbl) x of part d q)).length ≤ part.length := List.length_filter_le _ _
      refine ⟨_, rfl, _, rfl, a, dx, _, rfl, B27 _ _ naB ha2, rfl, _, rfl, _, rfl, e, _, rfl, .inl ⟨kvs, Sum.inl _, .inl upd_same, rfl, et.symm⟩, _, rfl, _, _, rfl, rfl, ?_⟩
      refine ⟨a, t, bs, ns, tbl, x, of, partOf (says ns tbl q) part (firstHard (says ns tbl) x of part d q), congrArg (fun z => [V.ref a, V.ref t, z]) e1, sea2.but M2.isT B27, M7, ot7, (List.filter_sublist).trans sub, List.length_pos_iff.mpr (part_some z1), few, nof, z2, fun H8 v B8 M8 hv => ?_⟩
      refine ⟨(by show 2 ≤ sizeLine; decide), fun t8 nt8 => ?_⟩
      have B28 := B27.trans B8
      have oD8 := B28 _ _ DB oD
      have Dt8 : D ≠ t8 := ne_of_none oD8 nt8
      have lacc : acc.length ≤ i := by
        have z := congrArg List.length ea
        rw [List.length_map, List.length_map, List.length_take] at z
        omega
      have li : i < of.length := (List.getElem?_eq_some_iff.mp eq_).1
      have so := sea.so
      have oD9 : upd H8 t8 (.tup [.int (firstHard (says ns tbl) x of part d q), v]) D = some (.dK acc) := by rw [upd_ne Dt8]; exact oD8
      refine ⟨_, rfl, _, rfl, D, _, rfl, DPut.k (k := Sum.inr q) oD9 (by rw [sizeLine_eq]; omega), ?_⟩
      have out : Sum.inr q ∉ acc.map (·.1) := by
        rw [ea]
        intro m
        obtain ⟨r, hr, e3⟩ := List.mem_map.mp m
        obtain rfl : r = q := Sum.inr.inj e3
        obtain ⟨j, hj, ej⟩ := List.getElem_of_mem hr
        rw [List.length_take] at hj
        rw [List.getElem_take] at ej
        have ji : j = i := (List.getElem_inj (h₀ := by omega) (h₁ := li) nof).mp (by rw [ej]; exact (List.getElem?_eq_some_iff.mp eq_).2.symm)
        omega
      have ep : of.take (i + 1) = of.take i ++ [q] := by rw [List.take_succ, eq_]; rfl
      have free8 : ∀ {b : Addr}, H8 b = none → H b = none := fun h => (B2.trans B28).free M8.isT h
      have free7 : ∀ {b : Addr}, upd H6 e (.dK kvs) b = none → H b = none := fun h => (B2.trans B27).free M7.isT h
      refine ⟨?_, fun b o nb eb => ?_, (M8.same (same_new nt8)).lock oD9 (fun _ z => by cases z) (fun _ z => by cases z), ⟨_, _, _, rfl⟩, putK acc (Sum.inr q) (.ref t8), upd_same, ?_, ?_⟩
      · have oO8 := B28 _ _ noB oO
        rw [upd_ne (fun z => by rw [z, oD8] at oO8; cases oO8), upd_ne (ne_of_none oO8 nt8)]
        exact oO8
      · have e8 := (B2.trans B28) _ _ nb eb
        rw [upd_ne (ne_of_none eb nD), upd_ne (ne_of_none e8 nt8)]
        exact e8
      · rw [put_new out, map_snoc, ea, ep, map_snoc]
      · intro j k u r ej er
        rw [put_new out] at ej
        by_cases hj : j < acc.length
        · rw [List.getElem?_append_left hj] at ej
          refine (hacc j k u r ej er).keep (fun _ z => z) fun b o hb eb no => ?_
          have e8 := B28 _ _ (fun z => by obtain ⟨l, et⟩ := M2.isT; rw [z, et] at eb; exact no _ (Option.some.inj eb).symm) eb
          rw [upd_ne hb.2, upd_ne (ne_of_none e8 nt8)]
          exact e8
        · have la : acc.length = i := by
            have z := congrArg List.length ea
            rw [List.length_map, List.length_map, List.length_take] at z
            omega
          rw [List.getElem?_append_right (by omega)] at ej
          have j0 : j - acc.length = 0 := by
            rcases Nat.eq_zero_or_pos (j - acc.length) with z | z
            · exact z
            · rw [List.getElem?_eq_none (by simp; omega)] at ej; cases ej
          rw [j0] at ej
          cases ej
          have ji : j = i := by omega
          rw [ji, eq_] at er
          cases er
          refine .sq (isT := true) (us := [.int _, v]) ⟨free8 nt8, Dt8.symm⟩ (by rw [upd_ne Dt8.symm, upd_same]; rfl) rfl fun m y t2 e3 e4 => ?_
          match m, e3, e4 with
          | 0, e3, e4 =>
            cases e3
            cases e4
            exact .at_ (.int _)
          | 1, e3, e4 =>
            cases e3
            cases e4
            refine hv.keep (fun b hb => ⟨free7 hb, fun z => by rw [z, B27 _ _ DB oD] at hb; cases hb⟩) fun b o hb eb _ => ?_
            rw [upd_ne (fun z => by rw [z, B27 _ _ DB oD] at hb; cases hb), upd_ne (ne_of_none eb nt8)]
            exact eb
          | m + 2, e3, e4 => cases e3
  · rintro σ H2 ⟨oO, B2, M2, ⟨s4, s5, s6, rfl⟩, acc, oD, ea, hacc⟩
    rw [List.length_map, List.take_length] at ea
    refine ⟨_, rfl, hq H2 _ B2 M2 (.di (es := acc) nD oD ?_ ?_ ?_)⟩
    · rw [ea, List.map_map]
      rfl
    · rw [List.map_map]
      show (of.map fun q => q).Nodup
      rw [List.map_id']
      exact nof
    · intro i k u y t eu et
      rw [List.getElem?_map] at et
      obtain ⟨q, eq_, e2⟩ := Option.map_eq_some_iff.mp et
      cases e2
      exact (hacc i k u _ eu eq_).keep (fun _ z => z.1) fun _ _ _ e _ => e
end
end L2.TB
/-! the checks, both ways: they let through, or an error of their class flies -/
namespace L2.TB
open PySem PySem.Spec PyProof.Rows
structure ErrF (P : Program) (w : World) (K : PySem.W.Frag) (mg : Str → Option Value) (base : Heap) (x : Str) (C : Addr) (fld : Str) : Prop where
  g : mg x = some (.ref C)
  ex : ∃ (fI : Addr) (fd : FuncData) (y : Str), ErrC K C fI fld ∧ FnOk P w K mg base CX0 1 fI fd ["self", y] (spErr K fld) ∧ Binds K fd ["self", y] []
def tRaise (K : PySem.W.Frag) (C : Addr) (fld : Str) (te : TE) (W : WX) : TS := fun _ σ H => tMkO C (spErr K fld) [] (tCons te tNil) σ H fun cls d H' => W cls d σ H'
theorem ps_raiseE {X : Cx} {W : WX} {x fld : Str} {C : Addr} {e : Expr} {te : TE} {p pos pos2 : Pos} (hc : X.calm = true) (tk : Takes X W) (E : ErrF X.prog X.w X.K X.mg X.base x C fld) (hr : Room 2 X.A) (hg : Gl X x) (he : PE X e te)
    (hdb : (x == ("__debug__" : Str)) = false := by decide) (hs : starEach [e] X.env = (false, eval e X.env) :: starEach [] X.env := by rfl) : PS X (.Raise (some (.Call (.Name x p) [e] [] pos)) none pos2) (tRaise X.K C fld te W) := by
  obtain ⟨fI, fd, y, EC, G, b⟩ := E.ex
  exact ps_raise hc tk (pmk_err EC G b hr hg E.g he hdb hs)
theorem Flies.up {P : Program} {w : World} {K : PySem.W.Frag} {mg : Str → Option Value} {base : Heap} {x fld : Str} {C : Addr} {v : V} {H1 : Hp} {Q : XK} (E : ErrF P w K mg base x C fld) (h : Flies C fld v H1 Q) :
    [v].length ≤ 1000 ∧ ∀ a, H1 a = none → spErr K fld (.ref a :: ([v] ++ [])) (upd H1 a (exo a C none))
      (fun v H2 => v = .non ∧ ∃ (d : Addr) (fs : List (Str × V)), H2 a = some (exo a C (some d)) ∧ H2 d = some (exd d fs) ∧ H1 d = none ∧ Q (.ref C) (some d) (upd (del H2 a) d (.xd fs))) (fun _ _ _ => False) := by
  obtain ⟨fI, fd, y, EC, _⟩ := E.ex
  exact Flies.mk EC h
/-- what is asked is no question -/
def BadAsk (K : PySem.W.Frag) (H : Hp) (ns : List Str) (v : V) : Prop := (∃ x, v = .str x ∧ x ∉ ns) ∨ NoStr K H v
theorem BadAsk.same {K : PySem.W.Frag} {H H' : Hp} {ns : List Str} {v : V} (h : BadAsk K H ns v) (s : Same H H') : BadAsk K H' ns v := h.imp id fun h => h.same s
def spCkKX (K : PySem.W.Frag) (CK : Addr) : Sp := fun vs H Q E => ∃ (c : Addr) (ns : List Str) (v : V) (r : Option Nat), vs = [.ref c, v] ∧ H c = some (.lst (ns.map V.str)) ∧ Bad K H ns v r ∧ (r = none → ∀ H', Same H H' → Q .non H') ∧ ∀ i : Nat, r = some i → Flies CK "index" (.int i) H E
def spCkAX (K : PySem.W.Frag) (CQ : Addr) : Sp := fun vs H Q E => ∃ (c : Addr) (ns : List Str) (v : V), vs = [.ref c, v] ∧ SqL K H c (ns.map V.str) ∧ ((∃ x, v = .str x ∧ x ∈ ns ∧ Q .non H) ∨ (BadAsk K H ns v ∧ Flies CQ "name" v H E))
def spCkBX (K : PySem.W.Frag) (CK CQ : Addr) : Sp := fun vs H Q E => ∃ (c : Addr) (ns : List Str) (v x : V) (r : Option Nat), vs = [.ref c, v, x] ∧ H c = some (.lst (ns.map V.str)) ∧ Bad K H ns v r ∧
  ((∃ i : Nat, r = some i ∧ Flies CK "index" (.int i) H E) ∨ (r = none ∧ ((∃ y, x = .str y ∧ y ∈ ns ∧ ∀ H', Same H H' → Q .non H') ∨ (BadAsk K H ns x ∧ Flies CQ "name" x H E))))
section
variable {P : Program} {w : World} {K : PySem.W.Frag} {mg : Str → Option Value} {base : Heap} {f CK CQ aF aL aO aK aA aB : Addr} {fd fdK fdA : FuncData}
theorem ok_ckKX (C : Chk K mg aF aL aO aK aA aB) (EK : ErrF P w K mg base "BadKnown" CK "index") (F : Fun K "check_known" "check_known" sCkK f fd) : FnOk P w K mg base (L2.CX P w) 3 f fd ["names", "known"] (spCkKX K CK) := by
  obtain ⟨fdF, FF⟩ := C.F
  obtain ⟨fdL, FL⟩ := C.L
  obtain ⟨fdO, FO⟩ := C.O
  have G : FnOk P w K mg base CX0 2 aF fdF ["names", "things"] (spFirstG K) := ok_firstG FF FL C.gL FO C.gO C.nI C.nL C.nT C.nS C.nE
  have b := FF.binds (ps := ["names", "things"]) fun _ _ _ _ _ _ us hl => match us, hl with | [_, _], _ => rfl
  refine F.okX scCkK (fun vs H Q E h => by obtain ⟨c, ns, v, r, e, _⟩ := h; rw [e]; rfl) fun cdv A outer s H vs Q E hr hsp => ?_
  obtain ⟨c, ns, v, r, rfl, hc, hB, hq, hf⟩ := hsp
  have nd := scCkK.nd
  refine ⟨_, pss_cons (ps_set (i := 2) nd rfl (Or.inl rfl) (pe_call G hr rfl C.gF FF.kp b .nil pass0 (pa_cons (pv 0) (pa_cons (pv 1) pa_nil))))
    (pss_one (ps_if (pt_cmp (pc_notN (pv 2))) (pss_one (ps_raiseE rfl (takes_of rfl rfl rfl rfl) EK hr rfl (pv 2))) pss_nil)), ?_⟩
  refine ⟨_, rfl, _, rfl, c, ns, v, r, rfl, hc, hB, fun H1 k1 => ?_⟩
  cases r with
  | none => exact ⟨_, rfl, _, rfl, iteF (hq rfl H1 k1)⟩
  | some i => exact ⟨_, rfl, _, rfl, iteT ⟨_, rfl, ((hf i rfl).same k1).up EK⟩⟩
theorem ok_ckAX (C : Chk K mg aF aL aO aK aA aB) (EQ : ErrF P w K mg base "NoQuestion" CQ "name") (F : Fun K "check_asked" "check_asked" sCkA f fd) : FnOk P w K mg base (L2.CX P w) 3 f fd ["names", "asked"] (spCkAX K CQ) := by
  obtain ⟨fdO, FO⟩ := C.O
  have G : FnOk P w K mg base CX0 1 aO fdO ["names", "thing"] (spIsOneG K) := ok_isOneG FO C.nI C.nS
  have b := FO.binds (ps := ["names", "thing"]) fun _ _ _ _ _ _ us hl => match us, hl with | [_, _], _ => rfl
  refine F.okX scCkA (fun vs H Q E h => by obtain ⟨c, ns, x, e, _⟩ := h; rw [e]; rfl) fun cdv A outer s H vs Q E hr hsp => ?_
  obtain ⟨c, ns, v, rfl, hc, hq⟩ := hsp
  refine ⟨_, pss_one (ps_if (pt_not (pt_val (pe_call G (hr.mono (by decide)) rfl C.gO FO.kp b .nil pass0 (pa_cons (pv 0) (pa_cons (pv 1) pa_nil))))) (pss_one (ps_raiseE rfl (takes_of rfl rfl rfl rfl) EQ hr rfl (pv 1))) pss_nil), ?_⟩
  refine ⟨_, rfl, _, rfl, c, ns, v, rfl, hc, ?_⟩
  rcases hq with ⟨x, rfl, xin, hq⟩ | ⟨⟨x, rfl, xin⟩ | hN, hf⟩
  · exact .inl ⟨x, rfl, _, rfl, by rw [decide_eq_true xin]; exact iteF hq⟩
  · exact .inl ⟨x, rfl, _, rfl, by rw [decide_eq_false xin]; exact iteT ⟨_, rfl, hf.up EQ⟩⟩
  · exact .inr ⟨hN, _, rfl, iteT ⟨_, rfl, hf.up EQ⟩⟩
theorem ok_ckBX (C : Chk K mg aF aL aO aK aA aB) (EK : ErrF P w K mg base "BadKnown" CK "index") (EQ : ErrF P w K mg base "NoQuestion" CQ "name") (F : Fun K "check_both" "check_both" sCkB f fd) : FnOk P w K mg base (L2.CX P w) 4 f fd ["names", "known", "asked"] (spCkBX K CK CQ) := by
  obtain ⟨fdK, FK⟩ := C.CK
  obtain ⟨fdA, FA⟩ := C.CA
  have GK : FnOk P w K mg base (L2.CX P w) 3 aK fdK ["names", "known"] (spCkKX K CK) := ok_ckKX C EK FK
  have GA : FnOk P w K mg base (L2.CX P w) 3 aA fdA ["names", "asked"] (spCkAX K CQ) := ok_ckAX C EQ FA
  have bK := FK.binds (ps := ["names", "known"]) fun _ _ _ _ _ _ us hl => match us, hl with | [_, _], _ => rfl
  have bA := FA.binds (ps := ["names", "asked"]) fun _ _ _ _ _ _ us hl => match us, hl with | [_, _], _ => rfl
  refine F.okX scCkB (fun vs H Q E h => by obtain ⟨c, ns, v, x, r, e, _⟩ := h; rw [e]; rfl) fun cdv A outer s H vs Q E hr hsp => ?_
  obtain ⟨c, ns, v, x, r, rfl, hc, hB, hq⟩ := hsp
  refine ⟨_, pss_cons (ps_expr (pe_callS GK hr rfl C.gCK FK.kp bK (fun σ => passAt (takes_of rfl rfl rfl rfl) σ) (pa_cons (pv 0) (pa_cons (pv 1) pa_nil))))
    (pss_one (ps_expr (pe_callS GA hr rfl C.gCA FA.kp bA (fun σ => passAt (takes_of rfl rfl rfl rfl) σ) (pa_cons (pv 0) (pa_cons (pv 2) pa_nil))))), ?_⟩
  refine ⟨_, rfl, _, rfl, c, ns, v, r, rfl, hc, hB, fun er H1 k1 => ?_, fun i er => ?_⟩
  · rcases hq with ⟨i, e2, _⟩ | ⟨_, hq⟩
    · rw [er] at e2; cases e2
    · refine ⟨_, rfl, _, rfl, c, ns, x, rfl, SqL.of (k1 _ _ hc), ?_⟩
      rcases hq with ⟨y, rfl, yin, hq⟩ | ⟨hb, hf⟩
      · exact .inl ⟨y, rfl, yin, hq H1 k1⟩
      · exact .inr ⟨hb.same k1, hf.same k1⟩
  · rcases hq with ⟨j, e2, hf⟩ | ⟨e2, _⟩
    · rw [er] at e2; cases e2; exact hf
    · rw [er] at e2; cases e2
end
end L2.TB
/-! asked_files: the questions that may be put, or an error -/
namespace L2.TB
open PySem PySem.Spec PyProof.Rows
def spAskF (K : PySem.W.Frag) (CT CQ CK : Addr) : Sp := fun vs H Q E => ∃ (t : Addr) (x o : V) (ns : List Str) (tbl : List (List Int)), vs = [.ref t, x, o] ∧ TabAt H CT t ns tbl ∧ ns.length < 1000 ∧
  ((BadAsk K H ns x ∧ Flies CQ "name" x H E) ∨ ∃ y, x = .str y ∧ y ∈ ns ∧
    ((o = .non ∧ ∀ H' q, H q = none → Same H H' → H' q = some (.lst ((ns.filter fun z => decide (z ≠ y)).map V.str)) → Q (.ref q) H') ∨ (∃ i : Nat, o ≠ .non ∧ Bad K H ns o (some i) ∧ Flies CK "index" (.int i) H E) ∨
      (∃ (b : Addr) (xs : List V), o = .ref b ∧ SqA K H b xs ∧ Bad K H ns o none ∧ ∀ H' q, H q = none → Same H H' → H' q = some (.lst xs) → Q (.ref q) H')))
abbrev NAf : List Str := ["field", "asked", "of", "names", "name"]
theorem scAf : FnScope NAf ["field", "asked", "of"] (defScope sAskF) := ⟨rfl, rfl, rfl, by decide +kernel, rfl, by decide +kernel, by decide +kernel⟩
section
variable {P : Program} {w : World} {K : PySem.W.Frag} {mg : Str → Option Value} {base : Heap} {f CT CQ CK fQ aF aL aO aK aA aB : Addr} {fd fdQ : FuncData}
theorem ok_askF (F : Fun K "asked_files" "asked_files" sAskF f fd) (T : TabC K CT) (FQ : Fun K "questions" "Table.questions" sQs fQ fdQ) (mQ : Meth K CT "questions" fQ) (Ck : Chk K mg aF aL aO aK aA aB) (EK : ErrF P w K mg base "BadKnown" CK "index") (EQ : ErrF P w K mg base "NoQuestion" CQ "name") (gL : mg "list" = none) :
    FnOk P w K mg base (L2.CX P w) 4 f fd ["field", "asked", "of"] (spAskF K CT CQ CK) := by
  obtain ⟨fdK, FK⟩ := Ck.CK
  obtain ⟨fdA, FA⟩ := Ck.CA
  have GK : FnOk P w K mg base (L2.CX P w) 3 aK fdK ["names", "known"] (spCkKX K CK) := ok_ckKX Ck EK FK
  have GA : FnOk P w K mg base (L2.CX P w) 3 aA fdA ["names", "asked"] (spCkAX K CQ) := ok_ckAX Ck EQ FA
  have GQ : FnOk P w K mg base CX0 1 fQ fdQ ["self"] (spQs K CT) := ok_qs FQ T gL
  have bQ := FQ.binds (ps := ["self"]) fun _ _ _ _ _ _ us hl => match us, hl with | [_], _ => rfl
  have bK := FK.binds (ps := ["names", "known"]) fun _ _ _ _ _ _ us hl => match us, hl with | [_, _], _ => rfl
  have bA := FA.binds (ps := ["names", "asked"]) fun _ _ _ _ _ _ us hl => match us, hl with | [_, _], _ => rfl
  refine F.okX scAf (fun vs H Q E h => by obtain ⟨t, x, o, ns, tbl, e, _⟩ := h; rw [e]; rfl) fun cdv A outer s H vs Q E hr hsp => ?_
  obtain ⟨t, x, o, ns, tbl, rfl, tab, sh, hc⟩ := hsp
  have nd := scAf.nd
  refine ⟨_, pss_cons (ps_set (i := 3) nd rfl (Or.inl rfl) (pe_meth0 (pv 0) T.cl mQ GQ (hr.mono (by decide)) bQ .nil pass0 rfl))
    (pss_cons (ps_expr (pe_callS GA hr rfl Ck.gCA FA.kp bA (fun σ => passAt (takes_of rfl rfl rfl rfl) σ) (pa_cons (pv 3) (pa_cons (pv 1) pa_nil))))
    (pss_cons (ps_if (pt_cmp (pc_isN (pv 2))) (pss_one (ps_ret (pe_lc (own := [("name", 4)]) (g := gName 4) rfl nd (pi_seq (pv 3)) (blkOk_by (N := NAf) (sc := defScope sAskF) (by decide +kernel)) (fun _ _ _ _ _ => pg_name (i := 4) nd rfl (Or.inl rfl)) (fun _ _ _ _ _ => pts_one (pt_cmpR op_ne (pv 4) (pv 1) (nomark _))) (fun _ _ _ _ _ => pv 4)))) pss_nil)
    (pss_cons (ps_expr (pe_callS GK hr rfl Ck.gCK FK.kp bK (fun σ => passAt (takes_of rfl rfl rfl rfl) σ) (pa_cons (pv 3) (pa_cons (pv 2) pa_nil))))
    (pss_one (ps_ret (pe_callTy call_list_of rfl gL boot_list' (pa_cons (pv 2) pa_nil))))))), ?_⟩
  obtain ⟨dx, qa, ra, ha, hqa, hra⟩ := id tab.ex
  refine ⟨_, rfl, t, dx, _, rfl, ha, rfl, ?_⟩
  unfold tNil
  show spQs K CT _ _ _ _
  refine ⟨t, ns, tbl, rfl, tab, fun H1 q nq oq k1 => ?_⟩
  refine ⟨_, rfl, _, rfl, q, ns, x, rfl, SqL.of oq, ?_⟩
  rcases hc with ⟨bad, fl⟩ | ⟨y, rfl, yin, hc⟩
  · exact .inr ⟨bad.same k1, fl.same k1⟩
  · refine .inl ⟨y, rfl, yin, ?_⟩
    rcases hc with ⟨rfl, hq⟩ | ⟨i, on, bad, fl⟩ | ⟨b, xs, rfl, hb, good, hq⟩
    · refine ⟨_, rfl, _, rfl, iteT ?_⟩
      refine ⟨_, rfl, lc_seq (.inl rfl) oq (by rw [List.length_map]; omega) (isStr fun z => decide (z ≠ y)) id ?_ ?_⟩
      · intro i v H2 Cn Nn ev s2 yes no
        rw [List.getElem?_map] at ev
        obtain ⟨z, ez, rfl⟩ := Option.map_eq_some_iff.mp ev
        refine ⟨rfl, _, rfl, _, rfl, rfl, ?_⟩
        by_cases h : z = y
        · exact ⟨false, congrArg V.bl (by rw [h]; simp), iteF (no (decide_eq_false fun c => c h) H2 (Same.refl _))⟩
        · exact ⟨true, congrArg V.bl (by rw [decide_eq_false (fun c => h (V.str.inj c))]; rfl), iteT ⟨_, rfl, yes (decide_eq_true h) H2 (Same.refl _)⟩⟩
      · intro H2 l nl ol s2
        rw [filter_strs] at ol
        exact hq H2 l (k1.free nl) (k1.trans s2) ol
    · refine ⟨_, rfl, false, congrArg V.bl (decide_eq_false on), iteF ?_⟩
      exact ⟨_, rfl, _, rfl, q, ns, o, some i, rfl, oq, bad.same k1, (fun e => (by cases e)), fun j ej => (by cases ej; exact fl.same k1)⟩
    · refine ⟨_, rfl, _, rfl, iteF ?_⟩
      refine ⟨_, rfl, _, rfl, q, ns, .ref b, none, rfl, oq, good.same k1, (fun _ H2 k2 => ?_), fun j ej => (by cases ej)⟩
      exact ⟨_, rfl, b, xs, rfl, (hb.same (k1.trans k2)).imp SqL.of SqT.of, fun l nl => hq _ l ((k1.trans k2).free nl) ((k1.trans k2).trans (same_new nl)) upd_same⟩
end
end L2.TB
/-! is_integer and is_count of anything -/
namespace L2.TB
open PySem PySem.Spec PyProof.Rows
/-- no whole number -/
inductive NoInt (K : PySem.W.Frag) (H : Hp) : V → Prop
  | bl (b : Bool) : NoInt K H (.bl b)
  | ty {v : V} {t : String} (h : TyX K H v (.type t)) (k : kitB t "int" = some false) : NoInt K H v
theorem NoInt.same {K : PySem.W.Frag} {H H' : Hp} {v : V} (h : NoInt K H v) (s : Same H H') : NoInt K H' v := by
  cases h with
  | bl b => exact .bl b
  | ty h k => exact .ty (ty_same h s) k
def spIsIntG (K : PySem.W.Frag) : Sp := fun vs H Q _ => ∃ v : V, vs = [v] ∧ ((∃ k, v = .int k ∧ Q (.bl true) H) ∨ (NoInt K H v ∧ Q (.bl false) H))
def spIsCountG (K : PySem.W.Frag) : Sp := fun vs H Q _ => ∃ v : V, vs = [v] ∧ ((∃ k : Int, v = .int k ∧ Q (.bl (decide (0 ≤ k))) H) ∨ (NoInt K H v ∧ Q (.bl false) H))
theorem scIsCount : FnScope ["thing"] ["thing"] (defScope sIsCount) := ⟨rfl, rfl, rfl, by decide +kernel, rfl, by decide +kernel, by decide +kernel⟩
/-- no count -/
def BadCnt (K : PySem.W.Frag) (H : Hp) (v : V) : Prop := (∃ k : Int, v = .int k ∧ k < 0) ∨ NoInt K H v
theorem BadCnt.same {K : PySem.W.Frag} {H H' : Hp} {v : V} (h : BadCnt K H v) (s : Same H H') : BadCnt K H' v := h.imp id fun h => h.same s
section
variable {P : Program} {w : World} {K : PySem.W.Frag} {mg : Str → Option Value} {base : Heap} {f fCt fI' C CH CQ CN CB fQ fI fPl fPr aF aL aO aK aA aB : Addr} {fd fdCt fdI : FuncData}
theorem ok_isIntG (F : Fun K "is_integer" "is_integer" sIsInt f fd) (gI : mg "isinstance" = none) (gInt : mg "int" = none) (gB : mg "bool" = none) : FnOk P w K mg base CX0 1 f fd ["thing"] (spIsIntG K) := by
  refine F.ok scIsInt (fun vs H Q E h => by obtain ⟨k, e, _⟩ := h; rw [e]; rfl) fun cdv A outer s H vs Q E hr hsp => ?_
  obtain ⟨v, rfl, hq⟩ := hsp
  refine ⟨_, pss_one (ps_ret (pe_and (pe_callB (r := rIsi K) call_isi rfl gI boot_isi (pa_cons (pv 0) (pa_cons (pe_bltn (v := .ty "int") rfl gInt boot_int' rfl) pa_nil)))
    (pe_one (pe_not (pe_callB (r := rIsi K) call_isi rfl gI boot_isi (pa_cons (pv 0) (pa_cons (pe_bltn (v := .ty "bool") rfl gB boot_bool' rfl) pa_nil))))))), ?_⟩
  rcases hq with ⟨k, rfl, hq⟩ | ⟨hn, hq⟩
  · exact ⟨_, rfl, _, _, _, _, true, rfl, .ty _, .base (.int k), kit_ty (by decide +kernel), true, rfl, iteT ⟨_, rfl, _, _, _, _, false, rfl, .ty _, .base (.int k), kit_ty (by decide +kernel), false, rfl, hq⟩⟩
  · cases hn with
    | bl b => exact ⟨_, rfl, _, _, _, _, true, rfl, .ty _, .base (.bl b), kit_ty (by decide +kernel), true, rfl, iteT ⟨_, rfl, _, _, _, _, true, rfl, .ty _, .base (.bl b), kit_ty (by decide +kernel), true, rfl, hq⟩⟩
    | ty h k => exact ⟨_, rfl, _, _, _, _, false, rfl, .ty _, h, kit_ty k, false, rfl, iteF hq⟩
theorem ok_isCountG (F : Fun K "is_count" "is_count" sIsCount f fd) (FI : Fun K "is_integer" "is_integer" sIsInt fI fdI) (gI : mg "is_integer" = some (.ref fI)) (nI : mg "isinstance" = none) (nInt : mg "int" = none) (nB : mg "bool" = none) : FnOk P w K mg base CX0 2 f fd ["thing"] (spIsCountG K) := by
  have GI : FnOk P w K mg base CX0 1 fI fdI ["thing"] (spIsIntG K) := ok_isIntG FI nI nInt nB
  have bI := FI.binds (ps := ["thing"]) fun _ _ _ _ _ _ us hl => match us, hl with | [_], _ => rfl
  refine F.ok scIsCount (fun vs H Q E h => by obtain ⟨k, e, _⟩ := h; rw [e]; rfl) fun cdv A outer s H vs Q E hr hsp => ?_
  obtain ⟨v, rfl, hq⟩ := hsp
  refine ⟨_, pss_one (ps_ret (pe_and (pe_call GI hr rfl gI FI.kp bI .nil pass0 (pa_cons (pv 0) pa_nil)) (pe_one (pe_cmpR op_ge (pv 0) pe_int (nomark _))))), ?_⟩
  rcases hq with ⟨k, rfl, hq⟩ | ⟨hn, hq⟩
  · exact ⟨_, rfl, _, rfl, .inl ⟨k, rfl, _, rfl, iteT ⟨_, rfl, _, _, rfl, rfl, hq⟩⟩⟩
  · exact ⟨_, rfl, _, rfl, .inr ⟨hn, _, rfl, iteF hq⟩⟩
end
end L2.TB
/-! a search made anew; hold -/
namespace L2.TB
open PySem PySem.Spec PyProof.Rows
theorem sea_new {wa : Addr} {ws : Option (List Int)} {C x dx rL bs q : Addr} {as : List Addr} {H1 H3 : Hp} {ns : List Str} {tbl : List (List Int)} {y : Str} {of : List Str} (nx : H1 x = none) (ndx : H1 dx = none) (nbs : upd (upd H1 dx (.own x)) x (.ins C dx []) bs = none)
    (o1 : H3 x = some (.ins C dx (seaF rL (.str y) (.ref q) (wtV wa ws) bs))) (o2 : H3 rL = some (.lst (as.map V.ref))) (o3 : DRows H3 ns as tbl) (o4 : H3 bs = some (.dT [])) (keep : ∀ b o, b ≠ x → upd (upd H1 dx (.own x)) x (.ins C dx []) b = some o → H3 b = some o)
    (oq : H1 q = some (.lst (of.map V.str))) (nd : ns.Nodup) (yin : y ∈ ns) (sub : ∀ z ∈ of, z ∈ ns) (st : tbl.length < 1000) (so : of.length < 1000) (wok : WtOk H1 wa ws tbl.length) : Same H1 H3 ∧ SeaAt wa ws H3 C x ns tbl y of bs ∧ MemoAt ws H3 bs (says ns tbl) y of tbl.length ∧ H1 bs = none := by
  have k : Same H1 H3 := fun b o e => keep b o (ne_of_none e nx) (by rw [upd_ne (ne_of_none e nx), upd_ne (ne_of_none e ndx)]; exact e)
  have bx : bs ≠ x := fun z => by rw [z, upd_same] at nbs; cases nbs
  have bd : bs ≠ dx := fun z => by rw [upd_ne bx, z, upd_same] at nbs; cases nbs
  refine ⟨k, ⟨⟨dx, rL, q, as, o1, o2, o3, k _ _ oq⟩, nd, yin, sub, st, so, fun l e => ⟨k _ _ (wok l e).1, (wok l e).2⟩⟩, ⟨[], o4, by simp, fun k v h => by cases h⟩, ?_⟩
  rw [upd_ne bx, upd_ne bd] at nbs
  exact nbs
/-- hold, for three at most -/
def spHoldA (C : Addr) : Sp := fun vs H Q E => ∃ d, d ≤ 4 ∧ spHold C d vs H Q E
/-- what the functions know of Search and of the table -/
structure SeaP (P : Program) (w : World) (K : PySem.W.Frag) (mg : Str → Option Value) (base : Heap) (CT C CQ CK CN : Addr) : Prop where
  gS : mg "Search" = some (.ref C)
  c : SeaC K C
  mkr : ∃ fI fd, Mk K C fI ∧ FnOk P w K mg base CX0 3 fI fd NSi (spSInit CT C) ∧ Binds K fd NSi []
  wh : ∃ f fd, Meth K C "whole" f ∧ FnOk P w K mg base CX0 1 f fd ["self"] (spWhole 0 none C) ∧ Binds K fd ["self"] []
  hard : ∃ f fd, Meth K C "is_hard" f ∧ FnOk P w K mg base CX0 32 f fd ["self", "part", "depth"] (spIsHard C 10) ∧ Binds K fd ["self", "part", "depth"] []
  hold : ∃ f fd, Meth K C "hold" f ∧ FnOk P w K mg base CX0 36 f fd ["self", "part", "depth"] (spHoldA C) ∧ Binds K fd ["self", "part", "depth"] []
  af : ∃ f fd, mg "asked_files" = some (.ref f) ∧ PySem.W.keepIn K (.ref f) = true ∧ FnOk P w K mg base (L2.CX P w) 4 f fd ["field", "asked", "of"] (spAskF K CT CQ CK) ∧ Binds K fd ["field", "asked", "of"] []
  ct : ∃ f fd, mg "is_count" = some (.ref f) ∧ PySem.W.keepIn K (.ref f) = true ∧ FnOk P w K mg base CX0 2 f fd ["thing"] (spIsCountG K) ∧ Binds K fd ["thing"] []
  EN : ErrF P w K mg base "BadNumber" CN "thing"
abbrev FunF (K : PySem.W.Frag) (x : Str) (st : Stmt) (f : Addr) (fd : FuncData) : Prop := FunD K x x (defArgs st) (defBody st) (defScope st) [.non] [] f fd
/-- names that may be put: a list or a tuple of some, each once -/
structure OfAt (K : PySem.W.Frag) (H : Hp) (ns : List Str) (o : V) (of : List Str) : Prop where
  ex : ∃ b, o = .ref b ∧ SqA K H b (of.map V.str)
  good : Bad K H ns o none
  sub : ∀ z ∈ of, z ∈ ns
  nd : of.Nodup
  sh : of.length < 1000
/-- the questions that may be put: all others, or some of them -/
def OfIs (K : PySem.W.Frag) (H : Hp) (ns : List Str) (y : Str) (o : V) (of : List Str) : Prop := OfAt K H ns o of ∨ (o = .non ∧ of = ns.filter fun z => decide (z ≠ y))
theorem OfIs.facts {K : PySem.W.Frag} {H : Hp} {ns : List Str} {y : Str} {o : V} {of : List Str} (h : OfIs K H ns y o of) (nd : ns.Nodup) (sh : ns.length < 1000) : (∀ z ∈ of, z ∈ ns) ∧ of.length < 1000 ∧ of.Nodup := by
  rcases h with O | ⟨_, rfl⟩
  · exact ⟨O.sub, O.sh, O.nd⟩
  · exact ⟨fun z hz => (List.mem_filter.mp hz).1, Nat.lt_of_le_of_lt (List.length_filter_le _ _) sh, nd.filter _⟩
def spHoldF (K : PySem.W.Frag) (CT CQ CK CN : Addr) : Sp := fun vs H Q E => ∃ (t : Addr) (x n o : V) (ns : List Str) (tbl : List (List Int)), vs = [.ref t, x, n, o] ∧ TabAt H CT t ns tbl ∧ ns.Nodup ∧ ns.length < 1000 ∧ 0 < tbl.length ∧ tbl.length ≤ 10 ∧
  ((BadAsk K H ns x ∧ Flies CQ "name" x H E) ∨ ∃ y, x = .str y ∧ y ∈ ns ∧ ((∃ i : Nat, o ≠ .non ∧ Bad K H ns o (some i) ∧ Flies CK "index" (.int i) H E) ∨ ∃ of, OfIs K H ns y o of ∧
    ((BadCnt K H n ∧ Flies CN "thing" n H E) ∨ ∃ d : Nat, d ≤ 4 ∧ n = .int d ∧ (hardP (bestS none (says ns tbl) y of (List.range tbl.length)).1 d = false → ∀ H', Same H H' → Q .non H') ∧
      (hardP (bestS none (says ns tbl) y of (List.range tbl.length)).1 d = true → ∀ H' v, Same H H' → HdAt (fun b => H b = none) H' (holdT (says ns tbl) y of d (List.range tbl.length)) v → Q v H'))))
abbrev NHf : List Str := ["table", "asked", "n", "of", "search", "part"]
theorem scHf : FnScope NHf ["table", "asked", "n", "of"] (defScope sHoldF) := ⟨rfl, rfl, rfl, by decide +kernel, rfl, by decide +kernel, by decide +kernel⟩
section
variable {P : Program} {w : World} {K : PySem.W.Frag} {mg : Str → Option Value} {base : Heap} {f CT C CQ CK CN : Addr} {fd : FuncData}
theorem ok_holdF (F : FunF K "hold" sHoldF f fd) (S : SeaP P w K mg base CT C CQ CK CN) : FnOk P w K mg base (L2.CX P w) 38 f fd ["table", "asked", "n", "of"] (spHoldF K CT CQ CK CN) := by
  obtain ⟨fI, fdI, Mk, GI, bI⟩ := S.mkr
  obtain ⟨fW, fdW, mW, GW, bW⟩ := S.wh
  obtain ⟨fH, fdH, mH, GH, bH⟩ := S.hard
  obtain ⟨fO, fdO, mO, GO, bO⟩ := S.hold
  obtain ⟨fA, fdA, gA, kA, GA, bA⟩ := S.af
  obtain ⟨fC, fdC, gC, kC, GC, bC⟩ := S.ct
  refine FunD.ok F scHf (fun vs H Q E h => by obtain ⟨t, x, n, o, ns, tbl, e, _⟩ := h; rw [e]; rfl) fun cdv A outer s H vs Q E hr hsp => ?_
  obtain ⟨t, x, n, o, ns, tbl, rfl, tab, nnd, nsh, pos, few, hc⟩ := hsp
  have nd := scHf.nd
  refine ⟨_, pss_cons (ps_set (i := 4) nd rfl (Or.inl rfl) (pe_make Mk GI (hr.mono (by decide)) rfl S.gS bI .nil pass0 (pa_cons (pv 0) (pa_cons (pv 1) (pa_cons (pe_callS GA (hr.mono (by decide)) rfl gA kA bA (fun σ => passAt (takes_of rfl rfl rfl rfl) σ) (pa_cons (pv 0) (pa_cons (pv 1) (pa_cons (pv 3) pa_nil)))) (pa_cons pe_non pa_nil))))))
    (pss_cons (ps_if (pt_not (pt_val (pe_call GC (hr.mono (by decide)) rfl gC kC bC .nil pass0 (pa_cons (pv 2) pa_nil)))) (pss_one (ps_raiseE rfl (takes_of rfl rfl rfl rfl) S.EN (hr.mono (by decide)) rfl (pv 2))) pss_nil)
    (pss_cons (ps_set (i := 5) nd rfl (Or.inl rfl) (pe_meth0 (pv 4) S.c.cl mW GW (hr.mono (by decide)) bW .nil pass0 rfl))
    (pss_cons (ps_if (pt_not (pt_val (pe_meth (pv 4) S.c.cl mH GH (hr.mono (by decide)) bH .nil pass0 (pa_cons (pv 5) (pa_cons (pv 2) pa_nil))))) (pss_one (ps_ret pe_non)) pss_nil)
    (pss_one (ps_ret (pe_meth (pv 4) S.c.cl mO GO (hr.mono (by decide)) bO .nil pass0 (pa_cons (pv 5) (pa_cons (pv 2) pa_nil)))))))), ?_⟩
  refine ⟨_, rfl, _, rfl, _, rfl, _, rfl, _, rfl, t, x, o, ns, tbl, rfl, tab, nsh, ?_⟩
  rcases hc with ⟨bad, fl⟩ | ⟨y, rfl, yin, hc⟩
  · exact .inl ⟨bad, fl⟩
  · refine .inr ⟨y, rfl, yin, ?_⟩
    rcases hc with ⟨i, on, bad, fl⟩ | ⟨of, O, hc⟩
    · exact .inr (.inl ⟨i, on, bad, fl⟩)
    · obtain ⟨osub, osh, ond⟩ := O.facts nnd nsh
      rcases O with O | ⟨eo, rfl⟩
      rotate_left
      · refine .inl ⟨eo, fun H1 q nq k1 oq => ?_⟩
        intro a dx na ndx ne
        refine ⟨a, dx, t, _, _, _, ns, tbl, rfl, upd_same, ?_, nnd, nsh, by omega, fun H3 rL bs as nrL nbs o1 o2 o3 o4 keep => ⟨rfl, ?_⟩⟩
        · exact (tab.same k1).same fun b o e => by rw [upd_ne (ne_of_none e na), upd_ne (ne_of_none e ndx)]; exact e
        obtain ⟨k13, sea, memo, nbs1⟩ := sea_new (wa := 0) (ws := none) na ndx nbs o1 o2 o3 o4 keep oq nnd yin osub (by omega) osh (fun _ e => by cases e)
        have k03 := k1.trans k13
        have nbs0 : H bs = none := k1.free nbs1
        have fromB : ∀ {H' : Hp}, ButB bs H3 H' → Same H H' := fun B b o e => B _ _ (ne_of_none e nbs0) (k03 _ _ e)
        obtain ⟨dx', rL', oL', as', h1, _, _, _⟩ := id sea.ex
        rcases hc with ⟨bad, fl⟩ | ⟨d, dl, rfl, no, yes⟩
        · refine ⟨_, rfl, n, rfl, ?_⟩
          have fl3 := fl.same k03
          rcases bad with ⟨k, rfl, neg⟩ | bad
          · exact .inl ⟨k, rfl, _, rfl, by rw [decide_eq_false (by omega)]; exact iteT ⟨_, rfl, fl3.up S.EN⟩⟩
          · exact .inr ⟨bad.same k03, _, rfl, iteT ⟨_, rfl, fl3.up S.EN⟩⟩
        · refine ⟨_, rfl, .int d, rfl, .inl ⟨d, rfl, _, rfl, ?_⟩⟩
          rw [decide_eq_true (show (0 : Int) ≤ (d : Int) by omega)]
          refine iteF ?_
          refine ⟨_, rfl, a, dx', _, rfl, h1, rfl, ?_⟩
          unfold tNil
          show spWhole 0 none C _ _ _ _
          refine ⟨a, bs, ns, tbl, y, _, rfl, sea, fun H4 p k34 pt => ?_⟩
          have sea4 := sea.same k34
          have memo4 := memo.same k34
          refine ⟨_, rfl, a, dx', _, rfl, k34 _ _ h1, rfl, _, rfl, _, rfl, a, p, bs, ns, tbl, y, _, List.range tbl.length, d, rfl, sea4, memo4, pt.1, List.Sublist.refl _, by rw [List.length_range]; exact pos, by rw [List.length_range]; exact few, few, fun H5 B45 M5 => ?_⟩
          have B35 := (ButB.of k34).trans B45
          refine ⟨_, rfl, ?_⟩
          cases hh : hardP (bestS none (says ns tbl) y _ (List.range tbl.length)).1 d with
          | false => exact iteT (no hh H5 (fromB B35))
          | true =>
            refine iteF ?_
            have nbp : p ≠ bs := fun z => by have e := pt.1; obtain ⟨l, et⟩ := memo4.isT; rw [z, et] at e; cases e
            have nba : a ≠ bs := fun z => by have e := k34 _ _ h1; obtain ⟨l, et⟩ := memo4.isT; rw [z, et] at e; cases e
            refine ⟨_, rfl, a, dx', _, rfl, B45 _ _ nba (k34 _ _ h1), rfl, _, rfl, _, rfl, d, dl, a, p, bs, ns, tbl, y, _, List.range tbl.length, rfl, sea4.but memo4.isT B45, M5, B45 _ _ nbp pt.1, List.Sublist.refl _, by rw [List.length_range]; exact pos, few, ond, hh, fun H6 v B56 M6 hv => ?_⟩
            exact yes hh H6 v (fromB (B35.trans B56)) (hv.keep (fun b hb => k03.free ((ButB.of k34).trans B45 |>.free M5.isT hb)) fun b o _ e _ => e)
      · obtain ⟨b, eb, hb⟩ := O.ex
        refine .inr (.inr ⟨b, _, eb, hb, O.good, fun H1 q nq k1 oq => ?_⟩)
        intro a dx na ndx ne
        refine ⟨a, dx, t, _, _, _, ns, tbl, rfl, upd_same, ?_, nnd, nsh, by omega, fun H3 rL bs as nrL nbs o1 o2 o3 o4 keep => ⟨rfl, ?_⟩⟩
        · exact (tab.same k1).same fun b o e => by rw [upd_ne (ne_of_none e na), upd_ne (ne_of_none e ndx)]; exact e
        obtain ⟨k13, sea, memo, nbs1⟩ := sea_new (wa := 0) (ws := none) na ndx nbs o1 o2 o3 o4 keep oq nnd yin osub (by omega) osh (fun _ e => by cases e)
        have k03 := k1.trans k13
        have nbs0 : H bs = none := k1.free nbs1
        have fromB : ∀ {H' : Hp}, ButB bs H3 H' → Same H H' := fun B b o e => B _ _ (ne_of_none e nbs0) (k03 _ _ e)
        obtain ⟨dx', rL', oL', as', h1, _, _, _⟩ := id sea.ex
        rcases hc with ⟨bad, fl⟩ | ⟨d, dl, rfl, no, yes⟩
        · refine ⟨_, rfl, n, rfl, ?_⟩
          have fl3 := fl.same k03
          rcases bad with ⟨k, rfl, neg⟩ | bad
          · exact .inl ⟨k, rfl, _, rfl, by rw [decide_eq_false (by omega)]; exact iteT ⟨_, rfl, fl3.up S.EN⟩⟩
          · exact .inr ⟨bad.same k03, _, rfl, iteT ⟨_, rfl, fl3.up S.EN⟩⟩
        · refine ⟨_, rfl, .int d, rfl, .inl ⟨d, rfl, _, rfl, ?_⟩⟩
          rw [decide_eq_true (show (0 : Int) ≤ (d : Int) by omega)]
          refine iteF ?_
          refine ⟨_, rfl, a, dx', _, rfl, h1, rfl, ?_⟩
          unfold tNil
          show spWhole 0 none C _ _ _ _
          refine ⟨a, bs, ns, tbl, y, of, rfl, sea, fun H4 p k34 pt => ?_⟩
          have sea4 := sea.same k34
          have memo4 := memo.same k34
          refine ⟨_, rfl, a, dx', _, rfl, k34 _ _ h1, rfl, _, rfl, _, rfl, a, p, bs, ns, tbl, y, of, List.range tbl.length, d, rfl, sea4, memo4, pt.1, List.Sublist.refl _, by rw [List.length_range]; exact pos, by rw [List.length_range]; exact few, few, fun H5 B45 M5 => ?_⟩
          have B35 := (ButB.of k34).trans B45
          refine ⟨_, rfl, ?_⟩
          cases hh : hardP (bestS none (says ns tbl) y of (List.range tbl.length)).1 d with
          | false => exact iteT (no hh H5 (fromB B35))
          | true =>
            refine iteF ?_
            have nbp : p ≠ bs := fun z => by have e := pt.1; obtain ⟨l, et⟩ := memo4.isT; rw [z, et] at e; cases e
            have nba : a ≠ bs := fun z => by have e := k34 _ _ h1; obtain ⟨l, et⟩ := memo4.isT; rw [z, et] at e; cases e
            refine ⟨_, rfl, a, dx', _, rfl, B45 _ _ nba (k34 _ _ h1), rfl, _, rfl, _, rfl, d, dl, a, p, bs, ns, tbl, y, of, List.range tbl.length, rfl, sea4.but memo4.isT B45, M5, B45 _ _ nbp pt.1, List.Sublist.refl _, by rw [List.length_range]; exact pos, few, ond, hh, fun H6 v B56 M6 hv => ?_⟩
            exact yes hh H6 v (fromB (B35.trans B56)) (hv.keep (fun b hb => k03.free ((ButB.of k34).trans B45 |>.free M5.isT hb)) fun b o _ e _ => e)
end
end L2.TB
/-! looks at a thing; what a hold has to be -/
namespace L2.TB
open PySem PySem.Spec PyProof.Rows
theorem seq_sqA {K : PySem.W.Frag} {H : Hp} {a : Addr} {b : Bool} {us : List V} (h : H a = some (seqO b us)) : SqA K H a us := by
  cases b with
  | true => exact .inr h
  | false => exact .inl h
def isSqT : Hd → Bool
  | .sq _ _ => true
  | _ => false
def isPairT : Hd → Bool
  | .sq _ l => decide (l.length = 2)
  | _ => false
def isIntT : Hd → Option Int
  | .at_ (.int z) => some z
  | _ => none
theorem hd_list {A : Addr → Prop} {K : PySem.W.Frag} {H : Hp} {t : Hd} {v : V} (h : HdAt A H t v) : (isSqT t = true ∧ ∃ a xs, v = .ref a ∧ SqA K H a xs) ∨ (isSqT t = false ∧ NoSeq K H v) := by
  cases h with
  | at_ h =>
    obtain ⟨t, e, _, h2, h3⟩ := atom_ty h K H
    exact .inr ⟨rfl, t, e, h2, h3⟩
  | sq ok h len al => exact .inl ⟨rfl, _, _, rfl, seq_sqA h⟩
  | di ok h ks nd al => exact .inr ⟨rfl, _, .base (.dK h), by decide +kernel, by decide +kernel⟩
theorem hd_int {A : Addr → Prop} {K : PySem.W.Frag} {H : Hp} {t : Hd} {v : V} (h : HdAt A H t v) : (∃ z, isIntT t = some z ∧ v = .int z) ∨ (isIntT t = none ∧ NoInt K H v) := by
  cases h with
  | at_ h =>
    cases h with
    | int i => exact .inl ⟨i, rfl, rfl⟩
    | bl b => exact .inr ⟨rfl, .bl b⟩
    | str x => exact .inr ⟨rfl, .ty (.base (.str x)) (by decide +kernel)⟩
    | non => exact .inr ⟨rfl, .ty (.base .non) (by decide +kernel)⟩
  | @sq a isT us l ok h len al =>
    cases isT with
    | true => exact .inr ⟨rfl, .ty (.base (.tup h)) (by decide +kernel)⟩
    | false => exact .inr ⟨rfl, .ty (.base (.lst h)) (by decide +kernel)⟩
  | di ok h ks nd al => exact .inr ⟨rfl, .ty (.base (.dK h)) (by decide +kernel)⟩
/-- whether it is a dict, and which -/
theorem hd_dict {A : Addr → Prop} {K : PySem.W.Frag} {H : Hp} {t : Hd} {v : V} (h : HdAt A H t v) : (∃ kvs a es, t = .di kvs ∧ v = .ref a ∧ A a ∧ H a = some (.dK es) ∧ (es.map (·.1) = kvs.map fun e => Sum.inr e.1) ∧ (kvs.map (·.1)).Nodup ∧ ∀ (i : Nat) (k : Key) (u : V) (x : Str) (t : Hd), es[i]? = some (k, u) → kvs[i]? = some (x, t) → HdAt A H t u) ∨
    ((∀ kvs, t ≠ .di kvs) ∧ ∃ ty : String, TyX K H v (.type ty) ∧ kitB ty "dict" = some false) := by
  cases h with
  | at_ h =>
    obtain ⟨t, e, h1, _, _⟩ := atom_ty h K H
    exact .inr ⟨fun _ z => (by cases z), t, e, h1⟩
  | @sq a isT us l ok h len al =>
    cases isT with
    | true => exact .inr ⟨fun _ z => (by cases z), _, .base (.tup h), by decide +kernel⟩
    | false => exact .inr ⟨fun _ z => (by cases z), _, .base (.lst h), by decide +kernel⟩
  | @di a es kvs ok h ks nd al => exact .inl ⟨kvs, a, es, rfl, rfl, ok, h, ks, nd, al⟩
def lookT : List (Str × Hd) → Str → Option Hd
  | [], _ => none
  | (x, t) :: r, q => if x = q then some t else lookT r q
theorem look_at {A : Addr → Prop} {H : Hp} : ∀ {es : List (Key × V)} {kvs : List (Str × Hd)} (q : Str), (es.map (·.1) = kvs.map fun e => Sum.inr e.1) → (∀ (i : Nat) (k : Key) (u : V) (x : Str) (t : Hd), es[i]? = some (k, u) → kvs[i]? = some (x, t) → HdAt A H t u) →
    (lookT kvs q = none ∧ valV es (Sum.inr q) = none) ∨ ∃ t u, lookT kvs q = some t ∧ valV es (Sum.inr q) = some u ∧ HdAt A H t u
  | [], [], q, _, _ => .inl ⟨rfl, rfl⟩
  | [], _ :: _, _, h, _ => by cases h
  | _ :: _, [], _, h, _ => by cases h
  | (k, u) :: es, (x, t) :: kvs, q, h, al => by
    rw [List.map_cons, List.map_cons, List.cons.injEq] at h
    obtain rfl : k = Sum.inr x := h.1
    by_cases e : x = q
    · subst e
      exact .inr ⟨t, u, by unfold lookT; rw [if_pos rfl], valV_pos rfl, al 0 _ _ _ _ rfl rfl⟩
    · rcases look_at q h.2 (fun i k u x t e1 e2 => al (i + 1) k u x t (by simpa using e1) (by simpa using e2)) with ⟨h1, h2⟩ | ⟨t2, u2, h1, h2, h3⟩
      · exact .inl ⟨by unfold lookT; rw [if_neg e]; exact h1, by rw [valV_neg (fun z => e (Sum.inr.inj z))]; exact h2⟩
      · exact .inr ⟨t2, u2, by unfold lookT; rw [if_neg e]; exact h1, by rw [valV_neg (fun z => e (Sum.inr.inj z))]; exact h2, h3⟩
/-- what stands beneath a question: the answer and the rest -/
def pairT (t : Option Hd) : Option (Int × Hd) := match t with
  | some (.sq _ [.at_ (.int z), u]) => some (z, u)
  | _ => none
def holdsB (sy : Str → Nat → Int) (x : Str) (of : List Str) : Nat → List Nat → Hd → Bool
  | 0, _, t => match t with
    | .sq _ l => decide (l.length = 0)
    | _ => false
  | d + 1, part, t => match t with
    | .di kvs => decide ((answersOf (sy x) part).length ≠ 1) && (decide (kvs.length = of.length) && of.all fun q => match pairT (lookT kvs q) with
        | some p => decide (p.1 ∈ answersOf (sy q) part) && holdsB sy x of d (partOf (sy q) part p.1) p.2
        | none => false)
    | _ => false
def spPairH (A : Addr → Prop) : Sp := fun vs H Q _ => ∃ v t, vs = [v] ∧ HdAt A H t v ∧ ∀ H', Same H H' → Q (.bl (isPairT t)) H'
theorem scPr : FnScope ["thing"] ["thing"] (defScope sIsPair) := ⟨rfl, rfl, rfl, by decide +kernel, rfl, by decide +kernel, by decide +kernel⟩
section
variable {P : Program} {w : World} {K : PySem.W.Frag} {mg : Str → Option Value} {base : Heap} {f fL : Addr} {fd fdL : FuncData} {A : Addr → Prop}
theorem ok_isPair (F : Fun K "is_pair" "is_pair" sIsPair f fd) (FL : Fun K "is_list" "is_list" sIsList fL fdL) (gL : mg "is_list" = some (.ref fL)) (nI : mg "isinstance" = none) (nL : mg "list" = none) (nT : mg "tuple" = none) (nN : mg "len" = none) : FnOk P w K mg base CX0 2 f fd ["thing"] (spPairH A) := by
  have GL : FnOk P w K mg base CX0 1 fL fdL ["thing"] (spIsListG K) := ok_isListG FL nI nL nT
  have bL := FL.binds (ps := ["thing"]) fun _ _ _ _ _ _ us hl => match us, hl with | [_], _ => rfl
  refine F.ok scPr (fun vs H Q E h => by obtain ⟨v, t, e, _⟩ := h; rw [e]; rfl) fun cdv A outer s H vs Q E hr hsp => ?_
  obtain ⟨v, t, rfl, th, hq⟩ := hsp
  refine ⟨_, pss_one (ps_ret (pe_and (pe_call GL hr rfl gL FL.kp bL .nil pass0 (pa_cons (pv 0) pa_nil)) (pe_one (pe_cmpR op_eq (pe_callB call_len_seq rfl nN boot_len (pa_cons (pv 0) pa_nil)) pe_int (nomark _))))), ?_⟩
  rcases hd_list (K := K) th with ⟨yes, hv⟩ | ⟨no, hv⟩
  · refine ⟨_, rfl, v, rfl, .inl ⟨hv, fun H1 k1 => ⟨_, rfl, iteT ?_⟩⟩⟩
    cases th with
    | at_ h => cases yes
    | di ok h ks nd al => cases yes
    | @sq a isT us l ok h len al =>
      refine ⟨_, rfl, a, us, rfl, (seq_sqA (k1 _ _ h)).seq, rfl, ?_⟩
      have z := hq H1 k1
      have e : isPairT (.sq isT l) = decide (V.int (us.length : Nat) = V.int 2) := by
        show decide (l.length = 2) = _
        rw [← len]
        by_cases c : us.length = 2
        · rw [c]; rfl
        · rw [decide_eq_false c]
          exact (decide_eq_false (fun q => c (by have q := V.int.inj q; omega))).symm
      rw [e] at z
      exact z
  · refine ⟨_, rfl, v, rfl, .inr ⟨hv, fun H1 k1 => ⟨_, rfl, iteF ?_⟩⟩⟩
    have z := hq H1 k1
    have e : isPairT t = false := by
      cases t with
      | sq b l => cases no
      | at_ v => rfl
      | di l => rfl
    rw [e] at z
    exact z
end
end L2.TB
/-! what is_hold has still to look at -/
namespace L2.TB
open PySem PySem.Spec PyProof.Rows
abbrev Itm : Type := Hd × List Nat × Nat
/-- one thing to be looked at: the things stand in Hb from the beginning -/
def ItAt (Hb H : Hp) (m : Nat) (r : Addr) (it : Itm) : Prop := ∃ v p, H r = some (.tup [v, .ref p, .int (it.2.2 : Nat)]) ∧ HdAt (fun _ => True) Hb it.1 v ∧ PartAt H p m it.2.1
theorem ItAt.but {Hb H H' : Hp} {l : Addr} {m : Nat} {r : Addr} {it : Itm} (h : ItAt Hb H m r it) (T : ∃ xs, H l = some (.lst xs)) (s : ButB l H H') : ItAt Hb H' m r it := by
  obtain ⟨xs, el⟩ := T
  obtain ⟨v, p, h1, h2, h3, h4⟩ := h
  exact ⟨v, p, s _ _ (fun z => by rw [z, el] at h1; cases h1) h1, h2, s _ _ (fun z => by rw [z, el] at h3; cases h3) h3, h4⟩
theorem paired_split {α β : Type} {F : α → β → Prop} : ∀ {bs : List β} {b : β} {as : List α}, Paired F as (bs ++ [b]) → ∃ as' a, as = as' ++ [a] ∧ Paired F as' bs ∧ F a b
  | [], b, _, .cons h .nil => ⟨[], _, rfl, .nil, h⟩
  | c :: bs, b, _, .cons h t => by
    obtain ⟨as', a, e, p, q⟩ := paired_split t
    exact ⟨_ :: as', a, by rw [e]; rfl, .cons h p, q⟩
theorem paired_join {α β : Type} {F : α → β → Prop} {as : List α} {bs : List β} {a : α} {b : β} (h : Paired F as bs) (q : F a b) : Paired F (as ++ [a]) (bs ++ [b]) := by
  induction h with
  | nil => exact .cons q .nil
  | cons h _ ih => exact .cons h ih
def wtD (n : Nat) : Nat → Nat
  | 0 => 1
  | d + 1 => 1 + n * wtD n d
def wtL (n : Nat) : List Itm → Nat
  | [] => 0
  | it :: l => wtD n it.2.2 + wtL n l
theorem wtL_app (n : Nat) : ∀ l r : List Itm, wtL n (l ++ r) = wtL n l + wtL n r
  | [], r => by show wtL n r = 0 + _; omega
  | it :: l, r => by
    show wtD n it.2.2 + wtL n (l ++ r) = wtD n it.2.2 + wtL n l + wtL n r
    rw [wtL_app n l r]
    omega
theorem wtL_all (n d : Nat) : ∀ l : List Itm, (∀ it ∈ l, it.2.2 = d) → wtL n l = l.length * wtD n d
  | [], _ => by show 0 = 0 * _; omega
  | it :: l, h => by
    show wtD n it.2.2 + wtL n l = (l.length + 1) * wtD n d
    rw [wtL_all n d l fun i hi => h i (List.mem_cons_of_mem _ hi), h it (by simp), Nat.succ_mul]
    omega
theorem wtD_pos (n : Nat) : ∀ d, 0 < wtD n d
  | 0 => Nat.one_pos
  | d + 1 => by show 0 < 1 + _; omega
section
variable (sy : Str → Nat → Int) (x : Str) (of : List Str)
def holdI (it : Itm) : Bool := holdsB sy x of it.2.2 it.2.1 it.1
/-- what a question leaves to be looked at -/
def childT (d : Nat) (part : List Nat) (kvs : List (Str × Hd)) (q : Str) : Option Itm := match pairT (lookT kvs q) with
  | some p => if p.1 ∈ answersOf (sy q) part then some (p.2, partOf (sy q) part p.1, d) else none
  | none => none
def okQ (d : Nat) (part : List Nat) (kvs : List (Str × Hd)) (q : Str) : Bool := match childT sy d part kvs q with
  | some c => holdI sy x of c
  | none => false
theorem holdsB_di (d : Nat) (part : List Nat) (kvs : List (Str × Hd)) : holdsB sy x of (d + 1) part (.di kvs) = (decide ((answersOf (sy x) part).length ≠ 1) && (decide (kvs.length = of.length) && of.all (okQ sy x of d part kvs))) := by
  have e : ∀ q, (match pairT (lookT kvs q) with
        | some p => decide (p.1 ∈ answersOf (sy q) part) && holdsB sy x of d (partOf (sy q) part p.1) p.2
        | none => false) = okQ sy x of d part kvs q := fun q => by
    unfold okQ childT
    cases pairT (lookT kvs q) with
    | none => rfl
    | some p =>
      show (decide (p.1 ∈ answersOf (sy q) part) && _) = (match (if p.1 ∈ answersOf (sy q) part then some (p.2, partOf (sy q) part p.1, d) else none) with
        | some c => holdI sy x of c
        | none => false)
      by_cases h : p.1 ∈ answersOf (sy q) part
      · rw [if_pos h, decide_eq_true h]; rfl
      · rw [if_neg h, decide_eq_false h]; rfl
  have f : of.all (okQ sy x of d part kvs) = of.all fun q => match pairT (lookT kvs q) with
        | some p => decide (p.1 ∈ answersOf (sy q) part) && holdsB sy x of d (partOf (sy q) part p.1) p.2
        | none => false := by
    congr 1
    funext q
    exact (e q).symm
  rw [f]
  rfl
theorem child_all {d : Nat} {part : List Nat} {kvs : List (Str × Hd)} : ∀ (l : List Str) (cs : List Itm), l.map (childT sy d part kvs) = cs.map some → l.all (okQ sy x of d part kvs) = cs.all (holdI sy x of)
  | [], [], _ => rfl
  | [], _ :: _, h => by cases h
  | _ :: _, [], h => by cases h
  | q :: l, c :: cs, h => by
    rw [List.map_cons, List.map_cons, List.cons.injEq] at h
    rw [List.all_cons, List.all_cons, child_all l cs h.2]
    congr 1
    unfold okQ
    rw [h.1]
theorem child_d {d : Nat} {part : List Nat} {kvs : List (Str × Hd)} {q : Str} {c : Itm} (h : childT sy d part kvs q = some c) : c.2.2 = d := by
  unfold childT at h
  split at h
  · split at h
    · cases h; rfl
    · cases h
  · cases h
theorem child_ds {d : Nat} {part : List Nat} {kvs : List (Str × Hd)} {l : List Str} {cs : List Itm} (h : l.map (childT sy d part kvs) = cs.map some) : ∀ c ∈ cs, c.2.2 = d := fun c hc => by
  have m : some c ∈ cs.map some := List.mem_map.mpr ⟨c, hc, rfl⟩
  rw [← h] at m
  obtain ⟨q, _, e⟩ := List.mem_map.mp m
  exact child_d sy e
end
theorem wtL_len (n : Nat) : ∀ l : List Itm, l.length ≤ wtL n l
  | [] => Nat.le_refl _
  | it :: l => by
    have := wtL_len n l
    have := wtD_pos n it.2.2
    show l.length + 1 ≤ wtD n it.2.2 + wtL n l
    omega
/-- a, b = pair, a list or a tuple -/
theorem pair_or {K : PySem.W.Frag} {H : Hp} {a : Addr} {b : Bool} {u1 u2 : V} {g1 g2 : TG} {σ : St} {Q : St → Hp → Prop} (h : H a = some (seqO b [u1, u2])) (hq : gCons g1 (gCons g2 gNil) [u1, u2] σ H Q) :
    gTup K 2 (gCons g1 (gCons g2 gNil)) (.ref a) σ H Q ∨ gUnl K 2 (gCons g1 (gCons g2 gNil)) (.ref a) σ H Q := by
  rcases (seq_sqA (K := K) h).seq with h | h
  · exact .inr ⟨a, _, rfl, h, rfl, hq⟩
  · exact .inl ⟨a, _, rfl, h, rfl, hq⟩
/-- pairs among things -/
theorem pair_get {A : Addr → Prop} {H : Hp} {t : Hd} {v : V} (h : HdAt A H t v) (hp : isPairT t = true) : ∃ (a : Addr) (b : Bool) (u1 u2 : V) (t1 t2 : Hd), v = .ref a ∧ t = .sq b [t1, t2] ∧ H a = some (seqO b [u1, u2]) ∧ HdAt A H t1 u1 ∧ HdAt A H t2 u2 := by
  cases h with
  | at_ h => cases hp
  | di ok h ks nd al => cases hp
  | @sq a isT us l ok h len al =>
    have l2 : l.length = 2 := of_decide_eq_true hp
    match l, us, len, l2, al, h with
    | [t1, t2], [u1, u2], _, _, al, h => exact ⟨a, isT, u1, u2, t1, t2, rfl, rfl, h, al 0 _ _ rfl rfl, al 1 _ _ rfl rfl⟩
theorem pairT_not {t : Hd} (h : isPairT t = false) : pairT (some t) = none := by
  cases t with
  | at_ v => rfl
  | di l => rfl
  | sq b l =>
    have l2 : ¬ l.length = 2 := of_decide_eq_false h
    match l, l2 with
    | [], _ => rfl
    | [t1], _ => cases t1 with
      | at_ v => cases v <;> rfl
      | sq _ _ => rfl
      | di _ => rfl
    | [t1, t2], l2 => exact absurd rfl l2
    | t1 :: t2 :: t3 :: r, _ => cases t1 with
      | at_ v => cases v <;> rfl
      | sq _ _ => rfl
      | di _ => rfl
theorem pairT_int {b : Bool} {t1 t2 : Hd} : pairT (some (.sq b [t1, t2])) = (isIntT t1).map fun z => (z, t2) := by
  cases t1 with
  | at_ v => cases v <;> rfl
  | sq _ _ => rfl
  | di _ => rfl
end L2.TB
/-! is_hold -/
namespace L2.TB
open PySem PySem.Spec PyProof.Rows
theorem pg_or {X : Cx} {e : Expr} {t1 t2 : TG} (h1 : PG X e t1) (h2 : PG X e t2) : PG X e (fun v σ H Q => t1 v σ H Q ∨ t2 v σ H Q) := ⟨fun pins s σ H v u Q I r h => h.elim (h1.run pins s σ H v u Q I r) (h2.run pins s σ H v u Q I r)⟩
theorem wtD_few {n d : Nat} (hn : n ≤ 10) (hd : d ≤ 4) : wtD n d ≤ 11111 := by
  have mono : ∀ d, wtD n d ≤ wtD 10 d := fun d => by
    induction d with
    | zero => exact Nat.le_refl _
    | succ d ih =>
      show 1 + n * wtD n d ≤ 1 + 10 * wtD 10 d
      have := Nat.mul_le_mul hn ih
      omega
  refine Nat.le_trans (mono d) ?_
  match d, hd with
  | 0, _ => decide
  | 1, _ => decide
  | 2, _ => decide
  | 3, _ => decide
  | 4, _ => decide
def spIsHoldF (K : PySem.W.Frag) (CT CQ CK CN : Addr) : Sp := fun vs H Q E => ∃ (t : Addr) (x n th o : V) (ns : List Str) (tbl : List (List Int)), vs = [.ref t, x, n, th, o] ∧ TabAt H CT t ns tbl ∧ ns.Nodup ∧ ns.length ≤ 10 ∧ 0 < tbl.length ∧ tbl.length ≤ 10 ∧
  ((BadAsk K H ns x ∧ Flies CQ "name" x H E) ∨ ∃ y, x = .str y ∧ y ∈ ns ∧ ((∃ i : Nat, o ≠ .non ∧ Bad K H ns o (some i) ∧ Flies CK "index" (.int i) H E) ∨ ∃ of, OfIs K H ns y o of ∧
    ((BadCnt K H n ∧ Flies CN "thing" n H E) ∨ ∃ (d : Nat) (tv : Hd), d ≤ 4 ∧ of.Nodup ∧ n = .int d ∧ HdAt (fun _ => True) H tv th ∧ ∀ H', Same H H' → Q (.bl (holdsB (says ns tbl) y of d (List.range tbl.length) tv)) H')))
abbrev NIs : List Str := ["table", "asked", "n", "thing", "of", "names", "search", "left", "one", "part", "depth", "name", "answer", "below", "parts"]
theorem scIs : FnScope NIs ["table", "asked", "n", "thing", "of"] (defScope sIsHold) := ⟨rfl, rfl, rfl, by decide +kernel, rfl, by decide +kernel, by decide +kernel⟩
/-- what is_hold calls besides -/
structure HoldP (P : Program) (w : World) (K : PySem.W.Frag) (mg : Str → Option Value) (base : Heap) (C : Addr) : Prop where
  po : ∃ f fd, Meth K C "parts_of" f ∧ FnOk P w K mg base CX0 1 f fd ["self", "part", "question"] (spPartsOf 0 none C) ∧ Binds K fd ["self", "part", "question"] []
  li : ∃ f fd, mg "is_list" = some (.ref f) ∧ PySem.W.keepIn K (.ref f) = true ∧ FnOk P w K mg base CX0 1 f fd ["thing"] (spIsListG K) ∧ Binds K fd ["thing"] []
  pr : ∃ f fd, mg "is_pair" = some (.ref f) ∧ PySem.W.keepIn K (.ref f) = true ∧ (∀ A, FnOk P w K mg base CX0 2 f fd ["thing"] (spPairH A)) ∧ Binds K fd ["thing"] []
  it : ∃ f fd, mg "is_integer" = some (.ref f) ∧ PySem.W.keepIn K (.ref f) = true ∧ FnOk P w K mg base CX0 1 f fd ["thing"] (spIsIntG K) ∧ Binds K fd ["thing"] []
  nI : mg "isinstance" = none
  nD : mg "dict" = none
  nN : mg "len" = none
section
variable {P : Program} {w : World} {K : PySem.W.Frag} {mg : Str → Option Value} {base : Heap} {f CT C CQ CK CN : Addr} {fd : FuncData}
theorem ok_isHoldF (F : FunF K "is_hold" sIsHold f fd) (S : SeaP P w K mg base CT C CQ CK CN) (U : HoldP P w K mg base C) : FnOk P w K mg base (L2.CX P w) 6 f fd ["table", "asked", "n", "thing", "of"] (spIsHoldF K CT CQ CK CN) := by
  obtain ⟨fI, fdI, Mk, GI, bI⟩ := S.mkr
  obtain ⟨fW, fdW, mW, GW, bW⟩ := S.wh
  obtain ⟨fA, fdA, gA, kA, GA, bA⟩ := S.af
  obtain ⟨fC, fdC, gC, kC, GC, bC⟩ := S.ct
  obtain ⟨fP, fdP, mP, GP, bP⟩ := U.po
  obtain ⟨fL, fdL, gL, kL, GL, bL⟩ := U.li
  obtain ⟨fR, fdR, gR, kR, GR, bR⟩ := U.pr
  obtain ⟨fT, fdT, gT, kT, GT, bT⟩ := U.it
  refine FunD.ok F scIs (fun vs H Q E h => by obtain ⟨t, x, n, th, o, ns, tbl, e, _⟩ := h; rw [e]; rfl) fun cdv A outer s H vs Q E hr hsp => ?_
  obtain ⟨t, x, n, th, o, ns, tbl, rfl, tab, nnd, nsh, pos, few, hc⟩ := hsp
  have nd := scIs.nd
  have hu := hu_of (hr.mono (show 1 ≤ 5 by decide))
  refine ⟨_, pss_cons (ps_set (i := 5) nd rfl (Or.inl rfl) (pe_callS GA (hr.mono (by decide)) rfl gA kA bA (fun σ => passAt (takes_of rfl rfl rfl rfl) σ) (pa_cons (pv 0) (pa_cons (pv 1) (pa_cons (pv 4) pa_nil)))))
    (pss_cons (ps_if (pt_not (pt_val (pe_call GC (hr.mono (by decide)) rfl gC kC bC .nil pass0 (pa_cons (pv 2) pa_nil)))) (pss_one (ps_raiseE rfl (takes_of rfl rfl rfl rfl) S.EN (hr.mono (by decide)) rfl (pv 2))) pss_nil)
    (pss_cons (ps_set (i := 6) nd rfl (Or.inl rfl) (pe_make Mk GI (hr.mono (by decide)) rfl S.gS bI .nil pass0 (pa_cons (pv 0) (pa_cons (pv 1) (pa_cons (pv 5) (pa_cons pe_non pa_nil))))))
    (pss_cons (ps_set (i := 7) nd rfl (Or.inl rfl) (pe_lst (pa_cons (pe_tup (pa_cons (pv 3) (pa_cons (pe_meth0 (pv 6) S.c.cl mW GW (hr.mono (by decide)) bW .nil pass0 rfl) (pa_cons (pv 2) pa_nil)))) pa_nil)))
    (pss_cons (ps_while (passes_of rfl) (pt_truth (pv 7) (fun _ => rfl))
      (pss_cons (ps_asg (pe_bm0 PySem.F.plainAttrs_list PySem.F.slot_list_pop PySem.F.type_list_pop mt_pop (pv 7)) (pg_tup rfl (pgs_cons (pg_name (i := 8) nd rfl (Or.inl rfl)) (pgs_cons (pg_name (i := 9) nd rfl (Or.inl rfl)) (pgs_cons (pg_name (i := 10) nd rfl (Or.inl rfl)) pgs_nil)))))
      (pss_one (ps_if (pt_cmpR op_eq (pv 10) pe_int (nomark _))
        (pss_one (ps_if (PW.pt (pw_or (pt_not (pt_val (pe_call GL (hr.mono (by decide)) rfl gL kL bL .nil pass0 (pa_cons (pv 8) pa_nil)))) (pw_or1 (pt_cmpR op_ne (pe_callB call_len_seq rfl U.nN boot_len (pa_cons (pv 8) pa_nil)) pe_int (nomark _))))) (pss_one (ps_ret pe_bl)) pss_nil))
        (pss_one (ps_if (PW.pt (pw_or (pt_cmpR op_eq (pe_callB call_lenD rfl U.nN boot_len (pa_cons (pe_meth (pv 6) S.c.cl mP GP (hr.mono (by decide)) bP .nil pass0 (pa_cons (pv 9) (pa_cons (pv 1) pa_nil))) pa_nil)) pe_int (nomark _))
            (pw_or (pt_not (pt_val (pe_callB (r := rIsi K) call_isi rfl U.nI boot_isi (pa_cons (pv 8) (pa_cons (pe_bltn (v := .ty "dict") rfl U.nD boot_dict' rfl) pa_nil)))))
              (pw_or1 (pt_cmpR op_ne (pe_callB call_lenD rfl U.nN boot_len (pa_cons (pv 8) pa_nil)) (pe_callB call_len rfl U.nN boot_len (pa_cons (pv 5) pa_nil)) (nomark _))))))
          (pss_one (ps_ret pe_bl))
          (pss_one (ps_for (passes_of rfl) rfl (pi_seq (pv 5)) (pg_name (i := 11) nd rfl (Or.inl rfl))
            (pss_cons (ps_if (PW.pt (pw_or (pt_cmp (pc_dnotin hu (pv 11) (pv 8))) (pw_or (pt_not (pt_val (pe_call (GR (fun _ => True)) (hr.mono (by decide)) rfl gR kR bR .nil pass0 (pa_cons (pe_dget hu (pv 8) (pv 11) (fun _ _ => rfl)) pa_nil))))
                (pw_or1 (pt_not (pt_val (pe_call GT (hr.mono (by decide)) rfl gT kT bT .nil pass0 (pa_cons (pe_ix (r := rIx K) ix_seq (pe_dget hu (pv 8) (pv 11) (fun _ _ => rfl)) pe_int (fun _ _ => rfl)) pa_nil))))))))
              (pss_one (ps_ret pe_bl)) pss_nil)
            (pss_cons (ps_asg (pe_dget hu (pv 8) (pv 11) (fun _ _ => rfl)) (pg_or (pg_tup rfl (pgs_cons (pg_name (i := 12) nd rfl (Or.inl rfl)) (pgs_cons (pg_name (i := 13) nd rfl (Or.inl rfl)) pgs_nil))) (pg_unl rfl (pgs_cons (pg_name (i := 12) nd rfl (Or.inl rfl)) (pgs_cons (pg_name (i := 13) nd rfl (Or.inl rfl)) pgs_nil)))))
            (pss_cons (ps_set (i := 14) nd rfl (Or.inl rfl) (pe_meth (pv 6) S.c.cl mP GP (hr.mono (by decide)) bP .nil pass0 (pa_cons (pv 9) (pa_cons (pv 11) pa_nil))))
            (pss_cons (ps_if (pt_cmp (pc_dnotin hu (pv 12) (pv 14))) (pss_one (ps_ret pe_bl)) pss_nil)
            (pss_one (ps_expr (pe_bm PySem.F.plainAttrs_list PySem.F.slot_list_append PySem.F.type_list_append mt_append (pv 7) (pa_cons (pe_tup (pa_cons (pv 13) (pa_cons (pe_dget hu (pv 14) (pv 12) (fun _ _ => rfl)) (pa_cons (pe_op op_sub (pv 10) pe_int) pa_nil)))) pa_nil))))))))))))))))
    (pss_one (ps_ret pe_bl)))))), ?_⟩
  refine ⟨_, rfl, _, rfl, _, rfl, t, x, o, ns, tbl, rfl, tab, by omega, ?_⟩
  rcases hc with ⟨bad, fl⟩ | ⟨y, rfl, yin, hc⟩
  · exact .inl ⟨bad, fl⟩
  refine .inr ⟨y, rfl, yin, ?_⟩
  rcases hc with ⟨i, on, bad, fl⟩ | ⟨of, O, hc⟩
  · exact .inr (.inl ⟨i, on, bad, fl⟩)
  have ofsub : ∀ z ∈ of, z ∈ ns := by
    rcases O with O | ⟨_, rfl⟩
    · exact O.sub
    · exact fun z hz => (List.mem_filter.mp hz).1
  have ofsh : of.length < 1000 := by
    rcases O with O | ⟨_, rfl⟩
    · exact O.sh
    · have := List.length_filter_le (fun z => decide (z ≠ y)) ns
      omega
  have pick : ∀ G : Hp → Addr → Prop, (∀ H1 q, H q = none → Same H H1 → H1 q = some (.lst (of.map V.str)) → G H1 q) → (o = .non ∧ ∀ H' q, H q = none → Same H H' → H' q = some (.lst ((ns.filter fun z => decide (z ≠ y)).map V.str)) → G H' q) ∨ (∃ i : Nat, o ≠ .non ∧ Bad K H ns o (some i) ∧ Flies CK "index" (.int i) H E) ∨
      (∃ (b : Addr) (xs : List V), o = .ref b ∧ SqA K H b xs ∧ Bad K H ns o none ∧ ∀ H' q, H q = none → Same H H' → H' q = some (.lst xs) → G H' q) := fun G h => by
    rcases O with O | ⟨eo, rfl⟩
    · obtain ⟨b, eo, hb⟩ := O.ex
      exact .inr (.inr ⟨b, _, eo, hb, O.good, fun H' q n k e => h H' q n k e⟩)
    · exact .inl ⟨eo, fun H' q n k e => h H' q n k e⟩
  refine pick _ fun H1 q nq k1 oq => ?_
  rcases hc with ⟨bad, fl⟩ | ⟨d, tv, dl, nof, rfl, hth, hq⟩
  · refine ⟨_, rfl, n, rfl, ?_⟩
    have fl1 := fl.same k1
    rcases bad with ⟨k, rfl, neg⟩ | bad
    · exact .inl ⟨k, rfl, _, rfl, by rw [decide_eq_false (by omega)]; exact iteT ⟨_, rfl, fl1.up S.EN⟩⟩
    · exact .inr ⟨bad.same k1, _, rfl, iteT ⟨_, rfl, fl1.up S.EN⟩⟩
  refine ⟨_, rfl, .int d, rfl, .inl ⟨d, rfl, _, rfl, ?_⟩⟩
  rw [decide_eq_true (show (0 : Int) ≤ (d : Int) by omega)]
  refine iteF ?_
  refine ⟨_, rfl, _, rfl, _, rfl, ?_⟩
  intro a dx na ndx ne
  refine ⟨a, dx, t, _, _, _, ns, tbl, rfl, upd_same, (tab.same k1).same fun b o e => (by rw [upd_ne (ne_of_none e na), upd_ne (ne_of_none e ndx)]; exact e), nnd, by omega, by omega, fun H3 rL bs as nrL nbs o1 o2 o3 o4 keep => ⟨rfl, ?_⟩⟩
  obtain ⟨k13, sea, memo, nbs1⟩ := sea_new (wa := 0) (ws := none) na ndx nbs o1 o2 o3 o4 keep oq nnd yin ofsub (by omega) ofsh (fun _ e => by cases e)
  obtain ⟨dx', rL', oL', as', h1, _, _, _⟩ := id sea.ex
  refine ⟨_, rfl, _, rfl, a, dx', _, rfl, h1, rfl, ?_⟩
  unfold tNil
  show spWhole 0 none C _ _ _ _
  refine ⟨a, bs, ns, tbl, y, of, rfl, sea, fun H4 p k34 pt => ?_⟩
  have k04 := (k1.trans k13).trans k34
  have sea4 := sea.same k34
  have h14 := k34 _ _ h1
  have oq4 := k34 _ _ (k13 _ _ oq)
  have th4 := hth.same k04
  refine ⟨_, rfl, (by show 3 ≤ sizeLine; decide), fun r nr => ⟨(by show 1 ≤ sizeLine; decide), fun l nl => ?_⟩⟩
  have kr := same_new (o := .tup [th, .ref p, .int (d : Nat)]) nr
  have kl := same_new (o := .lst [.ref r]) nl
  have nl4 : H4 l = none := kr.free nl
  have lof : of.length ≤ 10 := Nat.le_trans (nodup_le nof ofsub) nsh
  have w0 : wtD of.length d ≤ 11111 := wtD_few lof dl
  refine ⟨fun m σ H' => ∃ (items : List Itm) (rs : List Addr), m = wtL of.length items ∧ m ≤ 11111 ∧ H' l = some (.lst (rs.map V.ref)) ∧ Paired (ItAt H4 H' tbl.length) rs items ∧ Same H4 H' ∧ holdsB (says ns tbl) y of d (List.range tbl.length) tv = items.all (holdI (says ns tbl) y of) ∧
      ∃ s8 s9 s10 s11 s12 s13 s14, σ = [some (.ref t), some (.str y), some (.int (d : Nat)), some th, some o, some (.ref q), some (.ref a), some (.ref l), s8, s9, s10, s11, s12, s13, s14],
    ⟨_, [(tv, List.range tbl.length, d)], [r], rfl, ?_, upd_same, .cons ⟨th, p, kl _ _ upd_same, th4, (pt.same kr).same kl⟩ .nil, kr.trans kl, ?_, _, _, _, _, _, _, _, rfl⟩, ?_⟩
  · show wtD of.length d + 0 ≤ 11111
    omega
  · show _ = (holdI _ _ _ _ && true)
    rw [Bool.and_true]
    rfl
  rintro m σ H5 ⟨items, rs, rfl, small, ol, pr, k45, eall, s8, s9, s10, s11, s12, s13, s14, rfl⟩
  refine ⟨_, rfl, !(rs.map V.ref).isEmpty, .inl ⟨_, SqL.of ol, rfl⟩, ?_⟩
  rcases List.eq_nil_or_concat items with rfl | ⟨init, it, ei⟩
  · cases pr
    have z := hq H5 (k04.trans k45)
    rw [eall] at z
    exact iteF z
  rw [List.concat_eq_append] at ei
  subst ei
  obtain ⟨rs', r0, rfl, pr', hit⟩ := paired_split pr
  have e1 : (!((rs' ++ [r0]).map V.ref).isEmpty) = true := by simp
  rw [e1]
  refine iteT ⟨_, fun _ _ h => h, ?_⟩
  have e2 : ((rs' ++ [r0]).map V.ref)[((rs' ++ [r0]).map V.ref).length - 1]? = some (V.ref r0) := by simp
  have e3 : ((rs' ++ [r0]).map V.ref).dropLast = rs'.map V.ref := by simp
  refine ⟨_, rfl, .inl ⟨rfl, _, SqL.of ol⟩, l, _, .ref r0, rfl, rfl, ol, e2, ?_⟩
  rw [e3]
  have T5 : ∃ xs, H5 l = some (.lst xs) := ⟨_, ol⟩
  have B56 : ButB l H5 (upd H5 l (.lst (rs'.map V.ref))) := fun b o nb e => by rw [upd_ne nb]; exact e
  have k46 : Same H4 (upd H5 l (.lst (rs'.map V.ref))) := fun b o e => by rw [upd_ne (ne_of_none e nl4)]; exact k45 _ _ e
  have pr6 := Paired.mapP pr' fun r it h => h.but T5 B56
  have hit6 := hit.but T5 B56
  have ol6 : upd H5 l (.lst (rs'.map V.ref)) l = some (.lst (rs'.map V.ref)) := upd_same
  generalize upd H5 l (.lst (rs'.map V.ref)) = H6 at B56 k46 pr6 hit6 ol6
  obtain ⟨tv1, part, dd⟩ := it
  obtain ⟨v, p0, i1, i2, i3⟩ := hit6
  refine ⟨r0, _, rfl, SqT.of i1, rfl, _, _, rfl, _, _, rfl, _, _, rfl, rfl, ?_⟩
  have hall : holdsB (says ns tbl) y of d (List.range tbl.length) tv = (init.all (holdI (says ns tbl) y of) && holdsB (says ns tbl) y of dd part tv1) := by
    rw [eall, List.all_append]
    show (_ && (_ && true)) = _
    rw [Bool.and_true]
    rfl
  have wt6 : wtL of.length (init ++ [(tv1, part, dd)]) = wtL of.length init + wtD of.length dd := by
    rw [wtL_app]
    rfl
  -- what is wrong is told
  have wrong : ∀ H', Same H4 H' → holdsB (says ns tbl) y of dd part tv1 = false → Q (.bl false) H' := fun H' k e => by
    have z := hq H' (k04.trans k)
    rw [hall, e, Bool.and_false] at z
    exact z
  cases dd with
  | zero =>
    refine ⟨_, rfl, rfl, true, rfl, iteT ?_⟩
    have i6 := i2.same k46
    rcases hd_list (K := K) i6 with ⟨yes, hv⟩ | ⟨no, hv⟩
    · refine ⟨_, rfl, v, rfl, .inl ⟨hv, fun H7 k67 => ⟨_, rfl, iteF ?_⟩⟩⟩
      have k47 := k46.trans k67
      cases i6 with
      | at_ h => cases yes
      | di ok h ks nd al => cases yes
      | @sq b isT us tl ok h len al =>
        refine ⟨_, rfl, b, us, rfl, (seq_sqA (k67 _ _ h)).seq, rfl, ?_⟩
        by_cases z : tl.length = 0
        · refine ⟨false, congrArg V.bl (by rw [decide_eq_true (congrArg V.int (by rw [len, z]; rfl))]; rfl), iteF ?_⟩
          refine ⟨wtL of.length init, by rw [wt6]; have := wtD_pos of.length 0; omega, init, rs', rfl, by omega, k67 _ _ ol6, Paired.mapP pr6 fun r it h => h.but ⟨_, ol6⟩ (.of k67), k47, ?_, _, _, _, _, _, _, _, rfl⟩
          rw [hall]
          show (_ && decide (tl.length = 0)) = _
          rw [decide_eq_true z, Bool.and_true]
        · refine ⟨true, congrArg V.bl (by rw [decide_eq_false (fun q => z (by have q := V.int.inj q; omega))]; rfl), iteT (wrong H7 k47 ?_)⟩
          show decide (tl.length = 0) = false
          exact decide_eq_false z
    · refine ⟨_, rfl, v, rfl, .inr ⟨hv, fun H7 k67 => ⟨_, rfl, iteT (iteT (wrong H7 (k46.trans k67) ?_))⟩⟩⟩
      cases tv1 with
      | at_ v => rfl
      | di l => rfl
      | sq b l => cases no
  | succ d1 =>
    refine ⟨_, rfl, rfl, false, congrArg V.bl (decide_eq_false (fun z => by have z : ((d1 + 1 : Nat) : Int) = 0 := V.int.inj z; omega)), iteF ?_⟩
    have sea6 := sea4.same k46
    refine ⟨_, rfl, a, dx', _, rfl, k46 _ _ h14, rfl, _, rfl, _, rfl, a, p0, bs, ns, tbl, y, y, of, part, rfl, sea6, i3, yin, fun H7 e k67 ne7 P7 => ?_⟩
    obtain ⟨ks, oe, ek, _⟩ := P7
    have lks : ks.length = (answersOf (says ns tbl y) part).length := by
      have z := congrArg List.length ek
      rw [List.length_map, List.length_map] at z
      exact z
    have k47 := k46.trans k67
    refine ⟨e, ks, rfl, oe, rfl, ?_⟩
    by_cases one : (answersOf (says ns tbl y) part).length = 1
    · refine ⟨true, congrArg V.bl (decide_eq_true (by rw [lks, one]; rfl)), iteT (iteT (wrong H7 k47 ?_))⟩
      cases tv1 with
      | at_ v => rfl
      | sq b l => rfl
      | di kvs =>
        rw [holdsB_di, decide_eq_false (fun c => c one)]
        rfl
    refine ⟨false, congrArg V.bl (decide_eq_false (fun z => one (by rw [lks] at z; have z := V.int.inj z; omega))), iteF ?_⟩
    rcases hd_dict (K := K) i2 with ⟨kvs, b, es, rfl, rfl, _, hes, kes, nkv, al⟩ | ⟨nod, ty, hty, kty⟩
    rotate_left
    · refine ⟨_, rfl, _, _, _, _, false, rfl, .ty _, ty_same hty k47, kit_ty kty, _, rfl, iteT (iteT (wrong H7 k47 ?_))⟩
      cases tv1 with
      | at_ v => rfl
      | sq b l => rfl
      | di kvs => exact absurd rfl (nod kvs)
    refine ⟨_, rfl, _, _, _, _, true, rfl, .ty _, .base (.dK (k47 _ _ hes)), kit_ty (by decide +kernel), _, rfl, iteF ?_⟩
    have les : es.length = kvs.length := by
      have z := congrArg List.length kes
      rw [List.length_map, List.length_map] at z
      exact z
    have oq7 := k47 _ _ oq4
    refine ⟨_, rfl, b, es, rfl, k47 _ _ hes, _, rfl, _, of.length, rfl, .inl ⟨_, SqL.of oq7, by rw [List.length_map]⟩, rfl, ?_⟩
    by_cases ln : kvs.length = of.length
    rotate_left
    · refine ⟨true, congrArg V.bl (by rw [decide_eq_false (fun q => ln (by rw [← les]; have q := V.int.inj q; omega))]; rfl), iteT (wrong H7 k47 ?_)⟩
      rw [holdsB_di, decide_eq_false ln, Bool.false_and, Bool.and_false]
    refine ⟨false, congrArg V.bl (by rw [decide_eq_true (congrArg V.int (by rw [les, ln]))]; rfl), iteF ?_⟩
    have cur : holdsB (says ns tbl) y of (d1 + 1) part (.di kvs) = of.all (okQ (says ns tbl) y of d1 part kvs) := by
      rw [holdsB_di, decide_eq_true one, decide_eq_true ln, Bool.true_and, Bool.true_and]
    refine ⟨_, rfl, for_seq (.inl rfl) (fun i σ H' => Same H4 H' ∧ PartAt H' p0 tbl.length part ∧ (∃ s11 s12 s13 s14, σ = [some (.ref t), some (.str y), some (.int (d : Nat)), some th, some o, some (.ref q), some (.ref a), some (.ref l), some (.ref b), some (.ref p0), some (.int (d1 + 1 : Nat)), s11, s12, s13, s14]) ∧
        ∃ (cs : List Itm) (rsx : List Addr), H' l = some (.lst (rsx.map V.ref)) ∧ Paired (ItAt H4 H' tbl.length) rsx (init ++ cs) ∧ (of.take i).map (childT (says ns tbl) d1 part kvs) = cs.map some)
      ⟨k47, i3.same k67, ⟨_, _, _, _, rfl⟩, [], rs', k67 _ _ ol6, by rw [List.append_nil]; exact Paired.mapP pr6 fun r it h => h.but ⟨_, ol6⟩ (.of k67), rfl⟩ (fun i σ H' _ h => h.1 _ _ oq4) ?_ ?_⟩
    rotate_left
    · rintro σ H8 ⟨k48, pt8, ⟨s11, s12, s13, s14, rfl⟩, cs, rsx, ol8, pr8, ecs⟩
      rw [List.length_map, List.take_length] at ecs
      have lcs : cs.length = of.length := by
        have z := congrArg List.length ecs
        rw [List.length_map, List.length_map] at z
        exact z.symm
      have wcs : wtL of.length (init ++ cs) = wtL of.length init + of.length * wtD of.length d1 := by
        rw [wtL_app, wtL_all _ d1 cs (child_ds _ ecs), lcs]
      have w1 : wtD of.length (d1 + 1) = 1 + of.length * wtD of.length d1 := rfl
      refine ⟨wtL of.length (init ++ cs), by rw [wt6, wcs, w1]; omega, init ++ cs, rsx, rfl, ?_, ol8, pr8, k48, ?_, _, _, _, _, _, _, _, rfl⟩
      · rw [wt6, w1] at small
        rw [wcs]
        omega
      · rw [hall, cur, List.all_append, child_all _ _ _ _ _ ecs]
    rintro i yv σ H8 ey ⟨k48, pt8, ⟨s11, s12, s13, s14, rfl⟩, cs, rsx, ol8, pr8, ecs⟩
    rw [List.getElem?_map] at ey
    obtain ⟨r, er, rfl⟩ := Option.map_eq_some_iff.mp ey
    have rof := List.mem_of_getElem? er
    have rin := ofsub r rof
    have wrongQ : ∀ H', Same H4 H' → okQ (says ns tbl) y of d1 part kvs r = false → Q (.bl false) H' := fun H' k e => wrong H' k (by rw [cur]; exact List.all_eq_false.mpr ⟨r, rof, by rw [e]; simp⟩)
    have hes8 := k48 _ _ hes
    rcases look_at r kes al with ⟨lk, vn⟩ | ⟨t2, u2, lk, vn, h2⟩
    · refine ⟨_, rfl, _, rfl, b, _, rfl, DGet.k (k := Sum.inr r) hes8, _, rfl, ?_⟩
      rw [vn]
      refine iteT (iteT (wrongQ H8 k48 ?_))
      unfold okQ childT
      rw [lk]
      rfl
    have dg : ∀ {H' : Hp}, Same H4 H' → DGet H' b (.str r) (some u2) := fun k => by
      have z := DGet.k (k := Sum.inr r) (k _ _ hes)
      rw [vn] at z
      exact z
    refine ⟨_, rfl, _, rfl, b, _, rfl, dg k48, _, rfl, iteF ?_⟩
    refine ⟨_, rfl, _, rfl, b, _, rfl, dg k48, u2, t2, rfl, h2.same k48, fun H9 k89 => ⟨_, rfl, ?_⟩⟩
    have k49 := k48.trans k89
    cases hp : isPairT t2 with
    | false =>
      refine iteT (iteT (wrongQ H9 k49 ?_))
      unfold okQ childT
      rw [lk, pairT_not hp]
    | true =>
    refine iteF ?_
    obtain ⟨a2, b2, v1, v2, t3, t4, rfl, rfl, ha2, g1, g2⟩ := pair_get h2 hp
    have ha9 := k49 _ _ ha2
    have six : ∀ {G : VK}, G v1 H9 → rIx K (.ref a2) (.int 0) H9 G := fun g => by
      rcases (seq_sqA (K := K) ha9).seq with h | h
      · exact .inl ⟨a2, _, 0, _, rfl, rfl, h, rfl, g⟩
      · exact .inr (.inl ⟨a2, _, 0, _, rfl, rfl, h, rfl, g⟩)
    refine ⟨_, rfl, _, rfl, b, _, rfl, dg k49, six ?_⟩
    have okr : okQ (says ns tbl) y of d1 part kvs r = match (match (isIntT t3).map fun z => (z, t4) with
        | some p => if p.1 ∈ answersOf (says ns tbl r) part then some (p.2, partOf (says ns tbl r) part p.1, d1) else none
        | none => none : Option Itm) with
      | some c => holdI (says ns tbl) y of c
      | none => false := by
      unfold okQ childT
      rw [lk, pairT_int] <;> rfl
    rcases hd_int (K := K) g1 with ⟨z, ez, rfl⟩ | ⟨ez, nz⟩
    rotate_left
    · refine ⟨_, rfl, .inr ⟨nz.same k49, _, rfl, iteT (wrongQ H9 k49 ?_)⟩⟩
      rw [okr, ez]
      rfl
    refine ⟨_, rfl, .inl ⟨z, rfl, _, rfl, iteF ?_⟩⟩
    refine ⟨_, rfl, _, rfl, b, _, rfl, dg k49, pair_or ha9 ⟨_, _, rfl, _, _, rfl, rfl, ?_⟩⟩
    refine ⟨_, rfl, a, dx', _, rfl, k49 _ _ h14, rfl, _, rfl, _, rfl, a, p0, bs, ns, tbl, y, r, of, part, rfl, sea4.same k49, pt8.same k89, rin, fun H10 e2 k910 ne10 P10 => ?_⟩
    obtain ⟨ks2, oe2, ek2, ev2⟩ := P10
    have k410 := k49.trans k910
    have k810 := k89.trans k910
    refine ⟨_, rfl, _, rfl, e2, _, rfl, DGet.k (k := Sum.inl z) oe2, _, rfl, ?_⟩
    by_cases zin : z ∈ answersOf (says ns tbl r) part
    rotate_left
    · rw [val_none_of (by
        rw [ek2]
        intro m
        obtain ⟨v, hv, e⟩ := List.mem_map.mp m
        exact zin (by rw [← Sum.inl.inj e]; exact hv))]
      refine iteT (wrongQ H10 k410 ?_)
      rw [okr, ez]
      show (match (if z ∈ answersOf (says ns tbl r) part then some (t4, partOf (says ns tbl r) part z, d1) else none : Option Itm) with
        | some c => holdI (says ns tbl) y of c
        | none => false) = false
      rw [if_neg zin]
    obtain ⟨t5, et5, ot5⟩ := ev2 z zin
    rw [et5]
    refine iteF ?_
    have ol10 := k810 _ _ ol8
    have dg2 : DGet H10 e2 (.int z) (some (.ref t5)) := by
      have q := DGet.k (k := Sum.inl z) oe2
      rw [et5] at q
      exact q
    refine ⟨_, rfl, .inl ⟨rfl, _, SqL.of ol10⟩, _, rfl, _, rfl, _, rfl, e2, _, rfl, dg2, _, rfl, _, _, rfl, rfl, (by show 3 ≤ sizeLine; decide), fun t6 nt6 => ?_⟩
    have e1d : V.int (((d1 + 1 : Nat) : Int) - 1) = V.int (d1 : Int) := congrArg V.int (by omega)
    have k6 := same_new (o := .tup [v2, .ref t5, .int (((d1 + 1 : Nat) : Int) - 1)]) nt6
    have lrs : rsx.length = init.length + cs.length := by
      rw [Paired.length pr8, List.length_append]
    have lcs : cs.length = i := by
      have q := congrArg List.length ecs
      rw [List.length_map, List.length_map, List.length_take] at q
      have := (List.getElem?_eq_some_iff.mp er).1
      omega
    have li : i < of.length := (List.getElem?_eq_some_iff.mp er).1
    have linit := wtL_len of.length init
    refine ⟨l, _, _, rfl, rfl, k6 _ _ ol10, ?_, ?_⟩
    · rw [wt6] at small
      rw [List.length_map, sizeLine_eq]
      omega
    have lt6 : t6 ≠ l := fun q => by rw [q, ol10] at nt6; cases nt6
    have B8 : ∀ {u : HO}, ButB l H8 (upd (upd H10 t6 (.tup [v2, .ref t5, .int (((d1 + 1 : Nat) : Int) - 1)])) l u) := fun b o nb e => by
      rw [upd_ne nb]
      exact k6 _ _ (k810 _ _ e)
    have keep : ∀ {b : Addr} {o u : HO}, (∀ xs, o ≠ .lst xs) → H10 b = some o → upd (upd H10 t6 (.tup [v2, .ref t5, .int (((d1 + 1 : Nat) : Int) - 1)])) l u b = some o := fun no e => by
      rw [upd_ne (fun q => by rw [q, ol10] at e; exact no _ (Option.some.inj e).symm)]
      exact k6 _ _ e
    refine ⟨fun b o e => ?_, ⟨keep (fun _ z => by cases z) (k810 _ _ pt8.1), pt8.2⟩, ⟨_, _, _, _, rfl⟩, cs ++ [(t4, partOf (says ns tbl r) part z, d1)], rsx ++ [t6], ?_, ?_, ?_⟩
    · rw [upd_ne (ne_of_none e nl4)]
      exact k6 _ _ (k410 _ _ e)
    · rw [upd_same, map_snoc]
    · rw [← List.append_assoc]
      refine paired_join (Paired.mapP pr8 fun r it h => h.but ⟨_, ol8⟩ B8) ⟨v2, t5, ?_, g2, keep (fun _ z => by cases z) ot5, ?_, fun i hi => pt8.2.2 i (List.mem_filter.mp hi).1⟩
      · rw [upd_ne lt6, upd_same]
        show some (HO.tup [v2, V.ref t5, V.int (((d1 + 1 : Nat) : Int) - 1)]) = some (HO.tup [v2, V.ref t5, V.int (d1 : Int)])
        rw [e1d]
      · exact Nat.lt_of_le_of_lt (List.length_filter_le _ _) pt8.2.1
    · have ep : of.take (i + 1) = of.take i ++ [r] := by rw [List.take_succ, er]; rfl
      rw [ep, map_snoc, map_snoc, ecs]
      congr 2
      unfold childT
      rw [lk, pairT_int, ez]
      show (if z ∈ answersOf (says ns tbl r) part then some (t4, partOf (says ns tbl r) part z, d1) else none) = _
      rw [if_pos zin]
end
end L2.TB
/-! what hold tells is a hold -/
namespace L2.TB
open PySem PySem.Spec PyProof.Rows
theorem look_map (g : Str → Hd) : ∀ {l : List Str} {q : Str}, q ∈ l → lookT (l.map fun q => (q, g q)) q = some (g q)
  | a :: l, q, h => by
    show (if a = q then some (g a) else lookT (l.map fun q => (q, g q)) q) = _
    by_cases e : a = q
    · rw [if_pos e, e]
    · rw [if_neg e]
      rcases List.mem_cons.mp h with z | z
      · exact absurd z.symm e
      · exact look_map g z
theorem look_map_in (g : Str → Hd) : ∀ {l : List Str} {q : Str} {t : Hd}, lookT (l.map fun q => (q, g q)) q = some t → t = g q
  | [], _, _, h => by cases h
  | a :: l, q, t, h => by
    have h : (if a = q then some (g a) else lookT (l.map fun q => (q, g q)) q) = some t := h
    by_cases e : a = q
    · rw [if_pos e] at h
      rw [← Option.some.inj h, e]
    · rw [if_neg e] at h
      exact look_map_in g h
section
variable {sy : Str → Nat → Int} {x : Str} {of : List Str}
theorem hold_holds : ∀ (d : Nat) {part : List Nat}, 0 < part.length → hardP (bestS none sy x of part).1 d = true → holdsB sy x of d part (holdT sy x of d part) = true
  | 0, part, _, _ => rfl
  | d + 1, part, pos, h => by
    obtain ⟨one, hard⟩ := (hard_step pos d).mp h
    show holdsB sy x of (d + 1) part (.di (of.map fun q => (q, entT sy x of d part q))) = true
    rw [holdsB_di, decide_eq_true one, decide_eq_true (by rw [List.length_map]), Bool.true_and, Bool.true_and]
    refine List.all_eq_true.mpr fun q hq => ?_
    obtain ⟨z1, z2, _⟩ := first_hard (hard q hq)
    unfold okQ childT
    rw [look_map _ hq]
    show (match (if firstHard sy x of part d q ∈ answersOf (sy q) part then some (holdT sy x of d (partOf (sy q) part (firstHard sy x of part d q)), partOf (sy q) part (firstHard sy x of part d q), d) else none : Option Itm) with
      | some c => holdI sy x of c
      | none => false) = true
    rw [if_pos z1]
    exact hold_holds d (List.length_pos_iff.mpr (part_some z1)) z2
end
end L2.TB
/-! check_weights; fewest, refused -/
namespace L2.TB
open PySem PySem.Spec PyProof.Rows
/-- the first that is no weight -/
def badW : List V → Nat → Option Nat
  | [], _ => none
  | .int k :: r, i => if 0 < k then badW r (i + 1) else some i
  | _ :: _, i => some i
/-- what is wrong with weights of m rows -/
inductive BadWt (K : PySem.W.Frag) (H : Hp) (m : Nat) : V → Option Nat → Prop
  | no {v : V} (h : NoSeq K H v) : BadWt K H m v (some 0)
  | seq {a : Addr} {xs : List V} (h : SqA K H a xs) (at_ : ∀ x ∈ xs, Atom x) (short : xs.length < 1000) : BadWt K H m (.ref a) ((badW xs 0).or (if xs.length = m then none else some xs.length))
theorem BadWt.same {K : PySem.W.Frag} {H H' : Hp} {m : Nat} {v : V} {r : Option Nat} (h : BadWt K H m v r) (s : Same H H') : BadWt K H' m v r := by
  cases h with
  | no h => exact .no (h.same s)
  | seq h a l => exact .seq (h.same s) a l
def spCkW (K : PySem.W.Frag) (CW : Addr) : Sp := fun vs H Q E => ∃ (v : V) (m : Nat) (r : Option Nat), vs = [v, .int m] ∧ BadWt K H m v r ∧ (r = none → ∀ H', Same H H' → Q .non H') ∧ ∀ i : Nat, r = some i → Flies CW "index" (.int i) H E
abbrev NCw : List Str := ["weights", "many", "index", "weight"]
theorem scCw : FnScope NCw ["weights", "many"] (defScope sCkW) := ⟨rfl, rfl, rfl, by decide +kernel, rfl, by decide +kernel, by decide +kernel⟩
section
variable {P : Program} {w : World} {K : PySem.W.Frag} {mg : Str → Option Value} {base : Heap} {f fL fC CW : Addr} {fd fdL fdC : FuncData}
theorem atom_noInt {v : V} (h : Atom v) (n : ∀ k, v ≠ .int k) (K : PySem.W.Frag) (H : Hp) : NoInt K H v := by
  cases h with
  | int k => exact absurd rfl (n k)
  | bl b => exact .bl b
  | str x => exact .ty (.base (.str x)) (by decide +kernel)
  | non => exact .ty (.base .non) (by decide +kernel)
theorem badW_step {v : V} {xs : List V} {i : Nat} (h : xs[i]? = some v) : badW (xs.drop i) i = badW (v :: xs.drop (i + 1)) i := by
  have lt : i < xs.length := (List.getElem?_eq_some_iff.mp h).1
  rw [List.drop_eq_getElem_cons lt, (List.getElem?_eq_some_iff.mp h).2]
theorem ok_ckW (F : Fun K "check_weights" "check_weights" sCkW f fd) (GL : FnOk P w K mg base CX0 1 fL fdL ["thing"] (spIsListG K)) (gL : mg "is_list" = some (.ref fL)) (FL : Fun K "is_list" "is_list" sIsList fL fdL) (GC : FnOk P w K mg base CX0 2 fC fdC ["thing"] (spIsCountG K)) (gC : mg "is_count" = some (.ref fC)) (FC : Fun K "is_count" "is_count" sIsCount fC fdC)
    (EW : ErrF P w K mg base "BadWeight" CW "index") (nE : mg "enumerate" = none) (nN : mg "len" = none) : FnOk P w K mg base (L2.CX P w) 4 f fd ["weights", "many"] (spCkW K CW) := by
  have bL := FL.binds (ps := ["thing"]) fun _ _ _ _ _ _ us hl => match us, hl with | [_], _ => rfl
  have bC := FC.binds (ps := ["thing"]) fun _ _ _ _ _ _ us hl => match us, hl with | [_], _ => rfl
  refine F.okX scCw (fun vs H Q E h => by obtain ⟨v, m, r, e, _⟩ := h; rw [e]; rfl) fun cdv A outer s H vs Q E hr hsp => ?_
  obtain ⟨v, m, r, rfl, hB, hq, hf⟩ := hsp
  have nd := scCw.nd
  refine ⟨_, pss_cons (ps_if (pt_not (pt_val (pe_call GL (hr.mono (by decide)) rfl gL FL.kp bL .nil pass0 (pa_cons (pv 0) pa_nil)))) (pss_one (ps_raiseE rfl (takes_of rfl rfl rfl rfl) EW (hr.mono (by decide)) rfl pe_int)) pss_nil)
    (pss_cons (ps_for (passes_of rfl) rfl (pi_enumS rfl nE (pa_cons (pv 0) pa_nil)) (pg_tup rfl (pgs_cons (pg_name (i := 2) nd rfl (Or.inl rfl)) (pgs_cons (pg_name (i := 3) nd rfl (Or.inl rfl)) pgs_nil)))
      (pss_one (ps_if (PW.pt (pw_or (pt_not (pt_val (pe_call GC (hr.mono (by decide)) rfl gC FC.kp bC .nil pass0 (pa_cons (pv 3) pa_nil)))) (pw_or1 (pt_cmpR op_eq (pv 3) pe_int (nomark _))))) (pss_one (ps_raiseE rfl (takes_of rfl rfl rfl rfl) EW (hr.mono (by decide)) rfl (pv 2))) pss_nil)))
    (pss_one (ps_if (pt_cmpR op_ne (pe_callB call_len_seq rfl nN boot_len (pa_cons (pv 0) pa_nil)) (pv 1) (nomark _)) (pss_one (ps_raiseE rfl (takes_of rfl rfl rfl rfl) EW (hr.mono (by decide)) rfl (pe_callB call_len_seq rfl nN boot_len (pa_cons (pv 0) pa_nil)))) pss_nil))), ?_⟩
  cases hB with
  | no hN => exact ⟨_, rfl, _, rfl, .inr ⟨hN, fun H1 k1 => ⟨_, rfl, iteT (((hf 0 rfl).same k1).up EW)⟩⟩⟩
  | @seq a xs hS hA short =>
  refine ⟨_, rfl, _, rfl, .inl ⟨⟨a, xs, rfl, hS⟩, fun H1 k1 => ⟨_, rfl, iteF ?_⟩⟩⟩
  obtain ⟨o, ho, ko⟩ : ∃ o, H1 a = some o ∧ (o = .lst xs ∨ o = .tup xs) := by
    rcases hS.same k1 with e | e
    · exact ⟨_, e, .inl rfl⟩
    · exact ⟨_, e, .inr rfl⟩
  refine ⟨_, rfl, enum_seq ko (fun i σ H' => badW xs 0 = badW (xs.drop i) i ∧ Same H1 H' ∧ ∃ s2 s3, σ = [some (.ref a), some (.int (m : Nat)), s2, s3])
    ⟨by rw [List.drop_zero], Same.refl _, _, _, rfl⟩ (fun i σ H' _ h => h.2.1 _ _ ho) ?_ ?_⟩
  · rintro i v σ H2 T ev ⟨eb, s2, s3, s4, rfl⟩ nT
    have kT := same_new (o := .tup [.int (i : Nat), v]) nT
    have k2 := (k1.trans s2).trans kT
    have hv := hA v (List.mem_of_getElem? ev)
    rw [badW_step ev] at eb
    refine ⟨T, _, rfl, SqT.of upd_same, rfl, ?_⟩
    refine ⟨_, _, rfl, _, _, rfl, rfl, ?_⟩
    have bad : badW (v :: xs.drop (i + 1)) i = some i → Flies CW "index" (.int i) (upd H2 T (.tup [.int (i : Nat), v])) E := fun e => by
      refine (hf i ?_).same k2
      rw [eb, e]
      rfl
    by_cases hk : ∃ k, v = .int k
    · obtain ⟨k, rfl⟩ := hk
      refine ⟨_, rfl, _, rfl, .inl ⟨k, rfl, _, rfl, ?_⟩⟩
      by_cases p0 : 0 < k
      · rw [decide_eq_true (show (0 : Int) ≤ k by omega)]
        refine iteF ⟨_, rfl, rfl, false, congrArg V.bl (decide_eq_false fun z => by have z := V.int.inj z; omega), iteF ?_⟩
        refine ⟨?_, s2.trans kT, _, _, rfl⟩
        rw [eb]
        show (if 0 < k then _ else _) = _
        rw [if_pos p0]
      · have fl := bad (by show (if 0 < k then _ else _) = _; rw [if_neg p0])
        by_cases z0 : k = 0
        · subst z0
          rw [decide_eq_true (show (0 : Int) ≤ 0 by omega)]
          exact iteF ⟨_, rfl, rfl, true, rfl, iteT ⟨_, rfl, fl.up EW⟩⟩
        · rw [decide_eq_false (show ¬ (0 : Int) ≤ k by omega)]
          exact iteT (iteT ⟨_, rfl, fl.up EW⟩)
    · have fl := bad (by
        cases hv with
        | int k => exact absurd ⟨k, rfl⟩ hk
        | bl b => rfl
        | str x => rfl
        | non => rfl)
      exact ⟨_, rfl, _, rfl, .inr ⟨atom_noInt hv (fun k z => hk ⟨k, z⟩) K _, _, rfl, iteT (iteT ⟨_, rfl, fl.up EW⟩)⟩⟩
  · rintro σ H2 ⟨eb, s2, s3, s4, rfl⟩
    rw [List.drop_length] at eb
    have k2 := k1.trans s2
    have hs2 := (hS.same k2).seq
    have eb2 : badW xs 0 = none := eb
    refine ⟨_, rfl, a, xs, rfl, hs2, _, rfl, rfl, ?_⟩
    by_cases lm : xs.length = m
    · refine ⟨false, congrArg V.bl (by rw [decide_eq_true (congrArg (fun n : Nat => V.int (n : Int)) lm)]; rfl), iteF (hq ?_ H2 k2)⟩
      rw [eb2, if_pos lm]
      rfl
    · refine ⟨true, congrArg V.bl (by rw [decide_eq_false (fun z : V.int (xs.length : Int) = V.int (m : Int) => lm (Int.ofNat.inj (V.int.inj z)))]; rfl), iteT ?_⟩
      exact ⟨_, rfl, a, xs, rfl, hs2, ((hf xs.length (by rw [eb2, if_neg lm]; rfl)).same k2).up EW⟩
end
end L2.TB
/-! len(table); fewest and mean_fewest, refused -/
namespace L2.TB
open PySem PySem.Spec PyProof.Rows
section
variable {X : Cx} {CX : CXT} {k : Nat} {f C : Addr} {fd : FuncData} {ps : List Str} {sp : Sp} {E : XK}
theorem rel_ref {v : V} {c : Addr} {u : Value} (e : v = .ref c) (r : RelV v u) : u = .ref c := by
  subst e
  exact r
/-- the method tells a whole number that is small -/
def rLenI (C : Addr) (sp : Sp) (E : XK) : List V → Hp → VK → Prop := fun xs H Q => ∃ a dx fs, xs = [.ref a] ∧ H a = some (.ins C dx fs) ∧ sp [.ref a] H (fun v H' => ∃ n : Int, v = .int n ∧ (0 ≤ n ∧ n < 2 ^ 63) ∧ Q (.int n) H') E
theorem call_lenI (F : FnOk X.prog X.w X.K X.mg X.base CX k f fd ps sp) (hr : Room (k + 1) X.A) (hm : Meth X.K C "__len__" f) (hb : Binds X.K fd ps []) (hx : Passes CX X E) : CallR X (.builtin "len") (rLenI C sp E) := by
  intro pins s σ H xs us Q I r h
  obtain ⟨a, dx, fs, rfl, ha, hsp⟩ := h
  obtain ⟨u, rfl, rx⟩ := vals1 r
  have eu := rel_ref rfl rx
  subst eu
  obtain ⟨mA, JA, _⟩ := ins_get I.hok ha
  obtain ⟨od, LA, _⟩ := JA.look
  obtain ⟨m, hF⟩ := I.fr
  refine PySem.W.len_K hF I.ok.mod.kin LA hm.at_ hm.fn ?_
  have e0 : Env0 X.prog X.w X.K X.mg X.base X.A.in1 X.stack s H := by
    have z := I.env0
    exact ⟨z.frames, z.mod, z.bs, z.bsz, z.funs, z.frf, z.hok, z.bare⟩
  have many := F.len _ _ _ _ hsp
  have two : Vals [V.ref a] [Value.ref a] := .cons rfl .nil
  have ok := F.run X.A.in1 X.stack s H ⟨[.ref a], []⟩ [.ref a] [.ref a] _ E hr.in1 e0 (by simpa using hb s [.ref a] I.kIn (by simpa using many)) two hsp
  refine wpAny_call (codeAny_mono ok fun q s' got => ?_)
  cases q with
  | error e => exact hx pins σ H s e s' I got
  | ok fl =>
    cases fl with
    | next => exact got.elim
    | brk => exact got.elim
    | cont => exact got.elim
    | ret v =>
      obtain ⟨t, H', I', rt, n, et, lim, qq⟩ := I.after got
      subst et
      obtain ⟨tk, ev⟩ := rt
      subst ev
      exact ⟨lim, .int n, H', I'.tok _, ⟨_, rfl⟩, qq⟩
end
def spLen (C : Addr) : Sp := fun vs H Q _ => ∃ (a : Addr) (ns : List Str) (tbl : List (List Int)), vs = [.ref a] ∧ TabAt H C a ns tbl ∧ tbl.length < 1000 ∧ Q (.int tbl.length) H
theorem scLen : FnScope ["self"] ["self"] (defScope sLenM) := ⟨rfl, rfl, rfl, by decide +kernel, rfl, by decide +kernel, by decide +kernel⟩
/-- what begins with asked_files, refused -/
def RefA (K : PySem.W.Frag) (CT CQ CK : Addr) (H : Hp) (E : XK) (t : Addr) (x o : V) : Prop := ∃ (ns : List Str) (tbl : List (List Int)), TabAt H CT t ns tbl ∧ ns.length < 1000 ∧ tbl.length < 1000 ∧
  ((BadAsk K H ns x ∧ Flies CQ "name" x H E) ∨ ∃ y, x = .str y ∧ y ∈ ns ∧ ∃ i : Nat, o ≠ .non ∧ Bad K H ns o (some i) ∧ Flies CK "index" (.int i) H E)
def spFewX (K : PySem.W.Frag) (CT CQ CK : Addr) : Sp := fun vs H Q E => ∃ (t : Addr) (x o : V), vs = [.ref t, x, o] ∧ RefA K CT CQ CK H E t x o
def spMeanX (K : PySem.W.Frag) (CT CQ CK CW : Addr) : Sp := fun vs H Q E => ∃ (t : Addr) (wv x o : V) (ns : List Str) (tbl : List (List Int)) (r : Option Nat), vs = [.ref t, wv, x, o] ∧ TabAt H CT t ns tbl ∧ tbl.length < 1000 ∧ BadWt K H tbl.length wv r ∧
  ((∃ i : Nat, r = some i ∧ Flies CW "index" (.int i) H E) ∨ (r = none ∧ RefA K CT CQ CK H E t x o))
abbrev NFw : List Str := ["table", "asked", "of", "search", "part"]
theorem scFw : FnScope NFw ["table", "asked", "of"] (defScope sFewest) := ⟨rfl, rfl, rfl, by decide +kernel, rfl, by decide +kernel, by decide +kernel⟩
abbrev NMw : List Str := ["table", "weights", "asked", "of", "search", "part", "cost", "weight", "common"]
theorem scMw : FnScope NMw ["table", "weights", "asked", "of"] (defScope sMeanF) := ⟨rfl, rfl, rfl, by decide +kernel, rfl, by decide +kernel, by decide +kernel⟩
section
variable {P : Program} {w : World} {K : PySem.W.Frag} {mg : Str → Option Value} {base : Heap} {f C CT CQ CK CN CW fN fW : Addr} {fd fdN fdW : FuncData}
theorem ok_len (F : Fun K "__len__" "Table.__len__" sLenM f fd) (T : TabC K C) (gN : mg "len" = none) : FnOk P w K mg base CX0 1 f fd ["self"] (spLen C) := by
  refine F.ok scLen (fun vs H Q E h => by obtain ⟨a, ns, tbl, e, _⟩ := h; rw [e]; rfl) fun cdv A outer s H vs Q E hr hsp => ?_
  obtain ⟨a, ns, tbl, rfl, tab, tsh, hq⟩ := hsp
  obtain ⟨dx, qa, ra, ha, hqa, ps, hps, prs⟩ := tab.ex
  refine ⟨_, pss_one (ps_ret (pe_callB call_len_seq rfl gN boot_len (pa_cons (pe_fld (pv 0) rfl) pa_nil))), ?_⟩
  refine ⟨_, rfl, a, C, dx, _, _, rfl, ha, T.cl, T.nR, rfl, ra, _, rfl, .inl (SqL.of hps), ?_⟩
  rw [List.length_map, Paired.length prs]
  exact hq
theorem ok_fewX (F : FunF K "fewest" sFewest f fd) (S : SeaP P w K mg base CT C CQ CK CN) : FnOk P w K mg base (L2.CX P w) 6 f fd ["table", "asked", "of"] (spFewX K CT CQ CK) := by
  obtain ⟨fI, fdI, Mk, GI, bI⟩ := S.mkr
  obtain ⟨fA, fdA, gA, kA, GA, bA⟩ := S.af
  refine FunD.ok F scFw (fun vs H Q E h => by obtain ⟨t, x, o, e, _⟩ := h; rw [e]; rfl) fun cdv A outer s H vs Q E hr hsp => ?_
  obtain ⟨t, x, o, rfl, ns, tbl, tab, nsh, _, hc⟩ := hsp
  have nd := scFw.nd
  refine ⟨_, pss_cons (ps_set (i := 3) nd rfl (Or.inl rfl) (pe_make Mk GI (hr.mono (by decide)) rfl S.gS bI .nil pass0 (pa_cons (pv 0) (pa_cons (pv 1) (pa_cons (pe_callS GA (hr.mono (by decide)) rfl gA kA bA (fun σ => passAt (takes_of rfl rfl rfl rfl) σ) (pa_cons (pv 0) (pa_cons (pv 1) (pa_cons (pv 2) pa_nil)))) (pa_cons pe_non pa_nil)))))) pss_never, ?_⟩
  refine ⟨_, rfl, _, rfl, _, rfl, _, rfl, _, rfl, t, x, o, ns, tbl, rfl, tab, nsh, ?_⟩
  rcases hc with ⟨bad, fl⟩ | ⟨y, rfl, yin, i, on, bad, fl⟩
  · exact .inl ⟨bad, fl⟩
  · exact .inr ⟨y, rfl, yin, .inr (.inl ⟨i, on, bad, fl⟩)⟩
theorem ok_meanX (F : FunF K "mean_fewest" sMeanF f fd) (S : SeaP P w K mg base CT C CQ CK CN) (T : TabC K CT) (FN : Fun K "__len__" "Table.__len__" sLenM fN fdN) (mN : Meth K CT "__len__" fN) (FW : Fun K "check_weights" "check_weights" sCkW fW fdW) (gW : mg "check_weights" = some (.ref fW))
    (GW : FnOk P w K mg base (L2.CX P w) 4 fW fdW ["weights", "many"] (spCkW K CW)) (nN : mg "len" = none) (nL : mg "list" = none) : FnOk P w K mg base (L2.CX P w) 6 f fd ["table", "weights", "asked", "of"] (spMeanX K CT CQ CK CW) := by
  obtain ⟨fI, fdI, Mk, GI, bI⟩ := S.mkr
  obtain ⟨fA, fdA, gA, kA, GA, bA⟩ := S.af
  have GN : FnOk P w K mg base CX0 1 fN fdN ["self"] (spLen CT) := ok_len FN T nN
  have bN := FN.binds (ps := ["self"]) fun _ _ _ _ _ _ us hl => match us, hl with | [_], _ => rfl
  have bW := FW.binds (ps := ["weights", "many"]) fun _ _ _ _ _ _ us hl => match us, hl with | [_, _], _ => rfl
  refine FunD.ok F scMw (fun vs H Q E h => by obtain ⟨t, wv, x, o, ns, tbl, r, e, _⟩ := h; rw [e]; rfl) fun cdv A outer s H vs Q E hr hsp => ?_
  obtain ⟨t, wv, x, o, ns, tbl, r, rfl, tab, tsh, bw, hc⟩ := hsp
  have nd := scMw.nd
  refine ⟨_, pss_cons (ps_expr (pe_callS GW (hr.mono (by decide)) rfl gW FW.kp bW (fun σ => passAt (takes_of rfl rfl rfl rfl) σ) (pa_cons (pv 1) (pa_cons (pe_callB (call_lenI GN (hr.mono (by decide)) mN bN pass0) rfl nN boot_len (pa_cons (pv 0) pa_nil)) pa_nil))))
    (pss_cons (ps_set (i := 4) nd rfl (Or.inl rfl) (pe_make Mk GI (hr.mono (by decide)) rfl S.gS bI .nil pass0 (pa_cons (pv 0) (pa_cons (pv 2) (pa_cons (pe_callS GA (hr.mono (by decide)) rfl gA kA bA (fun σ => passAt (takes_of rfl rfl rfl rfl) σ) (pa_cons (pv 0) (pa_cons (pv 2) (pa_cons (pv 3) pa_nil)))) (pa_cons (pe_callTy call_list_of rfl nL boot_list' (pa_cons (pv 1) pa_nil)) pa_nil)))))) pss_never), ?_⟩
  obtain ⟨dx, qa, ra, ha, hqa, hra⟩ := id tab.ex
  refine ⟨_, rfl, _, rfl, t, dx, _, rfl, ha, t, ns, tbl, rfl, tab, tsh, _, rfl, ⟨by omega, by omega⟩, wv, tbl.length, r, rfl, bw, fun er H1 k1 => ?_, fun i er => ?_⟩
  · rcases hc with ⟨i, e2, _⟩ | ⟨_, ns2, tbl2, tab2, nsh, _, hc⟩
    · rw [er] at e2; cases e2
    refine ⟨_, rfl, _, rfl, _, rfl, _, rfl, _, rfl, t, x, o, ns2, tbl2, rfl, tab2.same k1, nsh, ?_⟩
    rcases hc with ⟨bad, fl⟩ | ⟨y, rfl, yin, i, on, bad, fl⟩
    · exact .inl ⟨bad.same k1, fl.same k1⟩
    · exact .inr ⟨y, rfl, yin, .inr (.inl ⟨i, on, bad.same k1, fl.same k1⟩)⟩
  · rcases hc with ⟨j, e2, fl⟩ | ⟨e2, _⟩
    · rw [er] at e2
      cases e2
      exact fl
    · rw [er] at e2; cases e2
end
end L2.TB
/-! the methods of a search put together -/
namespace L2.TB
open PySem PySem.Spec PyProof.Rows
section
variable {P : Program} {w : World} {K : PySem.W.Frag} {mg : Str → Option Value} {base : Heap} {C fP fO fQ fB fC fH fM : Addr} {fdH fdM : FuncData}
theorem ok_hard10 (M : SeaM K mg C fP fO fQ fB fC) (FH : Fun K "is_hard" "Search.is_hard" sIsHard fH fdH) : FnOk P w K mg base CX0 32 fH fdH ["self", "part", "depth"] (spIsHard C 10) := by
  obtain ⟨fdC, FC⟩ := M.Ct
  exact ok_isHard FH M.c FC M.mC (ok_cost M 10 FC)
theorem ok_holdD (M : SeaM K mg C fP fO fQ fB fC) (FH : Fun K "is_hard" "Search.is_hard" sIsHard fH fdH) (mH : Meth K C "is_hard" fH) (FM : Fun K "hold" "Search.hold" sHoldM fM fdM) (mM : Meth K C "hold" fM) : ∀ d : Nat, FnOk P w K mg base CX0 (32 + d) fM fdM ["self", "part", "depth"] (spHold C d)
  | 0 => (ok_hold0 FM).mono (by omega)
  | d + 1 => by
    obtain ⟨fdP, FP⟩ := M.P
    have GP : FnOk P w K mg base CX0 1 fP fdP ["self", "part", "question"] (spPartsOf 0 none C) := ok_partsOf FP M.c M.nT
    exact ok_holdS (k := 32 + d) FM mM M.c FP M.mP GP FH mH ((ok_hard10 M FH).mono (Nat.le_add_right 32 d)) (Nat.le_trans (by decide) (Nat.le_add_right 32 d)) (ok_holdD M FH mH FM mM d)
theorem ok_holdA (M : SeaM K mg C fP fO fQ fB fC) (FH : Fun K "is_hard" "Search.is_hard" sIsHard fH fdH) (mH : Meth K C "is_hard" fH) (FM : Fun K "hold" "Search.hold" sHoldM fM fdM) (mM : Meth K C "hold" fM) : FnOk P w K mg base CX0 36 fM fdM ["self", "part", "depth"] (spHoldA C) :=
  ⟨fun vs H Q E h => by obtain ⟨d, _, a, pa, bs, ns, tbl, x, of, part, e, _⟩ := h; rw [e]; rfl, fun A outer s H args us vs Q E hr he hb hv hs => by
    obtain ⟨d, hd, hs⟩ := hs
    exact (ok_holdD M FH mH FM mM d).run A outer s H args us vs Q E (hr.mono (by omega)) he hb hv hs⟩
theorem ok_seaP {CT CQ CK CN fI fW fA fCt fR fQs aF aL aO aK aA aB fIn : Addr} {fdI fdW fdA fdCt fdR fdQs fdIn : FuncData} (M : SeaM K mg C fP fO fQ fB fC) (gS : mg "Search" = some (.ref C)) (Mk : Mk K C fI) (FI : Fun K "__init__" "Search.__init__" sSInit fI fdI) (T : TabC K CT)
    (FR : Fun K "rows" "Table.rows" sRowsM fR fdR) (mR : Meth K CT "rows" fR) (GR : FnOk P w K mg base CX0 2 fR fdR ["self"] (spRowsM CT)) (FW : Fun K "whole" "Search.whole" sWhole fW fdW) (mW : Meth K C "whole" fW) (FH : Fun K "is_hard" "Search.is_hard" sIsHard fH fdH) (mH : Meth K C "is_hard" fH) (FM : Fun K "hold" "Search.hold" sHoldM fM fdM) (mM : Meth K C "hold" fM)
    (FA : Fun K "asked_files" "asked_files" sAskF fA fdA) (gA : mg "asked_files" = some (.ref fA)) (FQs : Fun K "questions" "Table.questions" sQs fQs fdQs) (mQs : Meth K CT "questions" fQs) (Ck : Chk K mg aF aL aO aK aA aB) (EK : ErrF P w K mg base "BadKnown" CK "index") (EQ : ErrF P w K mg base "NoQuestion" CQ "name") (EN : ErrF P w K mg base "BadNumber" CN "thing")
    (FCt : Fun K "is_count" "is_count" sIsCount fCt fdCt) (gCt : mg "is_count" = some (.ref fCt)) (FIn : Fun K "is_integer" "is_integer" sIsInt fIn fdIn) (gIn : mg "is_integer" = some (.ref fIn)) (nI : mg "isinstance" = none) (nInt : mg "int" = none) (nB : mg "bool" = none) (nL : mg "list" = none) (nR : mg "range" = none) : SeaP P w K mg base CT C CQ CK CN where
  gS := gS
  c := M.c
  mkr := ⟨fI, fdI, Mk, ok_sinit FI M.c T FR mR GR, FI.binds (ps := NSi) fun _ _ _ _ _ _ us hl => match us, hl with | [_, _, _, _, _], _ => rfl⟩
  wh := ⟨fW, fdW, mW, ok_whole FW M.c M.nT nR M.nN, FW.binds (ps := ["self"]) fun _ _ _ _ _ _ us hl => match us, hl with | [_], _ => rfl⟩
  hard := ⟨fH, fdH, mH, ok_hard10 M FH, FH.binds (ps := ["self", "part", "depth"]) fun _ _ _ _ _ _ us hl => match us, hl with | [_, _, _], _ => rfl⟩
  hold := ⟨fM, fdM, mM, ok_holdA M FH mH FM mM, FM.binds (ps := ["self", "part", "depth"]) fun _ _ _ _ _ _ us hl => match us, hl with | [_, _, _], _ => rfl⟩
  af := ⟨fA, fdA, gA, FA.kp, ok_askF FA T FQs mQs Ck EK EQ nL, FA.binds (ps := ["field", "asked", "of"]) fun _ _ _ _ _ _ us hl => match us, hl with | [_, _, _], _ => rfl⟩
  ct := ⟨fCt, fdCt, gCt, FCt.kp, ok_isCountG FCt FIn gIn nI nInt nB, FCt.binds (ps := ["thing"]) fun _ _ _ _ _ _ us hl => match us, hl with | [_], _ => rfl⟩
  EN := EN
end
end L2.TB
/-! trees; the best trees of a part -/
namespace L2.TB
open PySem PySem.Spec PyProof.Rows
variable {ws : Option (List Int)}
inductive Qt
  | leaf (z : Int)
  | node (q : Str) (ks : List (Int × Qt))
inductive QtAt (A : Addr → Prop) (H : Hp) : Qt → V → Prop
  | leaf (z : Int) : QtAt A H (.leaf z) (.int z)
  | node {a d : Addr} {q : Str} {es : List (Key × V)} {ks : List (Int × Qt)} (oa : A a) (od : A d) (h : H a = some (.tup [.str q, .ref d])) (hd : H d = some (.dK es)) (ek : es.map (·.1) = ks.map fun e => Sum.inl e.1) (nd : (ks.map (·.1)).Nodup) (sh : ks.length < 1000)
      (al : ∀ (i : Nat) (k : Key) (u : V) (z : Int) (t : Qt), es[i]? = some (k, u) → ks[i]? = some (z, t) → QtAt A H t u) : QtAt A H (.node q ks) (.ref a)
theorem QtAt.keep {A A' : Addr → Prop} {H H' : Hp} {t : Qt} {v : V} (h : QtAt A H t v) (hA : ∀ b, A b → A' b) (s : ∀ b o, A b → H b = some o → ((∃ l, o = .tup l) ∨ ∃ l, o = .dK l) → H' b = some o) : QtAt A' H' t v := by
  induction h with
  | leaf z => exact .leaf z
  | node oa od h hd ek nd sh _ ih => exact .node (hA _ oa) (hA _ od) (s _ _ oa h (.inl ⟨_, rfl⟩)) (s _ _ od hd (.inr ⟨_, rfl⟩)) ek nd sh ih
theorem QtAt.same {A : Addr → Prop} {H H' : Hp} {t : Qt} {v : V} (h : QtAt A H t v) (s : Same H H') : QtAt A H' t v := h.keep (fun _ z => z) fun b o _ e _ => s b o e
theorem QtAt.but {A : Addr → Prop} {H H' : Hp} {bs : Addr} {t : Qt} {v : V} (h : QtAt A H t v) (T : IsT H bs) (s : ButB bs H H') : QtAt A H' t v := h.keep (fun _ z => z) fun b o _ e k => s b o (fun z => by
  obtain ⟨l, et⟩ := T
  rw [z, et] at e
  obtain rfl := Option.some.inj e
  rcases k with ⟨_, k⟩ | ⟨_, k⟩ <;> cases k) e
theorem QtAt.butS {A : Addr → Prop} {H H' : Hp} {l ls : Addr} {N : Int} {t : Qt} {v : V} (h : QtAt A H t v) (S : Strm H l ls N) (s : But l ls H H') : QtAt A H' t v := h.keep (fun _ z => z) fun b o _ e k => by
  obtain ⟨cs, g, m, j, S⟩ := S
  refine s b o (fun z => ?_) (fun z => ?_) e
  · rw [z, S.o] at e
    obtain rfl := Option.some.inj e
    rcases k with ⟨_, k⟩ | ⟨_, k⟩ <;> cases k
  · rw [z, S.c] at e
    obtain rfl := Option.some.inj e
    rcases k with ⟨_, k⟩ | ⟨_, k⟩ <;> cases k
/-- the entries of a node's dict -/
def QtP (A : Addr → Prop) (H : Hp) (es : List (Key × V)) (ks : List (Int × Qt)) : Prop := Paired (fun (e : Key × V) (z : Int × Qt) => e.1 = Sum.inl z.1 ∧ QtAt A H z.2 e.2) es ks
theorem QtP.keys {A : Addr → Prop} {H : Hp} {es : List (Key × V)} {ks : List (Int × Qt)} (h : QtP A H es ks) : es.map (·.1) = ks.map fun e => Sum.inl e.1 := by
  unfold QtP at h
  induction h with
  | nil => rfl
  | cons q _ ih => rw [List.map_cons, List.map_cons, ih, q.1]
theorem QtP.keep {A A' : Addr → Prop} {H H' : Hp} {es : List (Key × V)} {ks : List (Int × Qt)} (h : QtP A H es ks) (hA : ∀ b, A b → A' b) (s : ∀ b o, A b → H b = some o → ((∃ l, o = .tup l) ∨ ∃ l, o = .dK l) → H' b = some o) : QtP A' H' es ks := Paired.mapP h fun _ _ z => ⟨z.1, z.2.keep hA s⟩
section
variable {sy : Str → Nat → Int} {x : Str} {of : List Str}
abbrev subC (ws : Option (List Int)) (sy : Str → Nat → Int) (x : Str) (of : List Str) (part : List Nat) (q : Str) : List (Option Int) := (answersOf (sy q) part).map fun v => (bestS ws sy x of (partOf (sy q) part v)).1
theorem fold_q (part : List Nat) (l : List Str) : (foldQ ws sy x of part l = (none, none)) ∨ ∃ c q, q ∈ l ∧ foldQ ws sy x of part l = (some c, some q) ∧ 1 < (answersOf (sy q) part).length ∧ costOf ws part (subC ws sy x of part q) = some c := by
  induction l using rev_ind with
  | h0 => exact .inl rfl
  | hs l q ih =>
    rw [fold_snoc]
    have keep : (foldQ ws sy x of part l = (none, none)) ∨ ∃ c q', q' ∈ l ++ [q] ∧ foldQ ws sy x of part l = (some c, some q') ∧ 1 < (answersOf (sy q') part).length ∧ costOf ws part (subC ws sy x of part q') = some c := ih.imp id fun ⟨c, q', h, r⟩ => ⟨c, q', List.mem_append_left _ h, r⟩
    unfold stepQ
    by_cases big : 1 < (answersOf (sy q) part).length
    · rw [if_pos big]
      cases ec : costOf ws part (subC ws sy x of part q) with
      | none =>
        exact keep
      | some c =>
        have new : ∃ c' q', q' ∈ l ++ [q] ∧ ((some c, some q) : Option Int × Option Str) = (some c', some q') ∧ 1 < (answersOf (sy q') part).length ∧ costOf ws part (subC ws sy x of part q') = some c' := ⟨c, q, by simp, rfl, big, ec⟩
        rcases keep with k | ⟨c', q', k1, k2, k3⟩
        · rw [k]
          exact .inr new
        · rw [k2]
          show (if c < c' then _ else _) = _ ∨ ∃ c'' q'', _ ∧ (if c < c' then _ else _) = _ ∧ _
          by_cases lt : c < c'
          · rw [if_pos lt]; exact .inr new
          · rw [if_neg lt]; exact .inr ⟨c', q', k1, rfl, k3⟩
    · rw [if_neg big]
      exact keep
/-- what the best is: none, a leaf, or a question with the best of its parts -/
theorem best_is (part : List Nat) : (bestS ws sy x of part = (none, none) ∧ (answersOf (sy x) part).length ≠ 1) ∨ ((answersOf (sy x) part).length = 1 ∧ bestS ws sy x of part = (some 0, none)) ∨
    ((answersOf (sy x) part).length ≠ 1 ∧ ∃ c q, q ∈ of ∧ bestS ws sy x of part = (some c, some q) ∧ 1 < (answersOf (sy q) part).length ∧ costOf ws part (subC ws sy x of part q) = some c) := by
  have e := bestS_eq (ws := ws) sy x of part
  by_cases one : (answersOf (sy x) part).length = 1
  · rw [if_pos one] at e
    exact .inr (.inl ⟨one, e⟩)
  · rw [if_neg one] at e
    have e : bestS ws sy x of part = foldQ ws sy x of part of := e
    rcases fold_q (ws := ws) (sy := sy) (x := x) (of := of) part of with h | ⟨c, q, h1, h2, h3⟩
    · exact .inl ⟨e.trans h, one⟩
    · exact .inr (.inr ⟨one, c, q, h1, e.trans h2, h3⟩)
theorem cost_all {part : List Nat} {cs : List (Option Int)} {c : Int} (h : costOf ws part cs = some c) : ∀ o ∈ cs, ∃ z, o = some z := fun o ho => by
  unfold costOf at h
  by_cases n : none ∈ cs
  · rw [if_pos n] at h; cases h
  · cases o with
    | none => exact absurd ho n
    | some z => exact ⟨z, rfl⟩
/-- a best tree for a part -/
inductive BT (ws : Option (List Int)) (sy : Str → Nat → Int) (x : Str) (of : List Str) : List Nat → Qt → Prop
  | leaf {part : List Nat} (one : (answersOf (sy x) part).length = 1) : BT ws sy x of part (.leaf (sy x (part.headD 0)))
  | node {part : List Nat} {q : Str} {ks : List (Int × Qt)} {c : Int} (ne : (answersOf (sy x) part).length ≠ 1) (hq : q ∈ of) (big : 1 < (answersOf (sy q) part).length) (ek : ks.map (·.1) = answersOf (sy q) part) (best : (bestS ws sy x of part).1 = some c) (cost : costOf ws part (subC ws sy x of part q) = some c)
      (sub : ∀ v t, (v, t) ∈ ks → BT ws sy x of (partOf (sy q) part v) t) : BT ws sy x of part (.node q ks)
end
end L2.TB
/-! the method tree -/
namespace L2.TB
open PySem PySem.Spec PyProof.Rows
variable {wa : Addr} {ws : Option (List Int)}
theorem dc_it {J : It} {n : Nat} {G : Hp → Prop} {Y : Nat → Hp → V → Hp → Prop} (w : Walk J n G Y) {g : TG} {tt : TT} {tk tv : TE} {vs : List Nat} {σ : St} {H1 : Hp} {D : Addr} {Qd : Hp → Prop} (Pv : Nat → Hp → Prop) (h0 : Pv 0 (upd H1 D (.dK []))) (hG : ∀ i H, i ≤ n → Pv i H → G H)
    (hs : ∀ i x H H', i < n → Pv i H → Y i H x H' → g x (wipe σ vs) H' fun σ2 H2 => wipe σ2 vs = wipe σ vs ∧ tt σ2 H2 fun b H3 =>
      if b = true then tk σ2 H3 fun y H4 => tv σ2 H4 fun z H5 => ∃ kvs k, y = kV k ∧ H5 D = some (.dK kvs) ∧ kvs.length < sizeLine ∧ Pv (i + 1) (upd H5 D (.dK (putK kvs k z))) else Pv (i + 1) H3) (hd : ∀ H, Pv n H → Qd H) :
    ∃ W : Nat → Nat → Hp → Prop, (∃ m, W 0 m (upd H1 D (.dK []))) ∧ ∀ i m H, W i m H →
      (J.stop i H ∧ Qd H) ∨ (J.go i H ∧ ∃ Nx : Hp → Prop, (∀ H', Nx H' → ∃ m', m' < m ∧ W (i + 1) m' H') ∧ ∀ x H', J.yld i H x H' → g x (wipe σ vs) H' fun σ2 H2 => wipe σ2 vs = wipe σ vs ∧ tt σ2 H2 fun b H3 =>
        if b = true then tk σ2 H3 fun y H4 => tv σ2 H4 fun z H5 => ∃ kvs k, y = kV k ∧ H5 D = some (.dK kvs) ∧ kvs.length < sizeLine ∧ Nx (upd H5 D (.dK (putK kvs k z))) else Nx H3) := by
  refine ⟨fun i m H => m = n - i ∧ i ≤ n ∧ Pv i H, ⟨n, by simp, Nat.zero_le _, h0⟩, ?_⟩
  rintro i m H ⟨rfl, hi, p⟩
  have q := hG i H hi p
  by_cases hlt : i < n
  · refine .inr ⟨w.goes i H hlt q, Pv (i + 1), fun H' p' => ⟨n - (i + 1), by omega, rfl, hlt, p'⟩, fun x H' y => hs i x H H' hlt p (w.yields i H x H' hlt q y)⟩
  · have e : i = n := by omega
    subst e
    exact .inl ⟨w.stops H q, hd H p⟩
def spTreeM (wa : Addr) (ws : Option (List Int)) (C : Addr) (n : Nat) : Sp := fun vs H Q _ => ∃ (a pa bs : Addr) (ns : List Str) (tbl : List (List Int)) (x : Str) (of : List Str) (part : List Nat), vs = [.ref a, .ref pa] ∧ SeaAt wa ws H C a ns tbl x of bs ∧ MemoAt ws H bs (says ns tbl) x of tbl.length ∧ H pa = some (.tup (part.map natV)) ∧ part.Sublist (List.range tbl.length) ∧ 0 < part.length ∧ part.length ≤ n ∧ tbl.length ≤ 10 ∧
  (bestS ws (says ns tbl) x of part).1 ≠ none ∧ ∀ H' v t, ButB bs H H' → MemoAt ws H' bs (says ns tbl) x of tbl.length → QtAt (fun b => H b = none) H' t v → BT ws (says ns tbl) x of part t → Q v H'
abbrev NTm : List Str := ["self", "part", "question", "parts", "answer"]
theorem scTm : FnScope NTm ["self", "part"] (defScope sTreeM) := ⟨rfl, rfl, rfl, by decide +kernel, rfl, by decide +kernel, by decide +kernel⟩
section
variable {P : Program} {w : World} {K : PySem.W.Frag} {mg : Str → Option Value} {base : Heap} {f C fP fB : Addr} {fd fdP fdB : FuncData} {k : Nat}
theorem ok_tree0 (f : Addr) (fd : FuncData) : FnOk P w K mg base CX0 1 f fd ["self", "part"] (spTreeM wa ws C 0) :=
  ⟨fun vs H Q E h => by obtain ⟨a, pa, bs, ns, tbl, x, of, part, e, _⟩ := h; rw [e]; rfl, fun A outer s H args us vs Q E hr he hb hv hs => by
      obtain ⟨a, pa, bs, ns, tbl, x, of, part, _, _, _, _, _, h1, h2, _⟩ := hs
      omega⟩
theorem ok_treeS {n : Nat} (F : Fun K "tree" "Search.tree" sTreeM f fd) (mF : Meth K C "tree" f) (S : SeaC K C) (FP : Fun K "parts_of" "Search.parts_of" sPartsOf fP fdP) (mP : Meth K C "parts_of" fP) (GP : FnOk P w K mg base CX0 1 fP fdP ["self", "part", "question"] (spPartsOf wa ws C))
    (FB : Fun K "_best" "Search._best" sBest fB fdB) (mB : Meth K C "_best" fB) (GB : FnOk P w K mg base CX0 k fB fdB ["self", "part"] (spBest wa ws C 10)) (hk : 1 ≤ k) (GR : FnOk P w K mg base CX0 k f fd ["self", "part"] (spTreeM wa ws C n)) : FnOk P w K mg base CX0 (k + 1) f fd ["self", "part"] (spTreeM wa ws C (n + 1)) := by
  have bP := FP.binds (ps := ["self", "part", "question"]) fun _ _ _ _ _ _ us hl => match us, hl with | [_, _, _], _ => rfl
  have bB := FB.binds (ps := ["self", "part"]) fun _ _ _ _ _ _ us hl => match us, hl with | [_, _], _ => rfl
  have bR := F.binds (ps := ["self", "part"]) fun _ _ _ _ _ _ us hl => match us, hl with | [_, _], _ => rfl
  refine F.ok scTm (fun vs H Q E h => by obtain ⟨a, pa, bs, ns, tbl, x, of, part, e, _⟩ := h; rw [e]; rfl) fun cdv A outer s H vs Q E hr hsp => ?_
  obtain ⟨a, pa, bs, ns, tbl, x, of, part, rfl, sea, memo, hpa, sub, pos, lp, few, can, hq⟩ := hsp
  obtain ⟨dx, rL, oL, as, h1, h2, h3, h4⟩ := id sea.ex
  obtain ⟨lm, below⟩ := range_below sub
  have nd := scTm.nd
  have hu := hu_of (hr.mono hk)
  have isT := memo.isT
  have nB : ∀ {b : Addr} {o : HO}, (∀ l, o ≠ .dT l) → H b = some o → b ≠ bs := fun no e z => by
    obtain ⟨kvs, et⟩ := isT
    rw [z, et] at e
    exact no _ (Option.some.inj e).symm
  have naB := nB (fun _ z => by cases z) h1
  have npB := nB (fun _ z => by cases z) hpa
  refine ⟨_, pss_cons (ps_set (i := 2) nd rfl (Or.inl rfl) (pe_ix (r := rIxT K) ix_tup (pe_meth (pv 0) S.cl mB GB hr bB .nil pass0 (pa_cons (pv 1) pa_nil)) pe_int (fun _ _ => rfl)))
    (pss_cons (ps_if (pt_cmp (pc_isN (pv 2))) (pss_one (ps_ret (pe_dget hu (pe_ix (r := rIxL K) ix_list (pe_fld (pv 0) rfl) (pe_ix (r := rIxT K) ix_tup (pv 1) pe_int (fun _ _ => rfl)) (fun _ _ => rfl)) (pe_fld (pv 0) rfl) (fun _ _ => rfl)))) pss_nil)
    (pss_cons (ps_set (i := 3) nd rfl (Or.inr rfl) (pe_meth (pv 0) S.cl mP GP (hr.mono hk) bP .nil pass0 (pa_cons (pv 1) (pa_cons (pv 2) pa_nil))))
    (pss_one (ps_ret (pe_tup (pa_cons (pv 2) (pa_cons (pe_lock (pe_dc (own := [("answer", 4)]) (g := gName 4) (tt := tYes) (tk := tVar 4) rfl nd (pi_keys (pv 3)) (blkOk_by (N := NTm) (sc := defScope sTreeM) (by decide +kernel)) (fun _ _ _ _ _ => pg_name (i := 4) nd rfl (Or.inl rfl)) (fun _ _ _ _ _ => pts_nil)
      (fun _ _ _ _ _ => pv 4) (fun _ _ _ _ _ => pe_meth (pv 0) S.cl mF GR hr bR .nil pass0 (pa_cons (pe_dget hu (pv 3) (pv 4) (fun _ _ => rfl)) pa_nil)))) pa_nil))))))), ?_⟩
  refine ⟨_, rfl, a, dx, _, rfl, h1, rfl, _, rfl, a, pa, bs, ns, tbl, x, of, part, rfl, sea, memo, hpa, sub, pos, by omega, few, fun H1 bt B1 M1 obt => ?_⟩
  refine ⟨bt, _, 1, _, rfl, rfl, SqT.of obt, rfl, ?_⟩
  rcases best_is (ws := ws) (sy := says ns tbl) (x := x) (of := of) part with ⟨e, _⟩ | ⟨one, e⟩ | ⟨ne, c, q, hqo, e, big, hc⟩
  · rw [e] at can; exact absurd rfl can
  · rw [e]
    refine ⟨_, rfl, _, rfl, iteT ?_⟩
    obtain ⟨i, r, rfl⟩ : ∃ i r, part = i :: r := by
      cases part with
      | nil => simp at pos
      | cons i r => exact ⟨i, r, rfl⟩
    have sea1 := sea.but isT B1
    obtain ⟨dx', rL', oL', as', g1, g2, g3, g4⟩ := sea1.ex
    have la : as'.length = tbl.length := Paired.length g3
    have hi := below i (by simp)
    have et : as'[i]? = some (as'[i]'(by omega)) := List.getElem?_eq_getElem _
    obtain ⟨vs, ev, ot, lv⟩ := paired_get g3 et
    have atr : atI (as'.map V.ref) ((i : Nat) : Int) = some (.ref (as'[i]'(by omega))) := atI_nat (by rw [List.getElem?_map, et]; rfl)
    have dg := DGet.k (k := Sum.inr x) ot
    rw [dk_av sea.nd lv sea.xin] at dg
    have es : says ns tbl x i = av ns vs x := by
      show av ns (tbl.getD i []) x = _
      rw [List.getD_eq_getElem?_getD, ev]
      rfl
    refine ⟨_, rfl, a, C, dx', _, _, rfl, g1, S.cl, S.nR, rfl, _, rfl, pa, _, 0, .int (i : Nat), rfl, rfl, SqT.of (B1 _ _ npB hpa), atI_nat (xs := (i :: r).map natV) (j := 0) (v := .int (i : Nat)) rfl, rL', _, _, _, rfl, rfl, SqL.of g2, atr, ?_⟩
    refine ⟨_, rfl, a, C, dx', _, _, rfl, g1, S.cl, S.nA, rfl, _, _, rfl, dg, ?_⟩
    rw [← es]
    exact hq H1 _ (.leaf (says ns tbl x i)) B1 M1 (.leaf _) (.leaf one)
  · rw [e]
    refine ⟨_, rfl, _, rfl, iteF ?_⟩
    have sea1 := sea.but isT B1
    have qin := sea.sub q hqo
    have ha1 := B1 _ _ naB h1
    refine ⟨_, rfl, a, dx, _, rfl, ha1, rfl, _, rfl, _, rfl, a, pa, bs, ns, tbl, x, q, of, part, rfl, sea1, ⟨B1 _ _ npB hpa, by omega, below⟩, qin, fun H3 d k3 nd3 P3 => ?_⟩
    obtain ⟨kvs, od, ek, ev⟩ := P3
    have lk : kvs.length = (answersOf (says ns tbl q) part).length := by
      have z := congrArg List.length ek
      rw [List.length_map, List.length_map] at z
      exact z
    have M3 := M1.same k3
    have B3 := B1.trans (.of k3)
    have la3 := ans_len (says ns tbl q) part
    have isT3 := M3.isT
    have n3 : ∀ {b : Addr} {o : HO}, (∀ l, o ≠ .dT l) → H3 b = some o → b ≠ bs := fun no e z => by
      obtain ⟨l, et⟩ := isT3
      rw [z, et] at e
      exact no _ (Option.some.inj e).symm
    have dB := n3 (fun _ z => by cases z) od
    have free3 : ∀ {b : Addr}, H3 b = none → H b = none := fun h => B3.free M3.isT h
    refine ⟨_, rfl, d, _, od, trivial, fun odj => ⟨_, rfl, d, odj, rfl, .inl ⟨kvs, upd_same, fun D nD => ?_⟩⟩⟩
    have memoL : MemoAt ws (upd H3 d (.frz odj (.dK kvs))) bs (says ns tbl) x of tbl.length := M3.lock od (fun _ z => by cases z) (fun _ z => by cases z)
    have B0L : ButB bs H1 (upd H3 d (.frz odj (.dK kvs))) := fun b o nb e => by rw [upd_ne (ne_of_none e nd3)]; exact k3 _ _ e
    have oLd : upd H3 d (.frz odj (.dK kvs)) d = some (.frz odj (.dK kvs)) := upd_same
    have DB : D ≠ bs := fun z => by
      obtain ⟨l, et⟩ := memoL.isT
      rw [← z, nD] at et
      cases et
    have Dd : D ≠ d := fun z => by rw [z, upd_same] at nD; cases nD
    have nD3 : H3 D = none := by rw [upd_ne Dd] at nD; exact nD
    refine dc_it walk_keys (fun j H' => (∃ acc ts, H' D = some (.dK acc) ∧ QtP (fun b => H b = none ∧ b ≠ D ∧ b ≠ d) H' acc ts ∧ ts.map (·.1) = (answersOf (says ns tbl q) part).take j ∧ ∀ z t, (z, t) ∈ ts → BT ws (says ns tbl) x of (partOf (says ns tbl q) part z) t) ∧ ButB bs (upd H3 d (.frz odj (.dK kvs))) H' ∧ MemoAt ws H' bs (says ns tbl) x of tbl.length)
      ⟨⟨[], [], upd_same, .nil, rfl, fun _ _ h => by cases h⟩, .of (same_new nD), memoL.same (same_new nD)⟩ (fun j H' _ h => h.2.1 _ _ dB oLd) ?_ ?_
    · rintro j y H4 H5 lj ⟨⟨acc, ts, oD, qp, et, hb⟩, B4, M4⟩ ⟨rfl, k0, v0, ekv, rfl⟩
      have eA : ((answersOf (says ns tbl q) part).map Sum.inl)[j]? = some k0 := by
        rw [← ek, List.getElem?_map, ekv]
        rfl
      rw [List.getElem?_map] at eA
      obtain ⟨v, evj, rfl⟩ := Option.map_eq_some_iff.mp eA
      have vin := List.mem_of_getElem? evj
      obtain ⟨t, etv, ot⟩ := ev v vin
      have tB := n3 (fun _ z => by cases z) ot
      have td : t ≠ d := fun z => by rw [z, od] at ot; cases ot
      have ot4 := B4 _ _ tB (by rw [upd_ne td]; exact ot)
      have B24 := B0L.trans B4
      have ltp := part_lt big vin
      have B04 := B1.trans B24
      have canv : (bestS ws (says ns tbl) x of (partOf (says ns tbl q) part v)).1 ≠ none := fun z => by
        obtain ⟨u, hu⟩ := cost_all hc (bestS ws (says ns tbl) x of (partOf (says ns tbl q) part v)).1 (List.mem_map.mpr ⟨v, vin, rfl⟩)
        rw [z] at hu
        cases hu
      refine ⟨rfl, ?_⟩
      refine ⟨_, rfl, _, rfl, a, dx, _, rfl, B24 _ _ naB ha1, rfl, _, rfl, _, rfl, d, _, rfl, .inl ⟨kvs, Sum.inl v, .inr ⟨odj, B4 _ _ dB oLd⟩, rfl, etv.symm⟩, ?_⟩
      refine ⟨a, t, bs, ns, tbl, x, of, partOf (says ns tbl q) part v, rfl, sea1.but M1.isT B24, M4, ot4, (List.filter_sublist).trans sub, List.length_pos_iff.mpr (part_some vin), by omega, few, canv, fun H6 w tw B6 M6 hw bw => ?_⟩
      have oD6 := B6 _ _ DB oD
      have lacc : acc.length ≤ j := by
        have z1 := Paired.length qp
        have z2 := congrArg List.length et
        rw [List.length_map, List.length_take] at z2
        omega
      refine ⟨acc, Sum.inl v, rfl, oD6, by rw [sizeLine_eq]; omega, ⟨putK acc (Sum.inl v) w, ts ++ [(v, tw)], upd_same, ?_, ?_, fun z t' hz => ?_⟩, fun b o nb e => ?_, M6.lock oD6 (fun _ z => by cases z) (fun _ z => by cases z)⟩
      · have out : Sum.inl v ∉ acc.map (·.1) := by
          rw [qp.keys]
          intro m
          obtain ⟨e, he, e3⟩ := List.mem_map.mp m
          obtain e3 : e.1 = v := Sum.inl.inj e3
          have m2 : v ∈ ts.map (·.1) := List.mem_map.mpr ⟨e, he, e3⟩
          rw [et] at m2
          obtain ⟨i, hi, ei⟩ := List.getElem_of_mem m2
          rw [List.length_take] at hi
          rw [List.getElem_take] at ei
          have lj2 := (List.getElem?_eq_some_iff.mp evj).1
          have ij : i = j := (List.getElem_inj (h₀ := by omega) (h₁ := lj2) (once_nd _)).mp (by rw [ei]; exact (List.getElem?_eq_some_iff.mp evj).2.symm)
          omega
        rw [put_new out]
        have up : ∀ b o, b ≠ D → H6 b = some o → upd H6 D (.dK (acc ++ [(Sum.inl v, w)])) b = some o := fun b o n e => by rw [upd_ne n]; exact e
        have dD6 : ∀ b, H5 b = none → (H b = none ∧ b ≠ D ∧ b ≠ d) := fun b hb => ⟨B04.free M4.isT hb, (fun z => by rw [z, oD] at hb; cases hb), (fun z => by rw [z, B4 _ _ dB oLd] at hb; cases hb)⟩
        refine paired_join (qp.keep (fun _ z => z) fun b o hb e k => up b o hb.2.1 (B6 b o (fun z => ?_) e)) ⟨rfl, hw.keep dD6 fun b o hb e _ => up b o (dD6 b hb).2.1 e⟩
        obtain ⟨l, e2⟩ := M4.isT
        rw [z, e2] at e
        obtain rfl := Option.some.inj e
        rcases k with ⟨_, k⟩ | ⟨_, k⟩ <;> cases k
      · rw [List.map_append, et, List.take_succ, evj]
        rfl
      · rcases List.mem_append.mp hz with hz | hz
        · exact hb z t' hz
        · obtain ⟨rfl, rfl⟩ : z = v ∧ t' = tw := by
            have e := List.mem_singleton.mp hz
            exact ⟨congrArg Prod.fst e, congrArg Prod.snd e⟩
          exact bw
      · rw [upd_ne (ne_of_none e nD)]
        exact B6 _ _ nb (B4 _ _ nb e)
    · rintro H6 ⟨⟨acc, ts, oD, qp, et, hb⟩, B6, M6⟩
      rw [lk, List.take_length] at et
      have od6 := B6 _ _ dB oLd
      have M7 : MemoAt ws (upd H6 d (.dK kvs)) bs (says ns tbl) x of tbl.length := M6.lock od6 (fun _ z => by cases z) (fun _ z => by cases z)
      have B37 : ButB bs H3 (upd H6 d (.dK kvs)) := fun b o nb e => by
        by_cases hb : b = d
        · rw [hb] at e ⊢
          rw [upd_same, ← od, e]
        · rw [upd_ne hb]
          exact B6 _ _ nb (by rw [upd_ne hb]; exact e)
      have B7 := B3.trans B37
      have oD7 : upd H6 d (.dK kvs) D = some (.dK acc) := by rw [upd_ne Dd]; exact oD
      have qp7 : QtP (fun b => H b = none) (upd H6 d (.dK kvs)) acc ts := qp.keep (fun _ z => z.1) fun b o hb e _ => by rw [upd_ne hb.2.2]; exact e
      refine ⟨od6, (by show 2 ≤ sizeLine; decide), fun r nr => ?_⟩
      have kr := same_new (o := .tup [.str q, .ref D]) nr
      have lts : ts.length = (answersOf (says ns tbl q) part).length := by
        have z := congrArg List.length et
        rw [List.length_map] at z
        exact z
      refine hq _ _ (.node q ts) (B7.trans (.of kr)) (M7.same kr) (.node (B7.free M7.isT nr) (free3 nD3) upd_same (kr _ _ oD7) qp7.keys ?_ (by omega) fun i k u z t e1 e2 => ?_) (.node ne hqo big et (congrArg Prod.fst e) hc hb)
      · rw [et]; exact once_nd _
      · obtain ⟨y, ey, h⟩ := paired_get qp7 e1
        rw [e2] at ey
        obtain rfl := Option.some.inj ey
        exact h.2.same kr
end
end L2.TB
/-! fewest, mean_fewest: told -/
namespace L2.TB
open PySem PySem.Spec PyProof.Rows
/-- what they know of a search, with weights or without -/
structure SeaW (P : Program) (w : World) (K : PySem.W.Frag) (mg : Str → Option Value) (base : Heap) (C : Addr) : Prop where
  wh : ∃ f fd, Meth K C "whole" f ∧ (∀ wa ws, FnOk P w K mg base CX0 1 f fd ["self"] (spWhole wa ws C)) ∧ Binds K fd ["self"] []
  cost : ∃ f fd, Meth K C "cost" f ∧ (∀ wa ws, FnOk P w K mg base CX0 31 f fd ["self", "part"] (spCost wa ws C 10)) ∧ Binds K fd ["self", "part"] []
  tree : ∃ f fd, Meth K C "tree" f ∧ (∀ wa ws, FnOk P w K mg base CX0 42 f fd ["self", "part"] (spTreeM wa ws C 10)) ∧ Binds K fd ["self", "part"] []
section
variable {P : Program} {w : World} {K : PySem.W.Frag} {mg : Str → Option Value} {base : Heap} {f C fP fO fQ fB fC fT : Addr} {fd fdT : FuncData} {wa : Addr} {ws : Option (List Int)}
theorem ok_best10 (M : SeaM K mg C fP fO fQ fB fC) (FB : Fun K "_best" "Search._best" sBest fB fd) : FnOk P w K mg base CX0 30 fB fd ["self", "part"] (spBest wa ws C 10) := by
  obtain ⟨fdP, FP⟩ := M.P
  obtain ⟨fdO, FO⟩ := M.O
  obtain ⟨fdQ, FQ⟩ := M.Q
  obtain ⟨fdC, FC⟩ := M.Ct
  have GC := ok_cost (P := P) (w := w) (base := base) (wa := wa) (ws := ws) M 9 FC
  have GP : FnOk P w K mg base CX0 1 fP fdP ["self", "part", "question"] (spPartsOf wa ws C) := ok_partsOf FP M.c M.nT
  have GO : FnOk P w K mg base CX0 1 fO fdO ["self", "part", "costs"] (spCostOf wa ws C) := ok_costOf FO M.c M.nM M.nSm
  have GQ := ok_bestQ (P := P) (w := w) (base := base) FQ M.c FP M.mP GP FO M.mO GO FC M.mC (by omega) GC M.nN
  exact ok_best (P := P) (w := w) (base := base) FB M.c FP M.mP GP FQ M.mQ GQ M.nN
theorem ok_treeN (M : SeaM K mg C fP fO fQ fB fC) (FT : Fun K "tree" "Search.tree" sTreeM fT fdT) (mT : Meth K C "tree" fT) : ∀ n : Nat, FnOk P w K mg base CX0 (32 + n) fT fdT ["self", "part"] (spTreeM wa ws C n)
  | 0 => (ok_tree0 fT fdT).mono (by omega)
  | n + 1 => by
    obtain ⟨fdP, FP⟩ := M.P
    obtain ⟨fdB, FB⟩ := M.B
    exact ok_treeS (k := 32 + n) FT mT M.c FP M.mP (ok_partsOf FP M.c M.nT) FB M.mB ((ok_best10 M FB).mono (by omega)) (by omega) (ok_treeN M FT mT n)
theorem ok_seaW {fW fdW_ : Addr} {fdW : FuncData} (M : SeaM K mg C fP fO fQ fB fC) (FW : Fun K "whole" "Search.whole" sWhole fW fdW) (mW : Meth K C "whole" fW) (FT : Fun K "tree" "Search.tree" sTreeM fT fdT) (mT : Meth K C "tree" fT) (nR : mg "range" = none) : SeaW P w K mg base C where
  wh := ⟨fW, fdW, mW, fun wa ws => ok_whole FW M.c M.nT nR M.nN, FW.binds (ps := ["self"]) fun _ _ _ _ _ _ us hl => match us, hl with | [_], _ => rfl⟩
  cost := by
    obtain ⟨fdC, FC⟩ := M.Ct
    exact ⟨fC, fdC, M.mC, fun wa ws => ok_cost M 10 FC, FC.binds (ps := ["self", "part"]) fun _ _ _ _ _ _ us hl => match us, hl with | [_, _], _ => rfl⟩
  tree := ⟨fT, fdT, mT, fun wa ws => ok_treeN M FT mT 10, FT.binds (ps := ["self", "part"]) fun _ _ _ _ _ _ us hl => match us, hl with | [_, _], _ => rfl⟩
end
/-- what is passed, where it lets through -/
structure AskOk (K : PySem.W.Frag) (H : Hp) (CT t : Addr) (ns : List Str) (tbl : List (List Int)) (y : Str) (o : V) (of : List Str) : Prop where
  tab : TabAt H CT t ns tbl
  nd : ns.Nodup
  sh : ns.length ≤ 10
  pos : 0 < tbl.length
  few : tbl.length ≤ 10
  yin : y ∈ ns
  of_ : OfIs K H ns y o of
theorem AskOk.sub {K : PySem.W.Frag} {H : Hp} {CT t : Addr} {ns : List Str} {tbl : List (List Int)} {y : Str} {o : V} {of : List Str} (h : AskOk K H CT t ns tbl y o of) : (∀ z ∈ of, z ∈ ns) ∧ of.length < 1000 ∧ of.Nodup := by
  rcases h.of_ with O | ⟨_, rfl⟩
  · exact ⟨O.sub, O.sh, O.nd⟩
  · refine ⟨fun z hz => (List.mem_filter.mp hz).1, ?_, h.nd.filter _⟩
    have := List.length_filter_le (fun z => decide (z ≠ y)) ns
    have := h.sh
    omega
/-- asked_files tells them -/
theorem AskOk.files {K : PySem.W.Frag} {CT CQ CK t : Addr} {H : Hp} {ns : List Str} {tbl : List (List Int)} {y : Str} {o : V} {of : List Str} (h : AskOk K H CT t ns tbl y o of) {Q : VK} {E : XK} (hq : ∀ H' q, H q = none → Same H H' → H' q = some (.lst (of.map V.str)) → Q (.ref q) H') :
    spAskF K CT CQ CK [.ref t, .str y, o] H Q E := by
  have := h.sh
  refine ⟨t, .str y, o, ns, tbl, rfl, h.tab, by omega, .inr ⟨y, rfl, h.yin, ?_⟩⟩
  rcases h.of_ with O | ⟨eo, rfl⟩
  · obtain ⟨b, eo, hb⟩ := O.ex
    exact .inr (.inr ⟨b, _, eo, hb, O.good, fun H' q n k e => hq H' q n k e⟩)
  · exact .inl ⟨eo, fun H' q n k e => hq H' q n k e⟩
def allP (tbl : List (List Int)) : List Nat := List.range tbl.length
def spFewT (K : PySem.W.Frag) (CT : Addr) : Sp := fun vs H Q _ => ∃ (t : Addr) (o : V) (ns : List Str) (tbl : List (List Int)) (y : Str) (of : List Str), vs = [.ref t, .str y, o] ∧ AskOk K H CT t ns tbl y o of ∧
  ((bestS none (says ns tbl) y of (allP tbl)).1 = none → ∀ H', Same H H' → Q .non H') ∧ ∀ c, (bestS none (says ns tbl) y of (allP tbl)).1 = some c → ∀ H' p tr v, Same H H' → H p = none → H' p = some (.tup [.int c, v]) → QtAt (fun b => H b = none) H' tr v → BT none (says ns tbl) y of (allP tbl) tr → Q (.ref p) H'
abbrev NFt : List Str := ["table", "asked", "of", "search", "part"]
section
variable {P : Program} {w : World} {K : PySem.W.Frag} {mg : Str → Option Value} {base : Heap} {f C CT CQ CK CN : Addr} {fd : FuncData}
theorem ok_fewT (F : FunF K "fewest" sFewest f fd) (S : SeaP P w K mg base CT C CQ CK CN) (W : SeaW P w K mg base C) : FnOk P w K mg base (L2.CX P w) 44 f fd ["table", "asked", "of"] (spFewT K CT) := by
  obtain ⟨fI, fdI, Mk, GI, bI⟩ := S.mkr
  obtain ⟨fA, fdA, gA, kA, GA, bA⟩ := S.af
  obtain ⟨fW, fdW, mW, GW, bW⟩ := W.wh
  obtain ⟨fC, fdC, mC, GC, bC⟩ := W.cost
  obtain ⟨fT, fdT, mT, GT, bT⟩ := W.tree
  refine FunD.ok F scFw (fun vs H Q E h => by obtain ⟨t, o, ns, tbl, y, of, e, _⟩ := h; rw [e]; rfl) fun cdv A outer s H vs Q E hr hsp => ?_
  obtain ⟨t, o, ns, tbl, y, of, rfl, ask, no, yes⟩ := hsp
  have nd := scFw.nd
  refine ⟨_, pss_cons (ps_set (i := 3) nd rfl (Or.inl rfl) (pe_make Mk GI (hr.mono (by decide)) rfl S.gS bI .nil pass0 (pa_cons (pv 0) (pa_cons (pv 1) (pa_cons (pe_callS GA (hr.mono (by decide)) rfl gA kA bA (fun σ => passAt (takes_of rfl rfl rfl rfl) σ) (pa_cons (pv 0) (pa_cons (pv 1) (pa_cons (pv 2) pa_nil)))) (pa_cons pe_non pa_nil))))))
    (pss_cons (ps_set (i := 4) nd rfl (Or.inl rfl) (pe_meth0 (pv 3) S.c.cl mW (GW 0 none) (hr.mono (by decide)) bW .nil pass0 rfl))
    (pss_cons (ps_if (pt_cmp (pc_isN (pe_meth (pv 3) S.c.cl mC (GC 0 none) (hr.mono (by decide)) bC .nil pass0 (pa_cons (pv 4) pa_nil)))) (pss_one (ps_ret pe_non)) pss_nil)
    (pss_one (ps_ret (pe_tup (pa_cons (pe_meth (pv 3) S.c.cl mC (GC 0 none) (hr.mono (by decide)) bC .nil pass0 (pa_cons (pv 4) pa_nil)) (pa_cons (pe_meth (pv 3) S.c.cl mT (GT 0 none) (hr.mono (by decide)) bT .nil pass0 (pa_cons (pv 4) pa_nil)) pa_nil))))))), ?_⟩
  have nsh := ask.sh
  have few := ask.few
  have pos := ask.pos
  obtain ⟨sub, osh, ond⟩ := ask.sub
  refine ⟨_, rfl, _, rfl, _, rfl, _, rfl, _, rfl, ?_⟩
  dsimp only [tNil, tVar, tC, start]
  refine ask.files fun H1 q nq k1 oq => ?_
  intro a dx na ndx ne
  refine ⟨a, dx, t, _, _, _, ns, tbl, rfl, upd_same, (ask.tab.same k1).same fun b o e => (by rw [upd_ne (ne_of_none e na), upd_ne (ne_of_none e ndx)]; exact e), ask.nd, by omega, by omega, fun H3 rL bs as nrL nbs o1 o2 o3 o4 keep => ⟨rfl, ?_⟩⟩
  obtain ⟨k13, sea, memo, nbs1⟩ := sea_new (wa := 0) (ws := none) na ndx nbs o1 o2 o3 o4 keep oq ask.nd ask.yin sub (by omega) osh (fun _ e => by cases e)
  have k03 := k1.trans k13
  have nbs0 : H bs = none := k1.free nbs1
  have fromB : ∀ {H' : Hp}, ButB bs H3 H' → Same H H' := fun B b o e => B _ _ (ne_of_none e nbs0) (k03 _ _ e)
  obtain ⟨dx', rL', oL', as', h1, _, _, _⟩ := id sea.ex
  refine ⟨_, rfl, a, dx', _, rfl, h1, rfl, ?_⟩
  unfold tNil
  show spWhole 0 none C _ _ _ _
  refine ⟨a, bs, ns, tbl, y, of, rfl, sea, fun H4 p k34 pt => ?_⟩
  have sea4 := sea.same k34
  have memo4 := memo.same k34
  have nba : a ≠ bs := fun z => by have e := k34 _ _ h1; obtain ⟨l, et⟩ := memo4.isT; rw [z, et] at e; cases e
  have nbp : p ≠ bs := fun z => by have e := pt.1; obtain ⟨l, et⟩ := memo4.isT; rw [z, et] at e; cases e
  refine ⟨_, rfl, a, dx', _, rfl, k34 _ _ h1, rfl, _, rfl, a, p, bs, ns, tbl, y, of, List.range tbl.length, rfl, sea4, memo4, pt.1, List.Sublist.refl _, by rw [List.length_range]; exact pos, by rw [List.length_range]; exact few, few, fun H5 B45 M5 => ?_⟩
  have B35 := (ButB.of k34).trans B45
  cases hb : (bestS none (says ns tbl) y of (allP tbl)).1 with
  | none =>
    have hb' : (bestS none (says ns tbl) y of (List.range tbl.length)).1 = none := hb
    rw [hb']
    exact ⟨_, rfl, iteT (no hb H5 (fromB B35))⟩
  | some c =>
    have hb' : (bestS none (says ns tbl) y of (List.range tbl.length)).1 = some c := hb
    rw [hb']
    refine ⟨_, rfl, iteF ?_⟩
    have sea5 := sea4.but memo4.isT B45
    refine ⟨_, rfl, a, dx', _, rfl, B45 _ _ nba (k34 _ _ h1), rfl, _, rfl, a, p, bs, ns, tbl, y, of, List.range tbl.length, rfl, sea5, M5, B45 _ _ nbp pt.1, List.Sublist.refl _, by rw [List.length_range]; exact pos, by rw [List.length_range]; exact few, few, fun H6 B56 M6 => ?_⟩
    rw [hb']
    have B46 := B45.trans B56
    refine ⟨_, rfl, a, dx', _, rfl, B46 _ _ nba (k34 _ _ h1), rfl, _, rfl, a, p, bs, ns, tbl, y, of, List.range tbl.length, rfl, sea5.but M5.isT B56, M6, B46 _ _ nbp pt.1, List.Sublist.refl _, by rw [List.length_range]; exact pos, by rw [List.length_range]; exact few, few, (by rw [hb']; intro z; cases z), fun H7 v tr B67 M7 hv bt => ?_⟩
    refine ⟨(by show 2 ≤ sizeLine; decide), fun r nr => ?_⟩
    have kr := same_new (o := .tup [.int c, v]) nr
    have B37 := (B35.trans B56).trans B67
    have free7 : ∀ {b : Addr}, H7 b = none → H b = none := fun hb => k03.free (B37.free M7.isT hb)
    have free6 : ∀ b : Addr, H6 b = none → H b = none := fun b hb => k03.free ((B35.trans B56).free M6.isT hb)
    exact yes c hb _ r tr v ((fromB B37).trans kr) (free7 nr) upd_same (hv.keep free6 fun b o _ e _ => kr _ _ e) bt
end
end L2.TB
/-! mean_fewest told -/
namespace L2.TB
open PySem PySem.Spec PyProof.Rows
def gcdZ (a b : Int) : Int := ((Nat.gcd a.natAbs b.natAbs : Nat) : Int)
theorem boot_sumF : bootBuiltins "sum" = some (.builtin "sum") := by decide +kernel
theorem badW_pos : ∀ (l : List Int) (i : Nat), (∀ z ∈ l, 0 < z) → badW (l.map V.int) i = none
  | [], _, _ => rfl
  | a :: l, i, h => by
    show (if 0 < a then badW (l.map V.int) (i + 1) else some i) = none
    rw [if_pos (h a (by simp))]
    exact badW_pos l (i + 1) fun z hz => h z (List.mem_cons_of_mem _ hz)
theorem sum_le : ∀ (l : List Int), (∀ z ∈ l, z ≤ 100) → l.sum ≤ 100 * (l.length : Int)
  | [], _ => by simp
  | a :: l, h => by
    rw [List.sum_cons, List.length_cons]
    have := sum_le l fun z hz => h z (List.mem_cons_of_mem _ hz)
    have := h a (by simp)
    omega
theorem gcd_pos {a b : Int} (h : 0 < b) : 0 < gcdZ a b ∧ gcdZ a b ≤ b := by
  unfold gcdZ
  have p : 0 < b.natAbs := by omega
  have g := Nat.gcd_pos_of_pos_right a.natAbs p
  have l := Nat.gcd_le_right a.natAbs p
  omega
theorem sum_pos : ∀ (l : List Int), l ≠ [] → (∀ z ∈ l, 0 < z) → 0 < l.sum
  | [], h, _ => absurd rfl h
  | [a], _, h => by simpa using h a (by simp)
  | a :: b :: l, _, h => by
    rw [List.sum_cons]
    have := sum_pos (b :: l) (by simp) fun z hz => h z (List.mem_cons_of_mem _ hz)
    have := h a (by simp)
    omega
/-- weights of the rows, in a list or a tuple -/
structure WtsAt (K : PySem.W.Frag) (H : Hp) (v : V) (ws : List Int) (n : Nat) : Prop where
  ex : ∃ b, v = .ref b ∧ SqA K H b (ws.map V.int)
  len : ws.length = n
  pos : ∀ z ∈ ws, 0 < z
  few : ∀ z ∈ ws, z ≤ 100
def spMeanT (K : PySem.W.Frag) (CT : Addr) : Sp := fun vs H Q _ => ∃ (t : Addr) (wv o : V) (ns : List Str) (tbl : List (List Int)) (y : Str) (of : List Str) (ws : List Int), vs = [.ref t, wv, .str y, o] ∧ AskOk K H CT t ns tbl y o of ∧ WtsAt K H wv ws tbl.length ∧
  ((bestS (some ws) (says ns tbl) y of (allP tbl)).1 = none → ∀ H', Same H H' → Q .non H') ∧ ∀ c, (bestS (some ws) (says ns tbl) y of (allP tbl)).1 = some c → ∀ H' p p2 tr v, Same H H' → H p = none → H p2 = none → H' p2 = some (.tup [.int (c / gcdZ c ws.sum), .int (ws.sum / gcdZ c ws.sum)]) → H' p = some (.tup [.ref p2, v]) → QtAt (fun b => H b = none) H' tr v → BT (some ws) (says ns tbl) y of (allP tbl) tr → Q (.ref p) H'
section
variable {P : Program} {w : World} {K : PySem.W.Frag} {mg : Str → Option Value} {base : Heap} {f C CT CQ CK CN CW fN fW : Addr} {fd fdN fdW : FuncData}
theorem ok_meanT (F : FunF K "mean_fewest" sMeanF f fd) (S : SeaP P w K mg base CT C CQ CK CN) (W : SeaW P w K mg base C) (T : TabC K CT) (FN : Fun K "__len__" "Table.__len__" sLenM fN fdN) (mN : Meth K CT "__len__" fN) (FW : Fun K "check_weights" "check_weights" sCkW fW fdW) (gW : mg "check_weights" = some (.ref fW))
    (GW : FnOk P w K mg base (L2.CX P w) 4 fW fdW ["weights", "many"] (spCkW K CW)) (nN : mg "len" = none) (nL : mg "list" = none) (nSm : mg "sum" = none) (gG : mg "gcd" = some (.builtin "math.gcd")) : FnOk P w K mg base (L2.CX P w) 44 f fd ["table", "weights", "asked", "of"] (spMeanT K CT) := by
  obtain ⟨fI, fdI, Mk, GI, bI⟩ := S.mkr
  obtain ⟨fA, fdA, gA, kA, GA, bA⟩ := S.af
  obtain ⟨fH, fdH, mH, GH, bH⟩ := W.wh
  obtain ⟨fC, fdC, mC, GC, bC⟩ := W.cost
  obtain ⟨fT, fdT, mT, GT, bT⟩ := W.tree
  have GN : FnOk P w K mg base CX0 1 fN fdN ["self"] (spLen CT) := ok_len FN T nN
  have bN := FN.binds (ps := ["self"]) fun _ _ _ _ _ _ us hl => match us, hl with | [_], _ => rfl
  have bW := FW.binds (ps := ["weights", "many"]) fun _ _ _ _ _ _ us hl => match us, hl with | [_, _], _ => rfl
  refine FunD.ok F scMw (fun vs H Q E h => by obtain ⟨t, wv, o, ns, tbl, y, of, ws, e, _⟩ := h; rw [e]; rfl) fun cdv A outer s H vs Q E hr hsp => ?_
  obtain ⟨t, wv, o, ns, tbl, y, of, ws, rfl, ask, wts, no, yes⟩ := hsp
  have nd := scMw.nd
  have nsh := ask.sh
  have few := ask.few
  have pos := ask.pos
  obtain ⟨sub, osh, ond⟩ := ask.sub
  obtain ⟨b, rfl, hb⟩ := wts.ex
  have lw := wts.len
  refine ⟨_, pss_cons (ps_expr (pe_callS GW (hr.mono (by decide)) rfl gW FW.kp bW (fun σ => passAt (takes_of rfl rfl rfl rfl) σ) (pa_cons (pv 1) (pa_cons (pe_callB (call_lenI GN (hr.mono (by decide)) mN bN pass0) rfl nN boot_len (pa_cons (pv 0) pa_nil)) pa_nil))))
    (pss_cons (ps_set (i := 4) nd rfl (Or.inl rfl) (pe_make Mk GI (hr.mono (by decide)) rfl S.gS bI .nil pass0 (pa_cons (pv 0) (pa_cons (pv 2) (pa_cons (pe_callS GA (hr.mono (by decide)) rfl gA kA bA (fun σ => passAt (takes_of rfl rfl rfl rfl) σ) (pa_cons (pv 0) (pa_cons (pv 2) (pa_cons (pv 3) pa_nil)))) (pa_cons (pe_callTy call_list_of rfl nL boot_list' (pa_cons (pv 1) pa_nil)) pa_nil))))))
    (pss_cons (ps_set (i := 5) nd rfl (Or.inl rfl) (pe_meth0 (sp := fun vs H Q E => ∃ wa ws, spWhole wa ws C vs H Q E) (pv 4) S.c.cl mH ⟨fun vs H Q E h => by obtain ⟨wa, ws, h⟩ := h; exact (GH wa ws).len vs H Q E h, fun A outer s H args us vs Q E hr he hb hv hs => by obtain ⟨wa, ws, h⟩ := hs; exact (GH wa ws).run A outer s H args us vs Q E hr he hb hv h⟩ (hr.mono (by decide)) bH .nil pass0 rfl))
    (pss_cons (ps_set (i := 6) nd rfl (Or.inl rfl) (pe_meth (sp := fun vs H Q E => ∃ wa ws, spCost wa ws C 10 vs H Q E) (pv 4) S.c.cl mC ⟨fun vs H Q E h => by obtain ⟨wa, ws, h⟩ := h; exact (GC wa ws).len vs H Q E h, fun A outer s H args us vs Q E hr he hb hv hs => by obtain ⟨wa, ws, h⟩ := hs; exact (GC wa ws).run A outer s H args us vs Q E hr he hb hv h⟩ (hr.mono (by decide)) bC .nil pass0 (pa_cons (pv 5) pa_nil)))
    (pss_cons (ps_if (pt_cmp (pc_isN (pv 6))) (pss_one (ps_ret pe_non)) pss_nil)
    (pss_cons (ps_set (i := 7) nd rfl (Or.inl rfl) (pe_callB (r := rSum K) (cr_sum rfl) rfl nSm boot_sumF (pa_cons (pe_callTy call_list_of rfl nL boot_list' (pa_cons (pv 1) pa_nil)) pa_nil)))
    (pss_cons (ps_set (i := 8) nd rfl (Or.inl rfl) (pe_callBfun (r := rGcd) cr_gcd rfl gG (pa_cons (pv 6) (pa_cons (pv 7) pa_nil))))
    (pss_one (ps_ret (pe_tup (pa_cons (pe_tup (pa_cons (pe_op op_fdiv (pv 6) (pv 8)) (pa_cons (pe_op op_fdiv (pv 7) (pv 8)) pa_nil))) (pa_cons (pe_meth (sp := fun vs H Q E => ∃ wa ws, spTreeM wa ws C 10 vs H Q E) (pv 4) S.c.cl mT ⟨fun vs H Q E h => by obtain ⟨wa, ws, h⟩ := h; exact (GT wa ws).len vs H Q E h, fun A outer s H args us vs Q E hr he hb hv hs => by obtain ⟨wa, ws, h⟩ := hs; exact (GT wa ws).run A outer s H args us vs Q E hr he hb hv h⟩ (hr.mono (by decide)) bT .nil pass0 (pa_cons (pv 5) pa_nil)) pa_nil))))))))))), ?_⟩
  obtain ⟨dx0, qa, ra, ha, hqa, hra⟩ := id ask.tab.ex
  have bw : BadWt K H tbl.length (.ref b) none := by
    have z := BadWt.seq (K := K) (m := tbl.length) hb (fun x hx => by obtain ⟨z, _, rfl⟩ := List.mem_map.mp hx; exact .int z) (by rw [List.length_map]; omega)
    rw [badW_pos ws 0 wts.pos, List.length_map, if_pos lw] at z
    exact z
  refine ⟨_, rfl, _, rfl, t, dx0, _, rfl, ha, t, ns, tbl, rfl, ask.tab, by omega, _, rfl, ⟨by omega, by omega⟩, .ref b, tbl.length, none, rfl, bw, fun _ H0 k0 => ?_, fun i er => by cases er⟩
  have ask0 : AskOk K H0 CT t ns tbl y o of := ⟨ask.tab.same k0, ask.nd, ask.sh, ask.pos, ask.few, ask.yin, ask.of_.imp (fun O => ⟨O.ex.imp fun _ z => ⟨z.1, z.2.same k0⟩, O.good.same k0, O.sub, O.nd, O.sh⟩) id⟩
  refine ⟨_, rfl, _, rfl, _, rfl, _, rfl, _, rfl, ?_⟩
  dsimp only [tNil, tVar, tC, start]
  refine ask0.files fun H1 q nq k1 oq => ?_
  obtain ⟨b', eb, hb1⟩ : ∃ b', V.ref b = .ref b' ∧ SqA K H1 b' (ws.map V.int) := ⟨b, rfl, (hb.same k0).same k1⟩
  refine ⟨_, rfl, b, _, rfl, ((hb.same k0).same k1).imp SqL.of SqT.of, fun l nl => ?_⟩
  have kl := same_new (o := .lst (ws.map V.int)) nl
  have ol : upd H1 l (.lst (ws.map V.int)) l = some (.lst (ws.map V.int)) := upd_same
  generalize upd H1 l (.lst (ws.map V.int)) = H2 at kl ol
  have k12 := k1.trans kl
  intro a dx na ndx ne
  refine ⟨a, dx, t, _, _, _, ns, tbl, rfl, upd_same, (ask0.tab.same k12).same fun b o e => (by rw [upd_ne (ne_of_none e na), upd_ne (ne_of_none e ndx)]; exact e), ask.nd, by omega, by omega, fun H3 rL bs as nrL nbs o1 o2 o3 o4 keep => ⟨rfl, ?_⟩⟩
  obtain ⟨k13, sea, memo, nbs1⟩ := sea_new (wa := l) (ws := some ws) na ndx nbs o1 o2 o3 o4 keep (kl _ _ oq) ask.nd ask.yin sub (by omega) osh (fun w e => by cases e; exact ⟨ol, lw⟩)
  have k03 := (k0.trans k12).trans k13
  have nbs0 : H bs = none := (k0.trans k12).free nbs1
  have fromB : ∀ {H' : Hp}, ButB bs H3 H' → Same H H' := fun B b o e => B _ _ (ne_of_none e nbs0) (k03 _ _ e)
  obtain ⟨dx', rL', oL', as', h1, _, _, _⟩ := id sea.ex
  refine ⟨_, rfl, a, dx', _, rfl, h1, rfl, ?_⟩
  dsimp only [tNil]
  refine ⟨l, some ws, a, bs, ns, tbl, y, of, rfl, sea, fun H4 p k34 pt => ?_⟩
  have sea4 := sea.same k34
  have memo4 := memo.same k34
  have nba : a ≠ bs := fun z => by have e := k34 _ _ h1; obtain ⟨l, et⟩ := memo4.isT; rw [z, et] at e; cases e
  have nbp : p ≠ bs := fun z => by have e := pt.1; obtain ⟨l, et⟩ := memo4.isT; rw [z, et] at e; cases e
  refine ⟨_, rfl, a, dx', _, rfl, k34 _ _ h1, rfl, _, rfl, l, some ws, a, p, bs, ns, tbl, y, of, List.range tbl.length, rfl, sea4, memo4, pt.1, List.Sublist.refl _, by rw [List.length_range]; exact pos, by rw [List.length_range]; exact few, few, fun H5 B45 M5 => ?_⟩
  have B35 := (ButB.of k34).trans B45
  cases hbs : (bestS (some ws) (says ns tbl) y of (allP tbl)).1 with
  | none =>
    have hb' : (bestS (some ws) (says ns tbl) y of (List.range tbl.length)).1 = none := hbs
    rw [hb']
    exact ⟨_, rfl, _, rfl, iteT (no hbs H5 (fromB B35))⟩
  | some c =>
    have hb' : (bestS (some ws) (says ns tbl) y of (List.range tbl.length)).1 = some c := hbs
    rw [hb']
    refine ⟨_, rfl, _, rfl, iteF ?_⟩
    have hb5 : SqA K H5 b (ws.map V.int) := hb.same (fromB B35)
    refine ⟨_, rfl, b, _, rfl, hb5.imp SqL.of SqT.of, fun l2 nl2 => ⟨l2, ws, rfl, SqL.of upd_same, ?_⟩⟩
    have k56 := same_new (o := .lst (ws.map V.int)) nl2
    generalize upd H5 l2 (.lst (ws.map V.int)) = H6 at k56 ⊢
    have wp := sum_pos ws (fun z => by rw [z] at lw; simp at lw; omega) wts.pos
    have wl := sum_le ws wts.few
    obtain ⟨g0, g1⟩ := gcd_pos (a := c) wp
    refine ⟨_, rfl, _, rfl, c, ws.sum, rfl, ?_⟩
    refine ⟨_, rfl, _, rfl, c, gcdZ c ws.sum, rfl, rfl, ⟨g0, by omega⟩, _, rfl, _, rfl, ws.sum, gcdZ c ws.sum, rfl, rfl, ⟨g0, by omega⟩, (by show 2 ≤ sizeLine; decide), fun p2 np2 => ?_⟩
    have k67 := same_new (o := .tup [.int (c / gcdZ c ws.sum), .int (ws.sum / gcdZ c ws.sum)]) np2
    have op2 : upd H6 p2 (.tup [.int (c / gcdZ c ws.sum), .int (ws.sum / gcdZ c ws.sum)]) p2 = some (.tup [.int (c / gcdZ c ws.sum), .int (ws.sum / gcdZ c ws.sum)]) := upd_same
    generalize upd H6 p2 (.tup [.int (c / gcdZ c ws.sum), .int (ws.sum / gcdZ c ws.sum)]) = H7 at k67 op2 ⊢
    have k57 := k56.trans k67
    have B37 := B35.trans (.of k57)
    have B47 := B45.trans (.of k57)
    have M7 := M5.same k57
    have sea7 := (sea4.but memo4.isT B45).same k57
    refine ⟨_, rfl, a, dx', _, rfl, B47 _ _ nba (k34 _ _ h1), rfl, _, rfl, l, some ws, a, p, bs, ns, tbl, y, of, List.range tbl.length, rfl, sea7, M7, B47 _ _ nbp pt.1, List.Sublist.refl _, by rw [List.length_range]; exact pos, by rw [List.length_range]; exact few, few, (by rw [hb']; intro z; cases z), fun H8 v tr B78 M8 hv bt => ?_⟩
    refine ⟨(by show 2 ≤ sizeLine; decide), fun r nr => ?_⟩
    have kr := same_new (o := .tup [.ref p2, v]) nr
    have B38 := B37.trans B78
    have free8 : ∀ {b : Addr}, H8 b = none → H b = none := fun hb => k03.free (B38.free M8.isT hb)
    have free7 : ∀ b : Addr, H7 b = none → H b = none := fun b hb => k03.free (B37.free M7.isT hb)
    have p2n : H p2 = none := by
      refine k03.free (B35.free M5.isT (k56.free np2))
    have p2b : p2 ≠ bs := fun z => by
      obtain ⟨l, et⟩ := M7.isT
      rw [z, et] at op2
      cases op2
    exact yes c hbs _ r p2 tr v ((fromB B38).trans kr) (free8 nr) p2n (kr _ _ (B78 _ _ p2b op2)) upd_same (hv.keep free7 fun b o _ e _ => kr _ _ e) bt
end
end L2.TB
/-! _has_integers; what best trees are -/
namespace L2.TB
open PySem PySem.Spec PyProof.Rows
def spHasI : Sp := fun vs H Q _ => ∃ (d e : Addr) (es ds : List (Key × V)) (zs : List Int), vs = [.ref d, .ref e] ∧ H d = some (.dK es) ∧ H e = some (.dK ds) ∧ es.map (·.1) = zs.map Sum.inl ∧ ds.map (·.1) = zs.map Sum.inl ∧ zs.length < 1000 ∧ ∀ H', Same H H' → Q (.bl true) H'
abbrev NHi : List Str := ["thing", "right", "key"]
theorem scHi : FnScope NHi ["thing", "right"] (defScope sHasInts) := ⟨rfl, rfl, rfl, by decide +kernel, rfl, by decide +kernel, by decide +kernel⟩
theorem boot_allI : bootBuiltins "all" = some (.builtin "all") := by decide +kernel
section
variable {P : Program} {w : World} {K : PySem.W.Frag} {mg : Str → Option Value} {base : Heap} {f fI : Addr} {fd fdI : FuncData}
theorem ok_hasI (F : Fun K "_has_integers" "_has_integers" sHasInts f fd) (FI : Fun K "is_integer" "is_integer" sIsInt fI fdI) (gI : mg "is_integer" = some (.ref fI)) (GI : FnOk P w K mg base CX0 1 fI fdI ["thing"] (spIsIntG K)) (nN : mg "len" = none) (nA : mg "all" = none) : FnOk P w K mg base CX0 2 f fd ["thing", "right"] spHasI := by
  have bI := FI.binds (ps := ["thing"]) fun _ _ _ _ _ _ us hl => match us, hl with | [_], _ => rfl
  refine F.ok scHi (fun vs H Q E h => by obtain ⟨d, e, es, ds, zs, q, _⟩ := h; rw [q]; rfl) fun cdv A outer s H vs Q E hr hsp => ?_
  obtain ⟨d, e, es, ds, zs, rfl, od, oe, ke, kd, sh, hq⟩ := hsp
  have nd := scHi.nd
  have hu := hu_of hr
  have les : es.length = zs.length := by
    have z := congrArg List.length ke
    rw [List.length_map, List.length_map] at z
    exact z
  have lds : ds.length = zs.length := by
    have z := congrArg List.length kd
    rw [List.length_map, List.length_map] at z
    exact z
  refine ⟨_, pss_one (ps_ret (pe_and (pe_cmpR op_eq (pe_callB call_lenD rfl nN boot_len (pa_cons (pv 0) pa_nil)) (pe_callB call_lenD rfl nN boot_len (pa_cons (pv 1) pa_nil)) (nomark _))
    (pe_one (pe_callB (cr_all rfl) rfl nA boot_allI (pa_cons (pe_lock (pe_lc (own := [("key", 2)]) (g := gName 2) (tt := tYes) rfl nd (pi_keys (pv 0)) (blkOk_by (N := NHi) (sc := defScope sHasInts) (by decide +kernel)) (fun _ _ _ _ _ => pg_name (i := 2) nd rfl (Or.inl rfl)) (fun _ _ _ _ _ => pts_nil)
      (fun _ _ _ _ _ => pe_and (pe_call GI hr rfl gI FI.kp bI .nil pass0 (pa_cons (pv 2) pa_nil)) (pe_one (pe_cmp (pc_din hu (pv 2) (pv 1))))))) pa_nil))))), ?_⟩
  refine ⟨_, rfl, d, _, rfl, od, _, rfl, e, _, rfl, oe, rfl, _, rfl, ?_⟩
  rw [les, lds, decide_eq_true rfl]
  refine iteT ?_
  refine ⟨d, _, od, trivial, fun odj => ⟨_, rfl, d, odj, rfl, .inl ⟨es, upd_same, fun D nD => ?_⟩⟩⟩
  have oLd : upd H d (.frz odj (.dK es)) d = some (.frz odj (.dK es)) := upd_same
  have rdE : ∀ H', Same (upd H d (.frz odj (.dK es))) H' → Rd H' e (.dK ds) := fun H' k => by
    by_cases de : e = d
    · rw [de] at oe ⊢
      rw [od] at oe
      cases oe
      exact .inr ⟨odj, k _ _ oLd⟩
    · exact .inl (k _ _ (by rw [upd_ne de]; exact oe))
  refine lc_it walk_keys (fun j H' => H' D = some (.lst ((List.replicate j true).map V.bl)) ∧ Same (upd H d (.frz odj (.dK es))) H') ⟨upd_same, same_new nD⟩ (fun j H' _ h => h.2 _ _ oLd) ?_ ?_
  · rintro j y H4 H5 lj ⟨oD, k4⟩ ⟨rfl, k0, v0, ekv, rfl⟩
    have eA : (zs.map Sum.inl)[j]? = some k0 := by
      rw [← ke, List.getElem?_map, ekv]
      rfl
    rw [List.getElem?_map] at eA
    obtain ⟨z, ez, rfl⟩ := Option.map_eq_some_iff.mp eA
    have zin : (Sum.inl z : Key) ∈ ds.map (·.1) := by rw [kd]; exact List.mem_map_of_mem (List.mem_of_getElem? ez)
    obtain ⟨u, hu2⟩ : ∃ u, valV ds (Sum.inl z) = some u := by
      cases q : valV ds (Sum.inl z) with
      | none => exact absurd zin (val_none_not q)
      | some u => exact ⟨u, rfl⟩
    refine ⟨rfl, ?_⟩
    refine ⟨_, rfl, _, rfl, .inl ⟨z, rfl, _, rfl, iteT ⟨_, rfl, _, rfl, e, some u, rfl, .inl ⟨ds, Sum.inl z, rdE _ k4, rfl, hu2.symm⟩, _, oD, ?_, ?_, ?_⟩⟩⟩
    · rw [List.length_map, List.length_replicate, sizeLine_eq]; omega
    · rw [upd_same, List.replicate_succ', List.map_append]
      rfl
    · exact fun b o e => by
        rw [upd_ne (ne_of_none e nD)]
        exact k4 _ _ e
  · rintro H6 ⟨oD, k6⟩
    obtain ⟨b1, s2⟩ := lock_off od k6
    have Dd : D ≠ d := fun z => by rw [z, upd_same] at nD; cases nD
    refine ⟨b1, D, List.replicate es.length true, rfl, SqL.of (by rw [upd_ne Dd]; exact oD), ?_⟩
    have ea : (List.replicate es.length true).all id = true := by simp
    rw [ea]
    exact hq _ s2
end
end L2.TB
/-! is_tree of a best tree -/
namespace L2.TB
open PySem PySem.Spec PyProof.Rows
/-- one answer: that of the first row -/
theorem one_head {f : Nat → Int} {part : List Nat} (one : (answersOf f part).length = 1) : answersOf f part = [f (part.headD 0)] := by
  obtain ⟨v, ev⟩ : ∃ v, answersOf f part = [v] := by
    match q : answersOf f part, one with
    | [v], _ => exact ⟨v, rfl⟩
  cases part with
  | nil => simp [answersOf, onceZ] at ev
  | cons i r =>
    have m : f i ∈ answersOf f (i :: r) := by
      unfold answersOf
      rw [once_mem]
      simp
    rw [ev] at m ⊢
    have e : f i = v := by simpa using m
    rw [← e]
    rfl
theorem one_all {f : Nat → Int} {part : List Nat} (one : (answersOf f part).length = 1) {i : Nat} (hi : i ∈ part) : f i = f (part.headD 0) := by
  have m : f i ∈ answersOf f part := by
    unfold answersOf
    rw [once_mem]
    exact List.mem_map_of_mem hi
  rw [one_head one] at m
  simpa using m
abbrev ItQ : Type := Qt × List Nat
/-- what is still to be looked at: a tree in Hb, and the rows that it is for -/
def ItqAt (ws : Option (List Int)) (sy : Str → Nat → Int) (x : Str) (of : List Str) (Hb H : Hp) (m : Nat) (r : Addr) (it : ItQ) : Prop := ∃ v p, H r = some (.tup [v, .ref p]) ∧ QtAt (fun _ => True) Hb it.1 v ∧ BT ws sy x of it.2 it.1 ∧ PartAt H p m it.2 ∧ 0 < it.2.length
theorem ItqAt.but {ws : Option (List Int)} {sy : Str → Nat → Int} {x : Str} {of : List Str} {Hb H H' : Hp} {l : Addr} {m : Nat} {r : Addr} {it : ItQ} (h : ItqAt ws sy x of Hb H m r it) (T : ∃ xs, H l = some (.lst xs)) (s : ButB l H H') : ItqAt ws sy x of Hb H' m r it := by
  obtain ⟨xs, el⟩ := T
  obtain ⟨v, p, h1, h2, h3, h4, h5⟩ := h
  exact ⟨v, p, s _ _ (fun z => by rw [z, el] at h1; cases h1) h1, h2, h3, ⟨s _ _ (fun z => by have e := h4.1; rw [z, el] at e; cases e) h4.1, h4.2⟩, h5⟩
/-- what is left to do -/
def wtQ : List ItQ → Nat
  | [] => 0
  | it :: l => (2 * it.2.length - 1) + wtQ l
theorem wtQ_app : ∀ l r : List ItQ, wtQ (l ++ r) = wtQ l + wtQ r
  | [], r => by show wtQ r = 0 + _; omega
  | it :: l, r => by
    show _ + wtQ (l ++ r) = _ + wtQ l + wtQ r
    rw [wtQ_app l r]
    omega
/-- all rows of a part stand in its parts -/
theorem parts_sum (f : Nat → Int) (g : Nat → Int) : ∀ part : List Nat, (part.map g).sum = ((answersOf f part).map fun v => ((partOf f part v).map g).sum).sum := by
  have key : ∀ (vs : List Int), vs.Nodup → ∀ part : List Nat, (∀ i ∈ part, f i ∈ vs) → (part.map g).sum = (vs.map fun v => ((partOf f part v).map g).sum).sum := fun vs nd part => by
    induction part with
    | nil =>
      intro _
      have : ∀ vs : List Int, (vs.map fun v => ((partOf f [] v).map g).sum).sum = 0 := fun vs => by
        induction vs with
        | nil => rfl
        | cons v vs ih => rw [List.map_cons, List.sum_cons, ih]; rfl
      rw [this]; rfl
    | cons i r ih =>
      intro h
      rw [List.map_cons, List.sum_cons, ih fun j hj => h j (List.mem_cons_of_mem _ hj)]
      have one : ∀ vs : List Int, vs.Nodup → f i ∈ vs → g i + (vs.map fun v => ((partOf f r v).map g).sum).sum = (vs.map fun v => ((partOf f (i :: r) v).map g).sum).sum := fun vs => by
        have part_cons : ∀ v, partOf f (i :: r) v = if f i = v then i :: partOf f r v else partOf f r v := fun v => by
          unfold partOf
          rw [List.filter_cons]
          by_cases q : f i = v
          · rw [if_pos q, if_pos (decide_eq_true q)]
          · rw [if_neg q, if_neg (by rw [decide_eq_false q]; exact Bool.false_ne_true)]
        have out : ∀ vs : List Int, f i ∉ vs → (vs.map fun v => ((partOf f (i :: r) v).map g).sum).sum = (vs.map fun v => ((partOf f r v).map g).sum).sum := fun vs no => by
          congr 1
          refine List.map_congr_left fun v hv => ?_
          rw [part_cons v, if_neg (fun q : f i = v => no (by rw [q]; exact hv))]
        induction vs with
        | nil => intro _ h; cases h
        | cons v vs ih2 =>
          intro nd hm
          rw [List.nodup_cons] at nd
          rw [List.map_cons, List.map_cons, List.sum_cons, List.sum_cons]
          by_cases q : f i = v
          · rw [part_cons v, if_pos q, List.map_cons, List.sum_cons, out vs (by rw [q]; exact nd.1)]
            omega
          · have z := ih2 nd.2 ((List.mem_cons.mp hm).resolve_left q)
            rw [part_cons v, if_neg q, ← z]
            omega
      exact one vs nd (h i (by simp))
  intro part
  refine key _ (once_nd _) part fun i hi => ?_
  rw [once_mem]
  exact List.mem_map_of_mem hi
/-- the children of a node -/
theorem kids_wt {f : Nat → Int} {part : List Nat} : ∀ {ks : List (Int × Qt)}, (∀ v t, (v, t) ∈ ks → 0 < (partOf f part v).length) → wtQ (ks.map fun e => (e.2, partOf f part e.1)) + ks.length = ((ks.map (·.1)).map fun v => 2 * (partOf f part v).length).sum
  | [], _ => rfl
  | e :: ks, h => by
    have z := kids_wt (ks := ks) fun v t m => h v t (List.mem_cons_of_mem _ m)
    have p := h e.1 e.2 (by simp)
    rw [List.map_cons, List.map_cons, List.map_cons, List.sum_cons, List.length_cons]
    show (2 * (partOf f part e.1).length - 1) + wtQ _ + (ks.length + 1) = _
    omega
theorem sum_nat (l : List Int) (f : Int → Nat) : ((l.map f).sum : Nat) = (((l.map fun v => ((f v : Nat) : Int)).sum : Int)) := by
  induction l with
  | nil => rfl
  | cons a l ih => rw [List.map_cons, List.map_cons, List.sum_cons, List.sum_cons, ← ih]; simp
theorem kids_sum {f : Nat → Int} {part : List Nat} : ((answersOf f part).map fun v => 2 * (partOf f part v).length).sum = 2 * part.length := by
  have z := parts_sum f (fun _ => 2) part
  have c : ∀ l : List Nat, (l.map fun _ => (2 : Int)).sum = ((2 * l.length : Nat) : Int) := fun l => by
    induction l with
    | nil => rfl
    | cons a l ih => rw [List.map_cons, List.sum_cons, ih, List.length_cons]; omega
  rw [c] at z
  have e : ((answersOf f part).map fun v => ((partOf f part v).map fun _ => (2 : Int)).sum) = (answersOf f part).map fun v => ((2 * (partOf f part v).length : Nat) : Int) := List.map_congr_left fun v _ => c _
  rw [e, ← sum_nat (answersOf f part) fun v => 2 * (partOf f part v).length] at z
  omega
end L2.TB
/-! is_tree of a best tree: the def -/
namespace L2.TB
open PySem PySem.Spec PyProof.Rows
def spPairS : Sp := fun vs H Q _ => ∃ (a : Addr) (u v : V), vs = [.ref a] ∧ H a = some (.tup [u, v]) ∧ ∀ H', Same H H' → Q (.bl true) H'
theorem scPrS : FnScope ["thing"] ["thing"] (defScope sIsPair) := ⟨rfl, rfl, rfl, by decide +kernel, rfl, by decide +kernel, by decide +kernel⟩
/-- what is_tree calls besides -/
structure TreeP (P : Program) (w : World) (K : PySem.W.Frag) (mg : Str → Option Value) (base : Heap) (C : Addr) : Prop where
  po : ∃ f fd, Meth K C "parts_of" f ∧ FnOk P w K mg base CX0 1 f fd ["self", "part", "question"] (spPartsOf 0 none C) ∧ Binds K fd ["self", "part", "question"] []
  pr : ∃ f fd, mg "is_pair" = some (.ref f) ∧ PySem.W.keepIn K (.ref f) = true ∧ FnOk P w K mg base CX0 2 f fd ["thing"] spPairS ∧ Binds K fd ["thing"] []
  it : ∃ f fd, mg "is_integer" = some (.ref f) ∧ PySem.W.keepIn K (.ref f) = true ∧ FnOk P w K mg base CX0 1 f fd ["thing"] (spIsIntG K) ∧ Binds K fd ["thing"] []
  on_ : ∃ f fd, mg "is_one_of" = some (.ref f) ∧ PySem.W.keepIn K (.ref f) = true ∧ FnOk P w K mg base CX0 1 f fd ["names", "thing"] (spIsOne K) ∧ Binds K fd ["names", "thing"] []
  hi : ∃ f fd, mg "_has_integers" = some (.ref f) ∧ PySem.W.keepIn K (.ref f) = true ∧ FnOk P w K mg base CX0 2 f fd ["thing", "right"] spHasI ∧ Binds K fd ["thing", "right"] []
  nI : mg "isinstance" = none
  nD : mg "dict" = none
  nN : mg "len" = none
  nL : mg "list" = none
def spIsTreeT (K : PySem.W.Frag) (CT : Addr) : Sp := fun vs H Q _ => ∃ (t : Addr) (v o : V) (ns : List Str) (tbl : List (List Int)) (y : Str) (of : List Str) (ws : Option (List Int)) (tr : Qt), vs = [.ref t, .str y, v, o] ∧ AskOk K H CT t ns tbl y o of ∧ QtAt (fun _ => True) H tr v ∧ BT ws (says ns tbl) y of (allP tbl) tr ∧ ∀ H', Same H H' → Q (.bl true) H'
abbrev NIt : List Str := ["table", "asked", "thing", "of", "names", "search", "left", "tree", "part", "parts", "answer"]
theorem scIt : FnScope NIt ["table", "asked", "thing", "of"] (defScope sIsTree) := ⟨rfl, rfl, rfl, by decide +kernel, rfl, by decide +kernel, by decide +kernel⟩
section
variable {P : Program} {w : World} {K : PySem.W.Frag} {mg : Str → Option Value} {base : Heap} {f fL C CT CQ CK CN : Addr} {fd fdL : FuncData}
theorem ok_pairS (F : Fun K "is_pair" "is_pair" sIsPair f fd) (FL : Fun K "is_list" "is_list" sIsList fL fdL) (gL : mg "is_list" = some (.ref fL)) (nI : mg "isinstance" = none) (nL : mg "list" = none) (nT : mg "tuple" = none) (nN : mg "len" = none) : FnOk P w K mg base CX0 2 f fd ["thing"] spPairS := by
  have GL : FnOk P w K mg base CX0 1 fL fdL ["thing"] (spIsListG K) := ok_isListG FL nI nL nT
  have bL := FL.binds (ps := ["thing"]) fun _ _ _ _ _ _ us hl => match us, hl with | [_], _ => rfl
  refine F.ok scPrS (fun vs H Q E h => by obtain ⟨a, u, v, e, _⟩ := h; rw [e]; rfl) fun cdv A outer s H vs Q E hr hsp => ?_
  obtain ⟨a, u, v, rfl, ha, hq⟩ := hsp
  refine ⟨_, pss_one (ps_ret (pe_and (pe_call GL hr rfl gL FL.kp bL .nil pass0 (pa_cons (pv 0) pa_nil)) (pe_one (pe_cmpR op_eq (pe_callB call_len_seq rfl nN boot_len (pa_cons (pv 0) pa_nil)) pe_int (nomark _))))), ?_⟩
  refine ⟨_, rfl, .ref a, rfl, .inl ⟨⟨a, _, rfl, .inr ha⟩, fun H1 k1 => ⟨_, rfl, iteT ?_⟩⟩⟩
  exact ⟨_, rfl, a, _, rfl, .inr (SqT.of (k1 _ _ ha)), rfl, hq H1 k1⟩
theorem ok_isTreeT (F : FunF K "is_tree" sIsTree f fd) (S : SeaP P w K mg base CT C CQ CK CN) (U : TreeP P w K mg base C) : FnOk P w K mg base (L2.CX P w) 6 f fd ["table", "asked", "thing", "of"] (spIsTreeT K CT) := by
  obtain ⟨fI, fdI, Mk, GI, bI⟩ := S.mkr
  obtain ⟨fW, fdW, mW, GW, bW⟩ := S.wh
  obtain ⟨fA, fdA, gA, kA, GA, bA⟩ := S.af
  obtain ⟨fP, fdP, mP, GP, bP⟩ := U.po
  obtain ⟨fR, fdR, gR, kR, GR, bR⟩ := U.pr
  obtain ⟨fT, fdT, gT, kT, GT, bT⟩ := U.it
  obtain ⟨fO, fdO, gO, kO, GO, bO⟩ := U.on_
  obtain ⟨fH, fdH, gH, kH, GH, bH⟩ := U.hi
  refine FunD.ok F scIt (fun vs H Q E h => by obtain ⟨t, v, o, ns, tbl, y, of, ws, tr, e, _⟩ := h; rw [e]; rfl) fun cdv A outer s H vs Q E hr hsp => ?_
  obtain ⟨t, v, o, ns, tbl, y, of, ws, tr, rfl, ask, hv, bt, hq⟩ := hsp
  have nd := scIt.nd
  have hu := hu_of (hr.mono (show 1 ≤ 5 by decide))
  have hu64 := hr.units
  refine ⟨_, pss_cons (ps_set (i := 4) nd rfl (Or.inl rfl) (pe_callS GA (hr.mono (by decide)) rfl gA kA bA (fun σ => passAt (takes_of rfl rfl rfl rfl) σ) (pa_cons (pv 0) (pa_cons (pv 1) (pa_cons (pv 3) pa_nil)))))
    (pss_cons (ps_set (i := 5) nd rfl (Or.inl rfl) (pe_make Mk GI (hr.mono (by decide)) rfl S.gS bI .nil pass0 (pa_cons (pv 0) (pa_cons (pv 1) (pa_cons (pv 4) (pa_cons pe_non pa_nil))))))
    (pss_cons (ps_set (i := 6) nd rfl (Or.inl rfl) (pe_lst (pa_cons (pe_tup (pa_cons (pv 2) (pa_cons (pe_meth0 (pv 5) S.c.cl mW GW (hr.mono (by decide)) bW .nil pass0 rfl) pa_nil))) pa_nil)))
    (pss_cons (ps_while (passes_of rfl) (pt_truth (pv 6) (fun _ => rfl))
      (pss_cons (ps_asg (pe_bm0 PySem.F.plainAttrs_list PySem.F.slot_list_pop PySem.F.type_list_pop mt_pop (pv 6)) (pg_tup rfl (pgs_cons (pg_name (i := 7) nd rfl (Or.inr rfl)) (pgs_cons (pg_name (i := 8) nd rfl (Or.inl rfl)) pgs_nil))))
      (pss_one (ps_if (pt_val (pe_call GT (hr.mono (by decide)) rfl gT kT bT .nil pass0 (pa_cons (pv 7) pa_nil)))
        (pss_one (ps_if (pt_cmpR (r := rNeD K) (op_neD hu64) (pe_callTy (call_listD rfl) rfl U.nL boot_list' (pa_cons (pe_meth (pv 5) S.c.cl mP GP (hr.mono (by decide)) bP .nil pass0 (pa_cons (pv 8) (pa_cons (pv 1) pa_nil))) pa_nil)) (pe_lst (pa_cons (pv 7) pa_nil)) (nomark _)) (pss_one ps_never) pss_nil))
        (pss_one (ps_if (PW.pt (pw_or (pt_not (pt_val (pe_call GR (hr.mono (by decide)) rfl gR kR bR .nil pass0 (pa_cons (pv 7) pa_nil))))
            (pw_or (pt_not (pt_val (pe_call GO (hr.mono (by decide)) rfl gO kO bO .nil pass0 (pa_cons (pv 4) (pa_cons (pe_ix (r := rIxT K) ix_tup (pv 7) pe_int (fun _ _ => rfl)) pa_nil)))))
              (pw_or1 (pt_not (pt_val (pe_callB (r := rIsi K) call_isi rfl U.nI boot_isi (pa_cons (pe_ix (r := rIxT K) ix_tup (pv 7) pe_int (fun _ _ => rfl)) (pa_cons (pe_bltn (v := .ty "dict") rfl U.nD boot_dict' rfl) pa_nil)))))))))
          (pss_one ps_never)
          (pss_cons (ps_set (i := 9) nd rfl (Or.inr rfl) (pe_meth (pv 5) S.c.cl mP GP (hr.mono (by decide)) bP .nil pass0 (pa_cons (pv 8) (pa_cons (pe_ix (r := rIxT K) ix_tup (pv 7) pe_int (fun _ _ => rfl)) pa_nil))))
          (pss_cons (ps_if (pt_not (pt_val (pe_call GH (hr.mono (by decide)) rfl gH kH bH .nil pass0 (pa_cons (pe_ix (r := rIxT K) ix_tup (pv 7) pe_int (fun _ _ => rfl)) (pa_cons (pv 9) pa_nil))))) (pss_one ps_never) pss_nil)
          (pss_one (ps_expr (pe_bm PySem.F.plainAttrs_list PySem.F.slot_list_extend PySem.F.type_list_extend mt_extend (pv 6) (pa_cons (pe_lock (pe_lc (own := [("answer", 10)]) (g := gName 10) (tt := tYes) (te := tTup (tCons (tDGet (tOp (rIxT K) (tVar 7) (tC (.int 1))) (tVar 10)) (tCons (tDGet (tVar 9) (tVar 10)) tNil))) rfl nd (pi_keys (pv 9)) (blkOk_by (N := NIt) (sc := defScope sIsTree) (by decide +kernel)) (fun _ _ _ _ _ => pg_name (i := 10) nd rfl (Or.inl rfl)) (fun _ _ _ _ _ => pts_nil)
            (fun _ _ _ _ _ => pe_tup (pa_cons (pe_dget hu (pe_ix (r := rIxT K) ix_tup (pv 7) pe_int (fun _ _ => rfl)) (pv 10) (fun _ _ => rfl)) (pa_cons (pe_dget hu (pv 9) (pv 10) (fun _ _ => rfl)) pa_nil))))) pa_nil))))))))))))
    (pss_one (ps_ret pe_bl))))), ?_⟩
  have nsh := ask.sh
  have few := ask.few
  have pos := ask.pos
  obtain ⟨sub, osh, ond⟩ := ask.sub
  refine ⟨_, rfl, _, rfl, _, rfl, ?_⟩
  dsimp only [tNil, tVar, tC, start]
  refine ask.files fun H1 q nq k1 oq => ?_
  refine ⟨_, rfl, _, rfl, _, rfl, ?_⟩
  intro a dx na ndx ne
  refine ⟨a, dx, t, _, _, _, ns, tbl, rfl, upd_same, (ask.tab.same k1).same fun b o e => (by rw [upd_ne (ne_of_none e na), upd_ne (ne_of_none e ndx)]; exact e), ask.nd, by omega, by omega, fun H3 rL bs as nrL nbs o1 o2 o3 o4 keep => ⟨rfl, ?_⟩⟩
  obtain ⟨k13, sea, memo, nbs1⟩ := sea_new (wa := 0) (ws := none) na ndx nbs o1 o2 o3 o4 keep oq ask.nd ask.yin sub (by omega) osh (fun _ e => by cases e)
  obtain ⟨dx', rL', oL', as', h1, _, _, _⟩ := id sea.ex
  refine ⟨_, rfl, _, rfl, a, dx', _, rfl, h1, rfl, ?_⟩
  unfold tNil
  show spWhole 0 none C _ _ _ _
  refine ⟨a, bs, ns, tbl, y, of, rfl, sea, fun H4 p k34 pt => ?_⟩
  have k04 := (k1.trans k13).trans k34
  have sea4 := sea.same k34
  have h14 := k34 _ _ h1
  have oq4 := k34 _ _ (k13 _ _ oq)
  have hv4 := hv.same k04
  refine ⟨(by show 2 ≤ sizeLine; decide), fun r nr => ⟨(by show 1 ≤ sizeLine; decide), fun l nl => ?_⟩⟩
  have kr := same_new (o := .tup [v, .ref p]) nr
  have kl := same_new (o := .lst [.ref r]) nl
  have nl4 : H4 l = none := kr.free nl
  refine ⟨fun m σ H' => ∃ (items : List ItQ) (rs : List Addr), m = wtQ items ∧ m ≤ 100 ∧ H' l = some (.lst (rs.map V.ref)) ∧ Paired (ItqAt ws (says ns tbl) y of H4 H' tbl.length) rs items ∧ Same H4 H' ∧
      ∃ s7 s8 s9 s10, σ = [some (.ref t), some (.str y), some v, some o, some (.ref q), some (.ref a), some (.ref l), s7, s8, s9, s10],
    ⟨_, [(tr, allP tbl)], [r], rfl, ?_, upd_same, .cons ⟨v, p, kl _ _ upd_same, hv4, bt, (pt.same kr).same kl, by show 0 < (List.range tbl.length).length; rw [List.length_range]; exact pos⟩ .nil, kr.trans kl, _, _, _, _, rfl⟩, ?_⟩
  · show (2 * (List.range tbl.length).length - 1) + 0 ≤ 100
    rw [List.length_range]
    omega
  rintro m σ H5 ⟨items, rs, rfl, small, ol, pr, k45, s7, s8, s9, s10, rfl⟩
  refine ⟨_, rfl, !(rs.map V.ref).isEmpty, .inl ⟨_, SqL.of ol, rfl⟩, ?_⟩
  rcases List.eq_nil_or_concat items with rfl | ⟨init, it, ei⟩
  · cases pr
    exact iteF (hq H5 (k04.trans k45))
  rw [List.concat_eq_append] at ei
  subst ei
  obtain ⟨rs', r0, rfl, pr', hit⟩ := paired_split pr
  have e1 : (!((rs' ++ [r0]).map V.ref).isEmpty) = true := by simp
  rw [e1]
  refine iteT ⟨_, fun _ _ h => h, ?_⟩
  have e2 : ((rs' ++ [r0]).map V.ref)[((rs' ++ [r0]).map V.ref).length - 1]? = some (V.ref r0) := by simp
  have e3 : ((rs' ++ [r0]).map V.ref).dropLast = rs'.map V.ref := by simp
  refine ⟨_, rfl, .inl ⟨rfl, _, SqL.of ol⟩, l, _, .ref r0, rfl, rfl, ol, e2, ?_⟩
  rw [e3]
  have T5 : ∃ xs, H5 l = some (.lst xs) := ⟨_, ol⟩
  have B56 : ButB l H5 (upd H5 l (.lst (rs'.map V.ref))) := fun b o nb e => by rw [upd_ne nb]; exact e
  have k46 : Same H4 (upd H5 l (.lst (rs'.map V.ref))) := fun b o e => by rw [upd_ne (ne_of_none e nl4)]; exact k45 _ _ e
  have pr6 := Paired.mapP pr' fun r it h => h.but T5 B56
  have hit6 := hit.but T5 B56
  have ol6 : upd H5 l (.lst (rs'.map V.ref)) l = some (.lst (rs'.map V.ref)) := upd_same
  generalize upd H5 l (.lst (rs'.map V.ref)) = H6 at B56 k46 pr6 hit6 ol6
  obtain ⟨tr1, part⟩ := it
  obtain ⟨v1, p0, i1, i2, i3, i4, i5⟩ := hit6
  refine ⟨r0, _, rfl, SqT.of i1, rfl, _, _, rfl, _, _, rfl, rfl, ?_⟩
  have wt6 : wtQ (init ++ [(tr1, part)]) = wtQ init + (2 * part.length - 1) := by
    rw [wtQ_app]
    rfl
  have i3' : BT ws (says ns tbl) y of part tr1 := i3
  have i5' : 0 < part.length := i5
  have i4' : PartAt H6 p0 tbl.length part := i4
  have sea6 := sea4.same k46
  have h16 := k46 _ _ h14
  clear i3
  cases i3' with
  | leaf one =>
    obtain rfl : v1 = .int (says ns tbl y (part.headD 0)) := by cases i2; rfl
    refine ⟨_, rfl, _, rfl, .inl ⟨_, rfl, _, rfl, iteT ?_⟩⟩
    refine ⟨_, rfl, a, dx', _, rfl, h16, rfl, _, rfl, _, rfl, a, p0, bs, ns, tbl, y, y, of, part, rfl, sea6, i4, ask.yin, fun H7 d k7 nd7 P7 => ?_⟩
    obtain ⟨kvs, od, ek, ev⟩ := P7
    refine ⟨d, _, rfl, .inl od, fun c nc => ?_⟩
    have kc := same_new (o := .lst (kvs.map fun kv => kV kv.1)) nc
    have ec : (kvs.map fun kv => kV kv.1) = [V.int (says ns tbl y (part.headD 0))] := by
      have z := congrArg (List.map kV) ek
      rw [List.map_map, List.map_map, one_head one] at z
      exact z
    have oc : upd H7 c (.lst (kvs.map fun kv => kV kv.1)) c = some (.lst (kvs.map fun kv => kV kv.1)) := upd_same
    generalize upd H7 c (.lst (kvs.map fun kv => kV kv.1)) = H8 at kc oc ⊢
    rw [ec] at oc
    refine ⟨_, rfl, (by show 1 ≤ sizeLine; decide), fun c2 nc2 => ?_⟩
    have kc2 := same_new (o := .lst [.int (says ns tbl y (part.headD 0))]) nc2
    have oc2 : upd H8 c2 (.lst [.int (says ns tbl y (part.headD 0))]) c2 = some (.lst [.int (says ns tbl y (part.headD 0))]) := upd_same
    have dA : ∀ {c : Addr} {H : Hp}, H c = some (.lst [.int (says ns tbl y (part.headD 0))]) → Dp K H (.ref c) (.list [.int (says ns tbl y (part.headD 0))]) := fun e => Dp.lst (SqL.of e) (.cons (.int _) .nil)
    have sh : SeqAt.shaped (.list [.int (says ns tbl y (part.headD 0))]) = true := by
      simp [SeqAt.shaped, PyData.canLay0, PyData.canLayAll0, PyData.depth, PyData.depthAll]
    refine ⟨_, _, dA (kc2 _ _ oc), dA oc2, sh, sh, ?_⟩
    have eqv : PyData.eqv (.list [.int (says ns tbl y (part.headD 0))]) (.list [.int (says ns tbl y (part.headD 0))]) = true := SeqAt.eqv_refl _ (Bool.and_eq_true_iff.mp sh).1
    refine ⟨_, rfl, ?_⟩
    rw [eqv]
    refine iteF ?_
    have k68 := (k7.trans kc).trans kc2
    exact ⟨wtQ init, by rw [wt6]; omega, init, rs', rfl, by omega, k68 _ _ ol6, Paired.mapP pr6 fun r it h => h.but ⟨_, ol6⟩ (.of k68), k46.trans k68, _, _, _, _, rfl⟩
  | @node _ q1 ks c ne1 hq1 big ekk best cost sub1 =>
    have i2' : QtAt (fun _ => True) H4 (.node q1 ks) v1 := i2
    clear i2
    obtain ⟨b1, d1, es, rfl, ob1, od1, ees, nds, shs, als⟩ : ∃ (b1 d1 : Addr) (es : List (Key × V)), v1 = .ref b1 ∧ H4 b1 = some (.tup [.str q1, .ref d1]) ∧ H4 d1 = some (.dK es) ∧ (es.map (·.1) = ks.map fun e => Sum.inl e.1) ∧ (ks.map (·.1)).Nodup ∧ ks.length < 1000 ∧
        ∀ (i : Nat) (k : Key) (u : V) (z : Int) (t : Qt), es[i]? = some (k, u) → ks[i]? = some (z, t) → QtAt (fun _ => True) H4 t u := by
      cases i2' with
      | node oa od h hd ek nd sh al => exact ⟨_, _, _, rfl, h, hd, ek, nd, sh, al⟩
    have q1in := sub q1 hq1
    have ea : es.map (·.1) = (answersOf (says ns tbl q1) part).map Sum.inl := by
      rw [ees, ← ekk, List.map_map]
      rfl
    refine ⟨_, rfl, _, rfl, .inr ⟨.ty (.base (.tup (k46 _ _ ob1))) (by decide +kernel), _, rfl, iteF ?_⟩⟩
    refine ⟨_, rfl, b1, _, _, rfl, k46 _ _ ob1, fun H7 k7 => ⟨_, rfl, iteF ?_⟩⟩
    have k47 := k46.trans k7
    refine ⟨_, rfl, _, rfl, b1, _, 0, _, rfl, rfl, SqT.of (k47 _ _ ob1), rfl, ?_⟩
    refine ⟨q, of, q1, rfl, SqL.of (k47 _ _ oq4), _, rfl, ?_⟩
    rw [decide_eq_true hq1]
    refine iteF ?_
    refine ⟨_, rfl, b1, _, 1, _, rfl, rfl, SqT.of (k47 _ _ ob1), rfl, _, _, _, _, true, rfl, .ty _, .base (.dK (k47 _ _ od1)), kit_ty (by decide +kernel), _, rfl, iteF ?_⟩
    refine ⟨_, rfl, a, dx', _, rfl, k47 _ _ h14, rfl, _, rfl, _, rfl, b1, _, 0, _, rfl, rfl, SqT.of (k47 _ _ ob1), rfl, a, p0, bs, ns, tbl, y, q1, of, part, rfl, sea4.same k47, i4'.same k7, q1in, fun H8 d2 k8 nd8 P8 => ?_⟩
    obtain ⟨kvs, od2, ek2, ev2⟩ := P8
    have k48 := k47.trans k8
    have lans := ans_len (says ns tbl q1) part
    refine ⟨_, rfl, b1, _, 1, _, rfl, rfl, SqT.of (k48 _ _ ob1), rfl, _, rfl, d1, d2, es, kvs, answersOf (says ns tbl q1) part, rfl, k48 _ _ od1, od2, ea, ek2, by have := i4'.2.1; omega, fun H9 k9 => ⟨_, rfl, iteF ?_⟩⟩
    have k49 := k48.trans k9
    have od29 := k9 _ _ od2
    have ol9 := k9 _ _ (k8 _ _ (k7 _ _ ol6))
    have lks : ks.length = (answersOf (says ns tbl q1) part).length := by
      have z := congrArg List.length ekk
      rw [List.length_map] at z
      exact z
    have lkv : kvs.length = (answersOf (says ns tbl q1) part).length := by
      have z := congrArg List.length ek2
      rw [List.length_map, List.length_map] at z
      exact z
    have pos1 : ∀ v t, (v, t) ∈ ks → 0 < (partOf (says ns tbl q1) part v).length := fun v t h => List.length_pos_iff.mpr (part_some (by rw [← ekk]; exact List.mem_map.mpr ⟨_, h, rfl⟩))
    have kw := kids_wt (f := says ns tbl q1) (part := part) (ks := ks) pos1
    rw [ekk, kids_sum] at kw
    have k69 := (k7.trans k8).trans k9
    have pr9 : Paired (ItqAt ws (says ns tbl) y of H4 H9 tbl.length) rs' init := Paired.mapP pr6 fun r it h => h.but ⟨_, ol6⟩ (.of k69)
    have linit : init.length ≤ wtQ init := by
      have all : ∀ {rs : List Addr} {l : List ItQ}, Paired (ItqAt ws (says ns tbl) y of H4 H9 tbl.length) rs l → l.length ≤ wtQ l := fun h => by
        induction h with
        | nil => exact Nat.le_refl _
        | @cons _ b _ bs h _ ih =>
          obtain ⟨_, _, _, _, _, _, p5⟩ := h
          show bs.length + 1 ≤ (2 * b.2.length - 1) + wtQ bs
          omega
      exact all pr9
    have lrs := Paired.length pr9
    refine ⟨_, rfl, .inl ⟨rfl, _, SqL.of ol9⟩, d2, _, od29, trivial, fun odj => ⟨_, rfl, d2, odj, rfl, .inl ⟨kvs, upd_same, fun D nD => ?_⟩⟩⟩
    have oLd : upd H9 d2 (.frz odj (.dK kvs)) d2 = some (.frz odj (.dK kvs)) := upd_same
    have nd4 : H4 d2 = none := (k47.free nd8)
    have keep4 : ∀ {H' : Hp}, Same (upd H9 d2 (.frz odj (.dK kvs))) H' → Same H4 H' := fun k b o e => k _ _ (by rw [upd_ne (ne_of_none e nd4)]; exact k49 _ _ e)
    refine lc_it walk_keys (fun j H' => (∃ rsx : List Addr, H' D = some (.lst (rsx.map V.ref)) ∧ Paired (ItqAt ws (says ns tbl) y of H4 H' tbl.length) rsx ((ks.take j).map fun e => (e.2, partOf (says ns tbl q1) part e.1))) ∧ Same (upd H9 d2 (.frz odj (.dK kvs))) H') ⟨⟨[], upd_same, .nil⟩, same_new nD⟩ (fun j H' _ h => h.2 _ _ oLd) ?_ ?_
    · rintro j yv H10 H11 lj ⟨⟨rsx, oD, prx⟩, k10⟩ ⟨rfl, k0, v0, ekv, rfl⟩
      have eA : ((answersOf (says ns tbl q1) part).map Sum.inl)[j]? = some k0 := by
        rw [← ek2, List.getElem?_map, ekv]
        rfl
      rw [List.getElem?_map] at eA
      obtain ⟨z, ez, rfl⟩ := Option.map_eq_some_iff.mp eA
      have zin := List.mem_of_getElem? ez
      obtain ⟨t5, et5, ot5⟩ := ev2 z zin
      have lt : j < ks.length := by omega
      have ekz : (ks.map (·.1))[j]? = some z := by rw [ekk]; exact ez
      rw [List.getElem?_map] at ekz
      obtain ⟨⟨z', t'⟩, ekt, e0⟩ := Option.map_eq_some_iff.mp ekz
      obtain rfl : z' = z := e0
      have les : es.length = ks.length := by
        have q := congrArg List.length ees
        rw [List.length_map, List.length_map] at q
        exact q
      have eel : es[j]? = some (es[j]'(by omega)) := List.getElem?_eq_getElem _
      have ek1 : (es[j]'(by omega)).1 = Sum.inl z' := by
        have q := congrArg (fun l => l[j]?) ees
        simp only [List.getElem?_map, eel, ekt, Option.map_some] at q
        exact Option.some.inj q
      generalize es[j]'(by omega) = en at eel ek1
      obtain ⟨kk, u⟩ := en
      obtain rfl : kk = Sum.inl z' := ek1
      have hu1 := als j _ u z' t' eel ekt
      have ndes : (es.map (·.1)).Nodup := by
        rw [ea]
        exact List.Pairwise.map Sum.inl (fun a b h e => h (Sum.inl.inj e)) (once_nd _)
      have k410 := keep4 k10
      have dg1 : DGet H11 d1 (.int z') (some u) := by
        have q := DGet.k (k := Sum.inl z') (k410 _ _ od1)
        rw [valV_at ndes eel] at q
        exact q
      have t5d : t5 ≠ d2 := fun q => by rw [q, od2] at ot5; cases ot5
      have ot10 := k10 _ _ (by rw [upd_ne t5d]; exact k9 _ _ ot5)
      refine ⟨rfl, ?_⟩
      refine ⟨_, rfl, b1, _, 1, _, rfl, rfl, SqT.of (k410 _ _ ob1), rfl, _, rfl, d1, u, rfl, dg1, _, rfl, _, rfl, d2, _, rfl, .inl ⟨kvs, Sum.inl z', .inr ⟨odj, k10 _ _ oLd⟩, rfl, et5.symm⟩, (by show 2 ≤ sizeLine; decide), fun r6 nr6 => ?_⟩
      have k6 := same_new (o := .tup [u, .ref t5]) nr6
      have lrx : rsx.length = j := by
        have q := Paired.length prx
        rw [List.length_map, List.length_take] at q
        omega
      have r6D : r6 ≠ D := fun q => by rw [q, oD] at nr6; cases nr6
      have upk : ∀ {u : HO}, ButB D H11 (upd (upd H11 r6 (.tup [_, .ref t5])) D u) := fun b o nb e => by
        rw [upd_ne nb]
        exact k6 _ _ e
      refine ⟨_, k6 _ _ oD, by rw [sizeLine_eq, List.length_map]; omega, ⟨rsx ++ [r6], by rw [upd_same, map_snoc], ?_⟩, fun b o e => ?_⟩
      · rw [List.take_succ, ekt, List.map_append]
        refine paired_join (Paired.mapP prx fun r it h => h.but ⟨_, oD⟩ upk) ⟨u, t5, by rw [upd_ne r6D]; exact upd_same, hu1, sub1 _ _ (List.mem_of_getElem? ekt), ⟨?_, Nat.lt_of_le_of_lt (List.length_filter_le _ _) i4'.2.1, fun i hi => i4'.2.2 i (List.mem_filter.mp hi).1⟩, pos1 _ _ (List.mem_of_getElem? ekt)⟩
        rw [upd_ne (fun q => by rw [q, oD] at ot10; cases ot10)]
        exact k6 _ _ ot10
      · rw [upd_ne (ne_of_none e nD)]
        exact k6 _ _ (k10 _ _ e)
    · rintro H12 ⟨⟨rsx, oD, prx⟩, k12⟩
      have e12 : kvs.length = ks.length := by omega
      rw [e12, List.take_length] at prx
      obtain ⟨od12, k912⟩ := lock_off od29 k12
      have Dd : D ≠ d2 := fun q => by rw [q, upd_same] at nD; cases nD
      have ol12 := k912 _ _ ol9
      have oD12 : upd H12 d2 (.dK kvs) D = some (.lst (rsx.map V.ref)) := by rw [upd_ne Dd]; exact oD
      have Dl : D ≠ l := fun q => by
        rw [q, upd_ne (fun z => by rw [z, od29] at ol9; cases ol9)] at nD
        rw [nD] at ol9
        cases ol9
      have prx12 : Paired (ItqAt ws (says ns tbl) y of H4 (upd H12 d2 (.dK kvs)) tbl.length) rsx (ks.map fun e => (e.2, partOf (says ns tbl q1) part e.1)) := Paired.mapP prx fun r it ⟨v, p, g1, g2, g3, g4, g5⟩ => ⟨v, p, by rw [upd_ne (fun z => by rw [z, od12] at g1; cases g1)]; exact g1, g2, g3, ⟨by rw [upd_ne (fun z => by have e := g4.1; rw [z, od12] at e; cases e)]; exact g4.1, g4.2⟩, g5⟩
      have lrx := Paired.length prx12
      rw [List.length_map] at lrx
      refine ⟨od12, l, D, _, _, rfl, rfl, ol12, oD12, ?_, ?_⟩
      · rw [List.length_map, List.length_map, sizeLine_eq]
        have := i4'.2.1
        rw [wt6] at small
        omega
      · have upL : ∀ {u : HO}, ButB l (upd H12 d2 (.dK kvs)) (upd (upd H12 d2 (.dK kvs)) l u) := fun b o nb e => by rw [upd_ne nb]; exact e
        have k4u : ∀ {u : HO}, Same H4 (upd (upd H12 d2 (.dK kvs)) l u) := fun b o e => by
          rw [upd_ne (ne_of_none e nl4)]
          exact k912 _ _ (k49 _ _ e)
        have prA : Paired (ItqAt ws (says ns tbl) y of H4 (upd H12 d2 (.dK kvs)) tbl.length) (rs' ++ rsx) (init ++ ks.map fun e => (e.2, partOf (says ns tbl q1) part e.1)) := by
          have app : ∀ {as as' : List Addr} {bs bs' : List ItQ}, Paired (ItqAt ws (says ns tbl) y of H4 (upd H12 d2 (.dK kvs)) tbl.length) as bs → Paired (ItqAt ws (says ns tbl) y of H4 (upd H12 d2 (.dK kvs)) tbl.length) as' bs' → Paired (ItqAt ws (says ns tbl) y of H4 (upd H12 d2 (.dK kvs)) tbl.length) (as ++ as') (bs ++ bs') := fun h1 h2 => by
            induction h1 with
            | nil => exact h2
            | cons h _ ih => exact .cons h ih
          exact app (Paired.mapP pr9 fun r it h => h.but ⟨_, ol9⟩ (.of k912)) prx12
        refine ⟨wtQ (init ++ ks.map fun e => (e.2, partOf (says ns tbl q1) part e.1)), ?_, _, rs' ++ rsx, rfl, ?_, by rw [upd_same, List.map_append], Paired.mapP prA fun r it h => h.but ⟨_, ol12⟩ upL, k4u, _, _, _, _, rfl⟩
        · rw [wt6, wtQ_app]; omega
        · rw [wtQ_app]
          rw [wt6] at small
          omega
end
end L2.TB
/-! many dicts locked at once; the levels of a tree -/
namespace L2.TB
open PySem PySem.Spec PyProof.Rows
def lockN : Nat → TS → TS
  | 0, t => t
  | n + 1, t => tLock (lockN n t)
theorem ps_lockN {X : Cx} {st : Stmt} {t : TS} (h : PS X st t) : ∀ n, PS X st (lockN n t)
  | 0 => h
  | n + 1 => ps_lock (ps_lockN h n)
/-- as many as the reading says -/
theorem ps_locks {X : Cx} {st : Stmt} {t : TS} (h : PS X st t) : PS X st (fun D σ H => ∃ n, lockN n t D σ H) :=
  ⟨fun pins s σ H D I ⟨n, q⟩ => (ps_lockN h n).run pins s σ H D I q⟩
/-- HL is H with the dicts at ds locked -/
structure LockH (H HL : Hp) (ds : List Addr) : Prop where
  out : ∀ b o, b ∉ ds → H b = some o → HL b = some o
  in_ : ∀ d ∈ ds, ∀ es, H d = some (.dK es) → ∃ od, HL d = some (.frz od (.dK es))
theorem lock_all (t : TS) : ∀ (ds : List Addr) (D : Ends) (σ : St) (H : Hp), ds.Nodup → (∀ d ∈ ds, ∃ es, H d = some (.dK es)) →
    (∀ (HL : Hp) (D' : Ends), LockH H HL ds → (∀ v H', Same HL H' → (∀ H'', Same H H'' → D.rt v H'') → D'.rt v H') → t D' σ HL) → lockN ds.length t D σ H
  | [], D, σ, H, _, _, G => G H D ⟨fun _ _ _ e => e, fun _ h => by cases h⟩ fun v H' s h => h H' s
  | d :: ds, D, σ, H, nd, hd, G => by
    rw [List.nodup_cons] at nd
    obtain ⟨es, ed⟩ := hd d (by simp)
    refine ⟨d, _, ed, trivial, fun od => lock_all t ds _ σ _ nd.2 (fun d' h => ?_) fun HL D' L r => G HL D' ⟨fun b o nb e => ?_, fun b hb es' e => ?_⟩ fun v H' s h => ?_⟩
    · obtain ⟨es', e'⟩ := hd d' (List.mem_cons_of_mem _ h)
      exact ⟨es', by rw [upd_ne (fun z : d' = d => nd.1 (by rw [← z]; exact h))]; exact e'⟩
    · rw [List.mem_cons, not_or] at nb
      exact L.out b o nb.2 (by rw [upd_ne nb.1]; exact e)
    · rcases List.mem_cons.mp hb with rfl | hb
      · rw [ed] at e
        cases e
        exact ⟨od, L.out _ _ nd.1 upd_same⟩
      · exact L.in_ b hb es' (by rw [upd_ne (fun z : b = d => nd.1 (by rw [← z]; exact hb))]; exact e)
    · refine r v H' s fun H1 s1 => ?_
      obtain ⟨e1, s2⟩ := lock_off ed s1
      exact ⟨e1, h _ s2⟩
/-- a tree whose dicts stand among ds -/
inductive QtD (H : Hp) (ds : List Addr) : Qt → V → Prop
  | leaf (z : Int) : QtD H ds (.leaf z) (.int z)
  | node {a d : Addr} {q : Str} {es : List (Key × V)} {ks : List (Int × Qt)} (h : H a = some (.tup [.str q, .ref d])) (ind : d ∈ ds) (hd : H d = some (.dK es)) (ek : es.map (·.1) = ks.map fun e => Sum.inl e.1) (nd : (ks.map (·.1)).Nodup) (sh : ks.length < 1000)
      (al : ∀ (i : Nat) (k : Key) (u : V) (z : Int) (t : Qt), es[i]? = some (k, u) → ks[i]? = some (z, t) → QtD H ds t u) : QtD H ds (.node q ks) (.ref a)
theorem QtD.more {H : Hp} {ds ds' : List Addr} {t : Qt} {v : V} (h : QtD H ds t v) (s : ∀ d ∈ ds, d ∈ ds') : QtD H ds' t v := by
  induction h with
  | leaf z => exact .leaf z
  | node h ind hd ek nd sh _ ih => exact .node h (s _ ind) hd ek nd sh ih
theorem qtD_of {A : Addr → Prop} {H : Hp} {t : Qt} {v : V} (h : QtAt A H t v) : ∃ ds : List Addr, (∀ d ∈ ds, ∃ es, H d = some (.dK es)) ∧ QtD H ds t v := by
  induction h with
  | leaf z => exact ⟨[], (fun _ h => by cases h), .leaf z⟩
  | @node a d q es ks oa od h hd ek nd sh al ih =>
    have ex : ∀ i : Nat, ∃ ds : List Addr, (∀ d ∈ ds, ∃ es, H d = some (.dK es)) ∧ ∀ k u z t, es[i]? = some (k, u) → ks[i]? = some (z, t) → QtD H ds t u := fun i => by
      by_cases g : ∃ k u z t, es[i]? = some (k, u) ∧ ks[i]? = some (z, t)
      · obtain ⟨k, u, z, t, e1, e2⟩ := g
        obtain ⟨ds, h1, h2⟩ := ih i k u z t e1 e2
        refine ⟨ds, h1, fun k' u' z' t' e1' e2' => ?_⟩
        rw [e1] at e1'
        rw [e2] at e2'
        cases e1'
        cases e2'
        exact h2
      · exact ⟨[], (fun _ h => by cases h), fun k u z t e1 e2 => absurd ⟨k, u, z, t, e1, e2⟩ g⟩
    refine ⟨d :: (List.range es.length).flatMap fun i => Classical.choose (ex i), fun d' h' => ?_, .node h (by simp) hd ek nd sh fun i k u z t e1 e2 => ?_⟩
    · rcases List.mem_cons.mp h' with rfl | h'
      · exact ⟨_, hd⟩
      · obtain ⟨i, _, hi⟩ := List.mem_flatMap.mp h'
        exact (Classical.choose_spec (ex i)).1 d' hi
    · refine ((Classical.choose_spec (ex i)).2 k u z t e1 e2).more fun d' h' => List.mem_cons_of_mem _ (List.mem_flatMap.mpr ⟨i, List.mem_range.mpr ?_, h'⟩)
      exact (List.getElem?_eq_some_iff.mp e1).1
/-- a tree whose dicts are locked -/
inductive QtL (H : Hp) : Qt → V → Prop
  | leaf (z : Int) : QtL H (.leaf z) (.int z)
  | node {a d : Addr} {od : Obj} {q : Str} {es : List (Key × V)} {ks : List (Int × Qt)} (h : H a = some (.tup [.str q, .ref d])) (hd : H d = some (.frz od (.dK es))) (ek : es.map (·.1) = ks.map fun e => Sum.inl e.1) (nd : (ks.map (·.1)).Nodup) (sh : ks.length < 1000)
      (al : ∀ (i : Nat) (k : Key) (u : V) (z : Int) (t : Qt), es[i]? = some (k, u) → ks[i]? = some (z, t) → QtL H t u) : QtL H (.node q ks) (.ref a)
theorem QtD.lock {H HL : Hp} {ds : List Addr} {t : Qt} {v : V} (h : QtD H ds t v) (hd : ∀ d ∈ ds, ∃ es, H d = some (.dK es)) (L : LockH H HL ds) : QtL HL t v := by
  induction h with
  | leaf z => exact .leaf z
  | @node a d q es ks h ind hd' ek nd sh al ih =>
    obtain ⟨od, e⟩ := L.in_ d ind es hd'
    exact .node (L.out _ _ (fun z => by obtain ⟨es, e⟩ := hd a z; rw [h] at e; cases e) h) e ek nd sh ih
theorem QtL.same {H H' : Hp} {t : Qt} {v : V} (h : QtL H t v) (s : Same H H') : QtL H' t v := by
  induction h with
  | leaf z => exact .leaf z
  | node h hd ek nd sh _ ih => exact .node (s _ _ h) (s _ _ hd) ek nd sh ih
section
variable {sy : Str → Nat → Int} {x : Str} {of : List Str}
/-- what stands one deeper -/
def kidsQ (sy : Str → Nat → Int) (it : ItQ) : List ItQ := match it.1 with
  | .leaf _ => []
  | .node q ks => ks.map fun e => (e.2, partOf (sy q) it.2 e.1)
/-- a level: the most that is left to ask is r -/
structure LevQ (sy : Str → Nat → Int) (x : Str) (of : List Str) (m : Nat) (items : List ItQ) (r : Int) : Prop where
  b : ∀ it ∈ items, BT none sy x of it.2 it.1 ∧ 0 < it.2.length ∧ ∃ c, (bestS none sy x of it.2).1 = some c ∧ c ≤ r
  e : ∃ it ∈ items, (bestS none sy x of it.2).1 = some r
  s : (items.map fun it => it.2.length).sum ≤ m
theorem sum_one (f : Nat → Int) (part : List Nat) : ((answersOf f part).map fun v => (partOf f part v).length).sum = part.length := by
  have z := parts_sum f (fun _ => 1) part
  have c : ∀ l : List Nat, (l.map fun _ => (1 : Int)).sum = ((l.length : Nat) : Int) := fun l => by
    induction l with
    | nil => rfl
    | cons a l ih => rw [List.map_cons, List.sum_cons, ih, List.length_cons]; omega
  rw [c] at z
  have e : ((answersOf f part).map fun v => ((partOf f part v).map fun _ => (1 : Int)).sum) = (answersOf f part).map fun v => (((partOf f part v).length : Nat) : Int) := List.map_congr_left fun v _ => c _
  rw [e, ← sum_nat (answersOf f part) fun v => (partOf f part v).length] at z
  omega
theorem LevQ.pos {m : Nat} {items : List ItQ} {r : Int} (h : LevQ sy x of m items r) : 0 ≤ r := by
  obtain ⟨it, _, e⟩ := h.e
  exact cost_pos _ _ (Nat.le_refl _) r e
theorem max_mem {l : List Int} (h : l ≠ []) : maxZ l ∈ l ∧ ∀ y ∈ l, y ≤ maxZ l := by
  cases l with
  | nil => exact absurd rfl h
  | cons a l =>
    obtain ⟨h1, h2, h3⟩ := maxZ_le l a
    refine ⟨?_, fun y hy => ?_⟩
    · rcases h3 with h3 | h3
      · show List.foldl _ _ _ ∈ _
        rw [h3]; simp
      · exact List.mem_cons_of_mem _ h3
    · rcases List.mem_cons.mp hy with e | hy
      · rw [e]; exact h1
      · exact h2 y hy
/-- of a node, without weights: the most of its parts, and one -/
theorem node_cost {part : List Nat} {q : Str} {c : Int} (big : 1 < (answersOf (sy q) part).length) (cost : costOf none part (subC none sy x of part q) = some c) :
    (∀ v ∈ answersOf (sy q) part, ∃ c', (bestS none sy x of (partOf (sy q) part v)).1 = some c' ∧ c' ≤ c - 1) ∧ ∃ v ∈ answersOf (sy q) part, (bestS none sy x of (partOf (sy q) part v)).1 = some (c - 1) := by
  have all := cost_all cost
  unfold costOf at cost
  by_cases n : none ∈ subC none sy x of part q
  · rw [if_pos n] at cost; cases cost
  rw [if_neg n] at cost
  have ec : 1 + maxZ ((subC none sy x of part q).filterMap id) = c := Option.some.inj cost
  have ne : (subC none sy x of part q).filterMap id ≠ [] := by
    obtain ⟨v, hv⟩ : ∃ v, v ∈ answersOf (sy q) part := List.exists_mem_of_ne_nil _ (fun z => by rw [z] at big; simp at big)
    obtain ⟨z, hz⟩ := all _ (List.mem_map.mpr ⟨v, hv, rfl⟩)
    exact List.ne_nil_of_mem (some_mem.mpr (by rw [← hz]; exact List.mem_map.mpr ⟨v, hv, rfl⟩))
  obtain ⟨m1, m2⟩ := max_mem ne
  refine ⟨fun v hv => ?_, ?_⟩
  · obtain ⟨z, hz⟩ := all _ (List.mem_map.mpr ⟨v, hv, rfl⟩)
    refine ⟨z, hz, ?_⟩
    have := m2 z (some_mem.mpr (by rw [← hz]; exact List.mem_map.mpr ⟨v, hv, rfl⟩))
    omega
  · obtain ⟨v, hv, e⟩ := List.mem_map.mp (some_mem.mp m1)
    exact ⟨v, hv, by rw [e]; congr 1; omega⟩
theorem LevQ.next {m : Nat} {items : List ItQ} {r : Int} (h : LevQ sy x of m items r) : (r = 0 → items.flatMap (kidsQ sy) = []) ∧ (r ≠ 0 → LevQ sy x of m (items.flatMap (kidsQ sy)) (r - 1) ∧ items.flatMap (kidsQ sy) ≠ []) := by
  have kb : ∀ it ∈ items.flatMap (kidsQ sy), BT none sy x of it.2 it.1 ∧ 0 < it.2.length ∧ ∃ c, (bestS none sy x of it.2).1 = some c ∧ c ≤ r - 1 := fun it hit => by
    obtain ⟨p, hp, hk⟩ := List.mem_flatMap.mp hit
    obtain ⟨b, pos, c, ec, le⟩ := h.b p hp
    obtain ⟨t, part⟩ := p
    have b : BT none sy x of part t := b
    cases b with
    | leaf one => cases hk
    | @node _ q ks c' ne hq big ek best cost sub =>
      obtain ⟨e, he, rfl⟩ := List.mem_map.mp hk
      have hv : e.1 ∈ answersOf (sy q) part := by rw [← ek]; exact List.mem_map_of_mem he
      obtain ⟨c2, ec2, le2⟩ := (node_cost big cost).1 e.1 hv
      have ec : (bestS none sy x of part).1 = some c := ec
      rw [best] at ec
      obtain rfl := Option.some.inj ec
      exact ⟨sub e.1 e.2 he, List.length_pos_iff.mpr (part_some hv), c2, ec2, by omega⟩
  have ksum : ((items.flatMap (kidsQ sy)).map fun it => it.2.length).sum ≤ (items.map fun it => it.2.length).sum := by
    have one : ∀ it ∈ items, ((kidsQ sy it).map fun it => it.2.length).sum ≤ it.2.length := fun it hit => by
      obtain ⟨b, _, _⟩ := h.b it hit
      obtain ⟨t, part⟩ := it
      have b : BT none sy x of part t := b
      cases b with
      | leaf one => exact Nat.zero_le _
      | @node _ q ks c' ne hq big ek best cost sub =>
        show ((ks.map fun e => (e.2, partOf (sy q) part e.1)).map fun it : ItQ => it.2.length).sum ≤ part.length
        rw [List.map_map]
        have e : (ks.map ((fun it : ItQ => it.2.length) ∘ fun e => (e.2, partOf (sy q) part e.1))) = (ks.map (·.1)).map fun v => (partOf (sy q) part v).length := by rw [List.map_map]; rfl
        rw [e, ek, sum_one]
        exact Nat.le_refl _
    have go : ∀ l : List ItQ, (∀ it ∈ l, ((kidsQ sy it).map fun it => it.2.length).sum ≤ it.2.length) → ((l.flatMap (kidsQ sy)).map fun it => it.2.length).sum ≤ (l.map fun it => it.2.length).sum := fun l => by
      induction l with
      | nil => intro _; exact Nat.le_refl _
      | cons a l ih =>
        intro h
        have i1 := ih fun it hit => h it (List.mem_cons_of_mem _ hit)
        have i2 := h a (by simp)
        rw [List.flatMap_cons, List.map_append, List.sum_append, List.map_cons, List.sum_cons]
        omega
    exact go items one
  refine ⟨fun r0 => ?_, fun r0 => ?_⟩
  · cases q : items.flatMap (kidsQ sy) with
    | nil => rfl
    | cons a l =>
      obtain ⟨_, _, c, ec, le⟩ := kb a (by rw [q]; simp)
      have := cost_pos _ _ (Nat.le_refl _) c ec
      omega
  · obtain ⟨p, hp, ep⟩ := h.e
    obtain ⟨b, pos, _⟩ := h.b p hp
    obtain ⟨t, part⟩ := p
    have b : BT none sy x of part t := b
    have ep : (bestS none sy x of part).1 = some r := ep
    cases b with
    | leaf one =>
      rcases best_is (ws := none) (sy := sy) (x := x) (of := of) part with ⟨_, ne⟩ | ⟨_, e⟩ | ⟨ne, _⟩
      · exact absurd one ne
      · rw [e] at ep
        exact absurd (Option.some.inj ep).symm r0
      · exact absurd one ne
    | @node _ q ks c' ne hq big ek best cost sub =>
      rw [best] at ep
      obtain rfl := Option.some.inj ep
      obtain ⟨v, hv, ev⟩ := (node_cost big cost).2
      rw [← ek] at hv
      obtain ⟨e, he, rfl⟩ := List.mem_map.mp hv
      have hin : ((e.2, partOf (sy q) part e.1) : ItQ) ∈ items.flatMap (kidsQ sy) := List.mem_flatMap.mpr ⟨_, hp, List.mem_map.mpr ⟨e, he, rfl⟩⟩
      exact ⟨⟨kb, ⟨_, hin, ev⟩, Nat.le_trans ksum h.s⟩, List.ne_nil_of_mem hin⟩
theorem LevQ.few {m : Nat} {items : List ItQ} {r : Int} (h : LevQ sy x of m items r) : items.length ≤ m := by
  have go : ∀ l : List ItQ, (∀ it ∈ l, 0 < it.2.length) → l.length ≤ (l.map fun it => it.2.length).sum := fun l => by
    induction l with
    | nil => intro _; exact Nat.le_refl _
    | cons a l ih =>
      intro h
      have i1 := ih fun it hit => h it (List.mem_cons_of_mem _ hit)
      have i2 := h a (by simp)
      rw [List.map_cons, List.sum_cons, List.length_cons]
      omega
  exact Nat.le_trans (go items fun it hit => (h.b it hit).2.1) h.s
end
end L2.TB
/-! depth_of -/
namespace L2.TB
open PySem PySem.Spec PyProof.Rows
def spDepthT (K : PySem.W.Frag) (CT : Addr) : Sp := fun vs H Q _ => ∃ (t : Addr) (v o : V) (ns : List Str) (tbl : List (List Int)) (y : Str) (of : List Str) (tr : Qt) (c : Int), vs = [.ref t, .str y, v, o] ∧ AskOk K H CT t ns tbl y o of ∧ QtAt (fun _ => True) H tr v ∧ BT none (says ns tbl) y of (allP tbl) tr ∧ (bestS none (says ns tbl) y of (allP tbl)).1 = some c ∧ ∀ H', Same H H' → Q (.int c) H'
def dedA : List Addr → List Addr
  | [] => []
  | a :: l => if a ∈ dedA l then dedA l else a :: dedA l
theorem dedA_mem : ∀ (l : List Addr) (a : Addr), a ∈ dedA l ↔ a ∈ l
  | [], a => Iff.rfl
  | b :: l, a => by
    show a ∈ (if b ∈ dedA l then dedA l else b :: dedA l) ↔ _
    by_cases h : b ∈ dedA l
    · rw [if_pos h, dedA_mem l a, List.mem_cons]
      exact ⟨.inr, fun z => z.elim (fun e => by rw [e]; exact (dedA_mem l b).mp h) id⟩
    · rw [if_neg h, List.mem_cons, List.mem_cons, dedA_mem l a]
theorem dedA_nd : ∀ l : List Addr, (dedA l).Nodup
  | [] => .nil
  | b :: l => by
    show (if b ∈ dedA l then dedA l else b :: dedA l).Nodup
    by_cases h : b ∈ dedA l
    · rw [if_pos h]; exact dedA_nd l
    · rw [if_neg h]; exact List.nodup_cons.mpr ⟨h, dedA_nd l⟩
abbrev NDt : List Str := ["table", "asked", "tree", "of", "depth", "level", "part", "answer"]
theorem scDt : FnScope NDt ["table", "asked", "tree", "of"] (defScope sDepthOf) := ⟨rfl, rfl, rfl, by decide +kernel, rfl, by decide +kernel, by decide +kernel⟩
section
variable {P : Program} {w : World} {K : PySem.W.Frag} {mg : Str → Option Value} {base : Heap} {f fT fL CT : Addr} {fd fdT fdL : FuncData}
theorem ok_depthT (F : FunF K "depth_of" sDepthOf f fd) (gT : mg "is_tree" = some (.ref fT)) (kT : PySem.W.keepIn K (.ref fT) = true) (GT : FnOk P w K mg base (L2.CX P w) 6 fT fdT ["table", "asked", "thing", "of"] (spIsTreeT K CT)) (bT : Binds K fdT ["table", "asked", "thing", "of"] [])
    (gL : mg "is_list" = some (.ref fL)) (kL : PySem.W.keepIn K (.ref fL) = true) (GL : FnOk P w K mg base CX0 1 fL fdL ["thing"] (spIsListG K)) (bL : Binds K fdL ["thing"] []) : FnOk P w K mg base (L2.CX P w) 7 f fd ["table", "asked", "tree", "of"] (spDepthT K CT) := by
  refine FunD.ok F scDt (fun vs H Q E h => by obtain ⟨t, v, o, ns, tbl, y, of, tr, c, e, _⟩ := h; rw [e]; rfl) fun cdv A outer s H vs Q E hr hsp => ?_
  obtain ⟨t, v, o, ns, tbl, y, of, tr, c, rfl, ask, hv, bt, hc, hq⟩ := hsp
  have nd := scDt.nd
  have hu := hu_of (hr.mono (show 1 ≤ 6 by decide))
  refine ⟨_, pss_cons (ps_if (pt_not (pt_val (pe_callS GT (hr.mono (by decide)) rfl gT kT bT (fun σ => passAt (takes_of rfl rfl rfl rfl) σ) (pa_cons (pv 0) (pa_cons (pv 1) (pa_cons (pv 2) (pa_cons (pv 3) pa_nil))))))) (pss_one ps_never) pss_nil)
    (pss_cons (ps_set (i := 4) nd rfl (Or.inl rfl) pe_int)
    (pss_cons (ps_set (i := 5) nd rfl (Or.inl rfl) (pe_lst (pa_cons (pv 2) pa_nil)))
    (pss_one (ps_locks (ps_while (passes_of rfl) (pt_val pe_bl)
      (pss_cons (ps_setLc2 (i := 5) (own := [("part", 6), ("answer", 7)]) (vs1 := [7]) (g := gName 6) (g1 := gName 7) (te := tDGet (tOp (rIxT K) (tVar 6) (tC (.int 1))) (tVar 7)) rfl nd rfl rfl (by rfl) (pi_list (pv 5)) (blkOk_by (N := NDt) (sc := defScope sDepthOf) (by decide +kernel)) (by decide) (fun _ _ _ _ _ => pg_name (i := 6) nd rfl (Or.inl rfl)) (fun _ _ _ _ _ => pts_one (pt_val (pe_call GL (hr.mono (by decide)) rfl gL kL bL .nil pass0 (pa_cons (pv 6) pa_nil))))
        (fun _ _ _ _ _ => pi_keys (pe_ix (r := rIxT K) ix_tup (pv 6) pe_int (fun _ _ => rfl))) (fun _ _ _ _ _ => pg_name (i := 7) nd rfl (Or.inl rfl)) (fun _ _ _ _ _ => pts_nil) (fun _ _ _ _ _ => pe_dget hu (pe_ix (r := rIxT K) ix_tup (pv 6) pe_int (fun _ _ => rfl)) (pv 7) (fun _ _ => rfl)))
      (pss_cons (ps_if (pt_not (pt_truth (pv 5) (fun _ => rfl))) (pss_one (ps_ret (pv 4))) pss_nil)
      (pss_one (ps_aug (i := 4) nd rfl (Or.inl rfl) pe_int ip_add))))))))), ?_⟩
  refine ⟨_, rfl, _, rfl, _, rfl, _, rfl, t, v, o, ns, tbl, y, of, none, tr, rfl, ask, hv, bt, fun H1 k1 => ⟨_, rfl, iteF ?_⟩⟩
  refine ⟨_, rfl, (by show 1 ≤ sizeLine; decide), fun l0 nl0 => ?_⟩
  have k2 := same_new (o := .lst [v]) nl0
  have ol0 : upd H1 l0 (.lst [v]) l0 = some (.lst [v]) := upd_same
  generalize upd H1 l0 (.lst [v]) = H2 at k2 ol0 ⊢
  obtain ⟨ds0, hd0, q0⟩ := qtD_of (hv.same (k1.trans k2))
  refine ⟨(dedA ds0).length, lock_all _ (dedA ds0) _ _ _ (dedA_nd ds0) (fun d h => hd0 d ((dedA_mem ds0 d).mp h)) fun HL D' LL r => ?_⟩
  have qL : QtL HL tr v := (q0.more fun d h => (dedA_mem ds0 d).mpr h).lock (fun d h => hd0 d ((dedA_mem ds0 d).mp h)) LL
  have ol0L : HL l0 = some (.lst [v]) := LL.out _ _ (fun z => by obtain ⟨es, e⟩ := hd0 l0 ((dedA_mem ds0 l0).mp z); rw [ol0] at e; cases e) ol0
  have lev0 : LevQ (says ns tbl) y of tbl.length [(tr, allP tbl)] c := ⟨fun it h => by
      obtain rfl := List.mem_singleton.mp h
      exact ⟨bt, (by show 0 < (List.range tbl.length).length; rw [List.length_range]; exact ask.pos), c, hc, Int.le_refl _⟩, ⟨(tr, allP tbl), List.mem_cons_self, hc⟩, by show (List.range tbl.length).length + 0 ≤ tbl.length; rw [List.length_range]; omega⟩
  have few := ask.few
  refine ⟨fun m σ H' => ∃ (items : List ItQ) (us : List V) (L : Addr) (r : Int), m = r.toNat ∧ LevQ (says ns tbl) y of tbl.length items r ∧ H' L = some (.lst us) ∧ Paired (fun u it => QtL HL it.1 u) us items ∧ Same HL H' ∧
      σ = [some (.ref t), some (.str y), some v, some o, some (.int (c - r)), some (.ref L), none, none],
    ⟨_, [(tr, allP tbl)], [v], l0, c, rfl, lev0, ol0L, .cons qL .nil, Same.refl _, ?_⟩, ?_⟩
  · show [_, _, _, _, some (V.int 0), _, _, _] = _
    rw [show c - c = 0 by omega]
  rintro m σ H5 ⟨items, us, L, r', rfl, lev, oL, pr, k5, rfl⟩
  have lus : us.length ≤ 10 := by
    have := lev.few
    have := Paired.length pr
    omega
  refine ⟨true, rfl, iteT ⟨_, fun _ _ h => h, ?_⟩⟩
  refine ⟨_, rfl, L, rfl, ⟨_, SqL.of oL⟩, fun D nD => ?_⟩
  have wl := walk_list (K := K) (a := L) (xs := us)
  have DL : D ≠ L := fun z => by rw [z, oL] at nD; cases nD
  refine ⟨fun i m H' => m = us.length - i ∧ i ≤ us.length ∧ (∃ vs, H' D = some (.lst vs) ∧ Paired (fun u (it : ItQ) => QtL HL it.1 u) vs ((items.take i).flatMap (kidsQ (says ns tbl)))) ∧ Same H5 H', ⟨_, rfl, Nat.zero_le _, ⟨[], upd_same, .nil⟩, same_new nD⟩, ?_⟩
  rintro i m H6 ⟨rfl, le, ⟨vs, oD, pv_⟩, k56⟩
  have G6 : SqL K H6 L us := SqL.of (k56 _ _ oL)
  have kbig : ∀ j, ((items.take j).flatMap (kidsQ (says ns tbl))).length ≤ 10 := fun j => by
    have sub : ((items.take j).flatMap (kidsQ (says ns tbl))).length ≤ (items.flatMap (kidsQ (says ns tbl))).length := by
      conv => rhs; rw [← List.take_append_drop j items, List.flatMap_append, List.length_append]
      omega
    by_cases r0 : r' = 0
    · rw [(lev.next).1 r0] at sub
      have sub : _ ≤ 0 := sub
      omega
    · have := ((lev.next).2 r0).1.few
      omega
  by_cases lt : i < us.length
  rotate_left
  · obtain rfl : i = us.length := by omega
    have lit : us.length = items.length := Paired.length pr
    rw [lit, List.take_length] at pv_
    refine .inl ⟨wl.stops H6 G6, ?_⟩
    have lvs := Paired.length pv_
    by_cases r0 : r' = 0
    · have e0 := (lev.next).1 r0
      rw [e0] at lvs
      obtain rfl : vs = [] := List.eq_nil_of_length_eq_zero lvs
      refine ⟨_, rfl, _, .inl ⟨_, SqL.of oD, rfl⟩, iteT ⟨_, rfl, ?_⟩⟩
      have e1 : c - r' = c := by omega
      rw [e1]
      exact r _ _ (k5.trans k56) fun H'' s'' => hq H'' ((k1.trans k2).trans s'')
    · obtain ⟨lev1, ne1⟩ := (lev.next).2 r0
      have nv : vs ≠ [] := fun z => by rw [z] at lvs; exact ne1 (List.eq_nil_of_length_eq_zero lvs.symm)
      have rp := lev.pos
      have e2 : (!vs.isEmpty) = true := by
        cases vs with
        | nil => exact absurd rfl nv
        | cons a l => rfl
      refine ⟨_, rfl, _, .inl ⟨_, SqL.of oD, rfl⟩, ?_⟩
      rw [e2]
      refine iteF ?_
      refine ⟨_, rfl, c - r', 1, rfl, rfl, (r' - 1).toNat, by omega, _, vs, D, r' - 1, rfl, lev1, oD, pv_, k5.trans k56, ?_⟩
      show [_, _, _, _, some (V.int (c - r' + 1)), _, _, _] = _
      rw [show c - r' + 1 = c - (r' - 1) by omega]
  refine .inr ⟨wl.goes i H6 lt G6, fun H' => (∃ vs, H' D = some (.lst vs) ∧ Paired (fun u (it : ItQ) => QtL HL it.1 u) vs ((items.take (i + 1)).flatMap (kidsQ (says ns tbl)))) ∧ Same H5 H', fun H' h => ⟨us.length - (i + 1), by omega, rfl, lt, h⟩, fun u H7 yl => ?_⟩
  obtain ⟨rfl, eu⟩ := wl.yields i H6 u H7 lt G6 yl
  obtain ⟨it, eit, hqt⟩ := paired_get pr eu
  have ek : (items.take (i + 1)).flatMap (kidsQ (says ns tbl)) = (items.take i).flatMap (kidsQ (says ns tbl)) ++ kidsQ (says ns tbl) it := by
    rw [List.take_succ, eit, List.flatMap_append]
    simp
  have kL7 : Same HL H7 := k5.trans k56
  refine ⟨rfl, ?_⟩
  obtain ⟨tt, part⟩ := it
  have hqt : QtL HL tt u := hqt
  cases hqt with
  | leaf z =>
    refine ⟨_, rfl, .int z, rfl, .inr ⟨⟨_, .base (.int z), by decide +kernel, by decide +kernel⟩, fun H8 k8 => ⟨_, rfl, iteF ?_⟩⟩⟩
    rw [ek]
    exact ⟨⟨vs, k8 _ _ oD, by show Paired _ vs (_ ++ []); rw [List.append_nil]; exact pv_⟩, k56.trans k8⟩
  | @node b1 d1 od q1 es ks ob1 od1 ees nds shs als =>
    refine ⟨_, rfl, .ref b1, rfl, .inl ⟨⟨b1, _, rfl, .inr (kL7 _ _ ob1)⟩, fun H8 k8 => ⟨_, rfl, iteT ?_⟩⟩⟩
    have kL8 := kL7.trans k8
    refine ⟨_, rfl, b1, _, 1, _, rfl, rfl, SqT.of (kL8 _ _ ob1), rfl, d1, od, rfl, .inl ⟨es, kL8 _ _ od1, ?_⟩⟩
    have les : es.length = ks.length := by
      have q := congrArg List.length ees
      rw [List.length_map, List.length_map] at q
      exact q
    have wk := walk_keys (d := d1) (o := od) (kvs := es)
    refine ⟨fun j k H' => k = es.length - j ∧ j ≤ es.length ∧ (∃ vs', H' D = some (.lst vs') ∧ Paired (fun u (it : ItQ) => QtL HL it.1 u) vs' ((items.take i).flatMap (kidsQ (says ns tbl)) ++ (kidsQ (says ns tbl) (.node q1 ks, part)).take j)) ∧ Same H5 H', ⟨_, rfl, Nat.zero_le _, ⟨vs, k8 _ _ oD, by rw [List.take_zero, List.append_nil]; exact pv_⟩, k56.trans k8⟩, ?_⟩
    rintro j k H9 ⟨rfl, lej, ⟨vs', oD9, pv9⟩, k59⟩
    have kL9 := k5.trans k59
    have G9 := kL9 _ _ od1
    by_cases ltj : j < es.length
    rotate_left
    · obtain rfl : j = es.length := by omega
      refine .inl ⟨wk.stops H9 G9, ⟨vs', oD9, ?_⟩, k59⟩
      rw [ek]
      have lk : (kidsQ (says ns tbl) (.node q1 ks, part)).length = es.length := by
        show (ks.map _).length = _
        rw [List.length_map, les]
      rw [← lk, List.take_length] at pv9
      exact pv9
    refine .inr ⟨wk.goes j H9 ltj G9, fun H' => (∃ vs', H' D = some (.lst vs') ∧ Paired (fun u (it : ItQ) => QtL HL it.1 u) vs' ((items.take i).flatMap (kidsQ (says ns tbl)) ++ (kidsQ (says ns tbl) (.node q1 ks, part)).take (j + 1))) ∧ Same H5 H', fun H' h => ⟨es.length - (j + 1), by omega, rfl, ltj, h⟩, fun y9 H10 yl9 => ?_⟩
    obtain ⟨rfl, k0, u0, ekv, rfl⟩ := wk.yields j H9 y9 H10 ltj G9 yl9
    have ekt : ks[j]? = some (ks[j]'(by omega)) := List.getElem?_eq_getElem _
    have ek0 : k0 = Sum.inl (ks[j]'(by omega)).1 := by
      have q := congrArg (fun l => l[j]?) ees
      simp only [List.getElem?_map, ekv, ekt, Option.map_some] at q
      exact Option.some.inj q
    generalize ks[j]'(by omega) = e0 at ekt ek0
    obtain ⟨z0, t0⟩ := e0
    obtain rfl : k0 = Sum.inl z0 := ek0
    have hu1 := als j _ u0 z0 t0 ekv ekt
    have ndes : (es.map (·.1)).Nodup := by
      rw [ees]
      have e : (ks.map fun e => (Sum.inl e.1 : Key)) = (ks.map (·.1)).map Sum.inl := by rw [List.map_map]; rfl
      rw [e]
      exact List.Pairwise.map Sum.inl (fun a b h e => h (Sum.inl.inj e)) nds
    have dg : DGet H10 d1 (.int z0) (some u0) := .inl ⟨es, Sum.inl z0, .inr ⟨od, G9⟩, rfl, (valV_at ndes ekv).symm⟩
    have lvs : vs'.length ≤ 30 := by
      have q := Paired.length pv9
      rw [List.length_append, List.length_take] at q
      have := kbig i
      have b := kbig (i + 1)
      rw [ek, List.length_append] at b
      omega
    refine ⟨rfl, ?_⟩
    refine ⟨_, rfl, b1, _, 1, _, rfl, rfl, SqT.of (kL9 _ _ ob1), rfl, _, rfl, d1, u0, rfl, dg, vs', oD9, by rw [sizeLine_eq]; omega, ⟨vs' ++ [u0], upd_same, ?_⟩, fun b o e => ?_⟩
    · have e2 : (kidsQ (says ns tbl) (.node q1 ks, part)).take (j + 1) = (kidsQ (says ns tbl) (.node q1 ks, part)).take j ++ [(t0, partOf (says ns tbl q1) part z0)] := by
        rw [List.take_succ]
        congr 1
        show ((ks.map fun e => (e.2, partOf (says ns tbl q1) part e.1))[j]?).toList = _
        rw [List.getElem?_map, ekt]
        rfl
      rw [e2, ← List.append_assoc]
      exact paired_join pv9 hu1
    · rw [upd_ne (ne_of_none e nD)]
      exact k59 _ _ e
end
end L2.TB
/-! a row's way through a tree; how many questions that takes -/
namespace L2.TB
open PySem PySem.Spec PyProof.Rows
inductive Walks (sy : Str → Nat → Int) (of : List Str) (i : Nat) : Qt → Int → Nat → Prop
  | leaf (z : Int) : Walks sy of i (.leaf z) z 0
  | node {q : Str} {ks : List (Int × Qt)} {t : Qt} {z : Int} {n : Nat} (hq : q ∈ of) (h : (sy q i, t) ∈ ks) (r : Walks sy of i t z n) : Walks sy of i (.node q ks) z (n + 1)
section
variable {ws : Option (List Int)} {sy : Str → Nat → Int} {x : Str} {of : List Str}
theorem in_ans {f : Nat → Int} {part : List Nat} {i : Nat} (h : i ∈ part) : f i ∈ answersOf f part ∧ i ∈ partOf f part (f i) := by
  constructor
  · unfold answersOf
    rw [once_mem]
    exact List.mem_map_of_mem h
  · exact List.mem_filter.mpr ⟨h, decide_eq_true rfl⟩
theorem sum_map_congr {l : List Nat} {f g : Nat → Int} (h : ∀ i ∈ l, f i = g i) : (l.map f).sum = (l.map g).sum := by
  congr 1
  exact List.map_congr_left h
theorem sum_add (l : List Nat) (f g : Nat → Int) : (l.map fun i => f i + g i).sum = (l.map f).sum + (l.map g).sum := by
  induction l with
  | nil => rfl
  | cons a l ih => rw [List.map_cons, List.map_cons, List.map_cons, List.sum_cons, List.sum_cons, List.sum_cons, ih]; omega
theorem some_sum {α : Type} (g : α → Int) (o : α → Option Int) : ∀ l : List α, (∀ a ∈ l, o a = some (g a)) → ((l.map o).filterMap id).sum = (l.map g).sum
  | [], _ => rfl
  | a :: l, h => by
    rw [List.map_cons, List.map_cons, h a (by simp)]
    show (g a :: (l.map o).filterMap id).sum = _
    rw [List.sum_cons, List.sum_cons, some_sum g o l fun b hb => h b (List.mem_cons_of_mem _ hb)]
/-- what counts may be -/
structure Cnt (ws : Option (List Int)) (sy : Str → Nat → Int) (x : Str) (of : List Str) (part : List Nat) (t : Qt) (c : Int) (f : Nat → Nat) : Prop where
  w : ∀ i ∈ part, Walks sy of i t (sy x i) (f i)
  n : ws = none → (∀ i ∈ part, (f i : Int) ≤ c) ∧ ∃ i ∈ part, (f i : Int) = c
  s : ∀ l, ws = some l → (part.map fun i => l.getD i 0 * (f i : Int)).sum = c
theorem bt_counts {part : List Nat} {t : Qt} (bt : BT ws sy x of part t) : ∀ c, (bestS ws sy x of part).1 = some c → ∃ f, Cnt ws sy x of part t c f := by
  induction bt with
  | @leaf part one =>
    intro c hc
    have e : c = 0 := by
      rcases best_is (ws := ws) (sy := sy) (x := x) (of := of) part with ⟨_, ne⟩ | ⟨_, e⟩ | ⟨ne, _⟩
      · exact absurd one ne
      · rw [e] at hc; exact (Option.some.inj hc).symm
      · exact absurd one ne
    subst e
    refine ⟨fun _ => 0, fun i hi => ?_, fun _ => ⟨fun i _ => Int.le_refl _, ?_⟩, fun l _ => ?_⟩
    · rw [one_all one hi]
      exact .leaf _
    · cases part with
      | nil => simp [answersOf, onceZ] at one
      | cons i r => exact ⟨i, by simp, rfl⟩
    · have : ∀ p : List Nat, (p.map fun i => l.getD i 0 * ((0 : Nat) : Int)).sum = 0 := fun p => by
        induction p with
        | nil => rfl
        | cons a p ih => rw [List.map_cons, List.sum_cons, ih]; simp
      exact this part
  | @node part q ks c0 ne hq big ek best cost sub ih =>
    intro c hc
    rw [best] at hc
    obtain rfl := Option.some.inj hc
    have all := cost_all cost
    have kid : ∀ v ∈ answersOf (sy q) part, ∃ t, (v, t) ∈ ks := fun v hv => by
      rw [← ek] at hv
      obtain ⟨e, he, rfl⟩ := List.mem_map.mp hv
      exact ⟨e.2, he⟩
    have ex : ∀ v : Int, ∃ g : (Qt × Int) × (Nat → Nat), v ∈ answersOf (sy q) part → (v, g.1.1) ∈ ks ∧ (bestS ws sy x of (partOf (sy q) part v)).1 = some g.1.2 ∧ Cnt ws sy x of (partOf (sy q) part v) g.1.1 g.1.2 g.2 := fun v => by
      by_cases hv : v ∈ answersOf (sy q) part
      · obtain ⟨t, ht⟩ := kid v hv
        obtain ⟨cv, hcv⟩ := all _ (List.mem_map.mpr ⟨v, hv, rfl⟩)
        obtain ⟨f, hf⟩ := ih v t ht cv hcv
        exact ⟨((t, cv), f), fun _ => ⟨ht, hcv, hf⟩⟩
      · exact ⟨((.leaf 0, 0), fun _ => 0), fun h => absurd h hv⟩
    have ax : ∃ G : Int → (Qt × Int) × (Nat → Nat), ∀ v, v ∈ answersOf (sy q) part → (v, (G v).1.1) ∈ ks ∧ (bestS ws sy x of (partOf (sy q) part v)).1 = some (G v).1.2 ∧ Cnt ws sy x of (partOf (sy q) part v) (G v).1.1 (G v).1.2 (G v).2 := ⟨fun v => Classical.choose (ex v), fun v => Classical.choose_spec (ex v)⟩
    obtain ⟨G, hG⟩ := ax
    refine ⟨fun i => (G (sy q i)).2 i + 1, fun i hi => ?_, fun wn => ?_, fun l wl => ?_⟩
    · obtain ⟨h1, h2⟩ := in_ans (f := sy q) hi
      obtain ⟨g1, _, g3⟩ := hG _ h1
      exact .node hq g1 (g3.w i h2)
    · subst wn
      obtain ⟨n1, v, hv, n2⟩ := node_cost big cost
      refine ⟨fun i hi => ?_, ?_⟩
      · obtain ⟨h1, h2⟩ := in_ans (f := sy q) hi
        obtain ⟨_, g2, g3⟩ := hG _ h1
        obtain ⟨c', e', le⟩ := n1 _ h1
        rw [g2] at e'
        obtain rfl := Option.some.inj e'
        have := (g3.n rfl).1 i h2
        omega
      · obtain ⟨_, g2, g3⟩ := hG _ hv
        rw [g2] at n2
        obtain ⟨i, hi, e⟩ := (g3.n rfl).2
        obtain ⟨ip, iv⟩ := List.mem_filter.mp hi
        have iv : sy q i = v := of_decide_eq_true iv
        refine ⟨i, ip, ?_⟩
        rw [iv]
        have := Option.some.inj n2
        omega
    · subst wl
      have e1 : costOf (some l) part (subC (some l) sy x of part q) = some ((part.map fun i => l.getD i 0).sum + ((subC (some l) sy x of part q).filterMap id).sum) := by
        unfold costOf
        rw [if_neg (fun n => by obtain ⟨z, hz⟩ := all none n; cases hz)]
      rw [e1] at cost
      have e2 := some_sum (fun v => (G v).1.2) (fun v => (bestS (some l) sy x of (partOf (sy q) part v)).1) (answersOf (sy q) part) fun v hv => (hG v hv).2.1
      have e3 := parts_sum (sy q) (fun i => l.getD i 0 * (((G (sy q i)).2 i : Nat) : Int)) part
      have e4 : ((answersOf (sy q) part).map fun v => ((partOf (sy q) part v).map fun i => l.getD i 0 * (((G (sy q i)).2 i : Nat) : Int)).sum) = (answersOf (sy q) part).map fun v => (G v).1.2 := by
        refine List.map_congr_left fun v hv => ?_
        rw [← (hG v hv).2.2.s l rfl]
        refine sum_map_congr fun i hi => ?_
        have iv : sy q i = v := of_decide_eq_true (List.mem_filter.mp hi).2
        rw [iv]
      rw [e4] at e3
      have e5 : (part.map fun i => l.getD i 0 * (((G (sy q i)).2 i + 1 : Nat) : Int)).sum = (part.map fun i => l.getD i 0 + l.getD i 0 * (((G (sy q i)).2 i : Nat) : Int)).sum := by
        refine sum_map_congr fun i _ => ?_
        rw [Int.natCast_add, Int.mul_add]
        simp
        omega
      rw [e5, sum_add, e3, ← e2]
      exact Option.some.inj cost
end
end L2.TB
/-! _law_finds -/
namespace L2.TB
open PySem PySem.Spec PyProof.Rows
theorem row_at {H : Hp} {ns : List Str} {as : List Addr} {tbl : List (List Int)} (hd : DRows H ns as tbl) (nd : ns.Nodup) {i : Nat} (hi : i < tbl.length) {q : Str} (qin : q ∈ ns) : as[i]? = some (as.getD i 0) ∧ DGet H (as.getD i 0) (.str q) (some (.int (says ns tbl q i))) := by
  have la : as.length = tbl.length := Paired.length hd
  have et : as[i]? = some (as.getD i 0) := by
    rw [List.getD_eq_getElem?_getD, List.getElem?_eq_getElem (by omega)]
    rfl
  obtain ⟨vs, ev, ot, lv⟩ := paired_get hd et
  have z := DGet.k (k := Sum.inr q) ot
  rw [dk_av nd lv qin] at z
  have e : says ns tbl q i = av ns vs q := by
    show av ns (tbl.getD i []) q = _
    rw [List.getD_eq_getElem?_getD, ev]
    rfl
  rw [e]
  exact ⟨et, z⟩
def spFindsL : Sp := fun vs H Q _ => ∃ (r : Addr) (v : V) (as : List Addr) (ns : List Str) (tbl : List (List Int)) (x : Str) (of : List Str) (tr : Qt), vs = [.ref r, .str x, v] ∧ H r = some (.lst (as.map V.ref)) ∧ DRows H ns as tbl ∧ ns.Nodup ∧ tbl.length < 1000 ∧ x ∈ ns ∧ (∀ q ∈ of, q ∈ ns) ∧ QtAt (fun _ => True) H tr v ∧
  (∀ i, i < tbl.length → ∃ n, Walks (says ns tbl) of i tr (says ns tbl x i) n) ∧ ∀ H', Same H H' → Q (.bl true) H'
abbrev NFl : List Str := ["rows", "asked", "tree", "row", "here"]
theorem scFl : FnScope NFl ["rows", "asked", "tree"] (defScope sFinds) := ⟨rfl, rfl, rfl, by decide +kernel, rfl, by decide +kernel, by decide +kernel⟩
/-- a node's own entry -/
theorem node_get {H : Hp} {q : Str} {ks : List (Int × Qt)} {v : V} (h : QtAt (fun _ => True) H (.node q ks) v) : ∃ a d, v = .ref a ∧ H a = some (.tup [.str q, .ref d]) ∧ (∃ es, H d = some (.dK es)) ∧ ∀ z t, (z, t) ∈ ks → ∃ u, DGet H d (.int z) (some u) ∧ QtAt (fun _ => True) H t u := by
  cases h with
  | @node a d _ es _ oa od h hd ek nd sh al =>
    refine ⟨a, d, rfl, h, ⟨es, hd⟩, fun z t hz => ?_⟩
    obtain ⟨j, ej⟩ := List.getElem?_of_mem hz
    have les : es.length = ks.length := by
      have q := congrArg List.length ek
      rw [List.length_map, List.length_map] at q
      exact q
    have lj : j < ks.length := (List.getElem?_eq_some_iff.mp ej).1
    have eel : es[j]? = some (es[j]'(by omega)) := List.getElem?_eq_getElem _
    have ek1 : (es[j]'(by omega)).1 = Sum.inl z := by
      have q := congrArg (fun l => l[j]?) ek
      simp only [List.getElem?_map, eel, ej, Option.map_some] at q
      exact Option.some.inj q
    generalize es[j]'(by omega) = en at eel ek1
    obtain ⟨kk, u⟩ := en
    obtain rfl : kk = Sum.inl z := ek1
    have ndes : (es.map (·.1)).Nodup := by
      rw [ek]
      have e : (ks.map fun e => (Sum.inl e.1 : Key)) = (ks.map (·.1)).map Sum.inl := by rw [List.map_map]; rfl
      rw [e]
      exact List.Pairwise.map Sum.inl (fun a b h e => h (Sum.inl.inj e)) nd
    refine ⟨u, ?_, al j _ u z t eel ej⟩
    have q := DGet.k (k := Sum.inl z) hd
    rw [valV_at ndes eel] at q
    exact q
section
variable {P : Program} {w : World} {K : PySem.W.Frag} {mg : Str → Option Value} {base : Heap} {f : Addr} {fd : FuncData}
theorem ok_finds (F : Fun K "_law_finds" "_law_finds" sFinds f fd) (nI : mg "isinstance" = none) (nInt : mg "int" = none) : FnOk P w K mg base CX0 1 f fd ["rows", "asked", "tree"] spFindsL := by
  refine F.ok scFl (fun vs H Q E h => by obtain ⟨r, v, as, ns, tbl, x, of, tr, e, _⟩ := h; rw [e]; rfl) fun cdv A outer s H vs Q E hr hsp => ?_
  obtain ⟨r, v, as, ns, tbl, x, of, tr, rfl, hrw, hd, nd0, ls, xin, sub, hv, walk, hq⟩ := hsp
  have nd := scFl.nd
  have hu := hu_of hr
  refine ⟨_, pss_cons (ps_for PassesOwn.never rfl (pi_seq (pv 0)) (pg_name (i := 3) nd rfl (Or.inl rfl))
      (pss_cons (ps_set (i := 4) nd rfl (Or.inl rfl) (pv 2))
      (pss_cons (ps_while PassesOwn.never (pt_not (pt_val (pe_callB (r := rIsi K) call_isi rfl nI boot_isi (pa_cons (pv 4) (pa_cons (pe_bltn (v := .ty "int") rfl nInt boot_int' rfl) pa_nil)))))
        (pss_one (ps_set (i := 4) nd rfl (Or.inl rfl) (pe_dget2 hu (pe_ix (r := rIxT K) ix_tup (pv 4) pe_int (fun _ _ => rfl)) (pe_dget hu (pv 3) (pe_ix (r := rIxT K) ix_tup (pv 4) pe_int (fun _ _ => rfl)) (fun _ _ => rfl)) (pe_op op_pow pe_int pe_int) ⟨rfl, rfl, rfl, rfl⟩))))
      (pss_one (ps_if (pt_cmpR op_ne (pv 4) (pe_dget hu (pv 3) (pv 1) (fun _ _ => rfl)) (nomark _)) (pss_one ps_never) pss_nil)))))
    (pss_one (ps_ret pe_bl)), ?_⟩
  have la : as.length = tbl.length := Paired.length hd
  refine ⟨_, rfl, for_seq (.inl rfl) (fun i σ H' => Same H H' ∧ ∃ s3 s4, σ = [some (.ref r), some (.str x), some v, s3, s4]) ⟨Same.refl _, _, _, rfl⟩ (fun i σ H' _ h => h.1 _ _ hrw) ?_ ?_⟩
  rotate_left
  · rintro σ H1 ⟨k1, s3, s4, rfl⟩
    exact hq H1 k1
  rintro i yv σ H1 ey ⟨k1, s3, s4, rfl⟩
  rw [List.getElem?_map] at ey
  obtain ⟨a, ea, rfl⟩ := Option.map_eq_some_iff.mp ey
  have hi : i < tbl.length := by
    have := (List.getElem?_eq_some_iff.mp ea).1
    omega
  have row : ∀ (H' : Hp) (q : Str), Same H H' → q ∈ ns → DGet H' a (.str q) (some (.int (says ns tbl q i))) := fun H' q k qin => by
    obtain ⟨e1, e2⟩ := row_at (hd.same k) nd0 hi qin
    rw [ea] at e1
    rw [Option.some.inj e1]
    exact e2
  obtain ⟨n, wk⟩ := walk i hi
  refine ⟨_, rfl, ?_⟩
  refine ⟨fun m σ H' => ∃ (t : Qt) (u : V), Walks (says ns tbl) of i t (says ns tbl x i) m ∧ QtAt (fun _ => True) H t u ∧ Same H H' ∧ σ = [some (.ref r), some (.str x), some v, some (.ref a), some u], ⟨n, tr, v, wk, hv, k1, rfl⟩, ?_⟩
  rintro m σ H2 ⟨t, u, wt, hu2, k2, rfl⟩
  refine ⟨_, rfl, ?_⟩
  generalize ez : says ns tbl x i = z at wt
  cases wt with
  | leaf z =>
    obtain rfl : u = .int z := by cases hu2; rfl
    refine ⟨_, _, _, _, true, rfl, .ty _, .base (.int z), kit_ty (by decide +kernel), _, rfl, iteF ?_⟩
    refine ⟨_, rfl, _, rfl, _, rfl, a, _, rfl, row H2 x k2 xin, rfl, false, ?_, iteF ⟨k2, _, _, rfl⟩⟩
    rw [ez]
    simp
  | @node q ks t1 _ m' hqo hks wr =>
    obtain ⟨b, d, rfl, ob, ⟨es, od⟩, get⟩ := node_get hu2
    obtain ⟨u1, g1, hu1⟩ := get _ _ hks
    have dg : DGet H2 d (.int (says ns tbl q i)) (some u1) := by
      rcases g1 with ⟨kvs, k, e, ek, ev⟩ | ⟨kvs, k, b', e, ek, _⟩
      · exact .inl ⟨kvs, k, e.elim (fun e => .inl (k2 _ _ e)) (fun ⟨o, e⟩ => .inr ⟨o, k2 _ _ e⟩), ek, ev⟩
      · cases ek
    refine ⟨_, _, _, _, false, rfl, .ty _, .base (.tup (k2 _ _ ob)), kit_ty (by decide +kernel), _, rfl, iteT ⟨_, fun _ _ h => h, ?_⟩⟩
    refine ⟨_, rfl, b, _, 1, _, rfl, rfl, SqT.of (k2 _ _ ob), rfl, d, rfl, .inl ⟨es, .inl (k2 _ _ od)⟩, ?_⟩
    refine ⟨_, rfl, _, rfl, b, _, 0, _, rfl, rfl, SqT.of (k2 _ _ ob), rfl, a, _, rfl, row H2 q k2 (sub q hqo), ?_⟩
    refine ⟨10, 9, rfl, rfl, ⟨by decide, by decide, by decide⟩, some u1, dg, ?_⟩
    exact ⟨m', by omega, t1, u1, ez ▸ wr, hu1, k2, rfl⟩
end
end L2.TB
/-! _law_cost -/
namespace L2.TB
open PySem PySem.Spec PyProof.Rows
/-- the most of the first n, and none -/
def maxF (f : Nat → Nat) : Nat → Int
  | 0 => 0
  | n + 1 => if (f n : Int) > maxF f n then (f n : Int) else maxF f n
def sumF (l : List Int) (f : Nat → Nat) : Nat → Int
  | 0 => 0
  | n + 1 => sumF l f n + (f n : Int) * l.getD n 0
theorem maxF_le (f : Nat → Nat) : ∀ n, (∀ i, i < n → (f i : Int) ≤ maxF f n) ∧ (maxF f n = 0 ∨ ∃ i, i < n ∧ maxF f n = (f i : Int))
  | 0 => ⟨fun i h => by omega, .inl rfl⟩
  | n + 1 => by
    obtain ⟨h1, h2⟩ := maxF_le f n
    show (∀ i, i < n + 1 → (f i : Int) ≤ if (f n : Int) > maxF f n then (f n : Int) else maxF f n) ∧ _
    have e : maxF f (n + 1) = if (f n : Int) > maxF f n then (f n : Int) else maxF f n := rfl
    rw [e]
    by_cases g : (f n : Int) > maxF f n
    · rw [if_pos g]
      refine ⟨fun i hi => ?_, .inr ⟨n, by omega, rfl⟩⟩
      by_cases hn : i = n
      · rw [hn]; omega
      · have := h1 i (by omega); omega
    · rw [if_neg g]
      refine ⟨fun i hi => ?_, h2.imp id fun ⟨i, hi, e⟩ => ⟨i, by omega, e⟩⟩
      by_cases hn : i = n
      · rw [hn]; omega
      · exact h1 i (by omega)
theorem sumF_eq (l : List Int) (f : Nat → Nat) : ∀ n, sumF l f n = ((List.range n).map fun i => l.getD i 0 * (f i : Int)).sum
  | 0 => rfl
  | n + 1 => by
    rw [List.range_succ, List.map_append, List.sum_append, ← sumF_eq l f n]
    show _ + _ = _ + (l.getD n 0 * (f n : Int) + 0)
    rw [Int.mul_comm (l.getD n 0)]
    omega
def spCostL : Sp := fun vs H Q _ => ∃ (r wp : Addr) (v : V) (as : List Addr) (ns : List Str) (tbl : List (List Int)) (x : Str) (of : List Str) (tr : Qt) (l : List Int) (f : Nat → Nat), vs = [.ref r, v, .ref wp] ∧ H r = some (.lst (as.map V.ref)) ∧ DRows H ns as tbl ∧ ns.Nodup ∧ tbl.length < 1000 ∧ (∀ q ∈ of, q ∈ ns) ∧ QtAt (fun _ => True) H tr v ∧
  H wp = some (.lst (l.map V.int)) ∧ l.length = tbl.length ∧ (∀ z ∈ l, 0 < z ∧ z ≤ 100) ∧ (∀ i, i < tbl.length → Walks (says ns tbl) of i tr (says ns tbl x i) (f i)) ∧ ∀ H' p, Same H H' → H' p = some (.tup [.int (maxF f tbl.length), .int (sumF l f tbl.length)]) → Q (.ref p) H'
abbrev NCl : List Str := ["rows", "tree", "weights", "deep", "whole", "k", "row", "here", "many"]
theorem scCl : FnScope NCl ["rows", "tree", "weights"] (defScope sCostL) := ⟨rfl, rfl, rfl, by decide +kernel, rfl, by decide +kernel, by decide +kernel⟩
section
variable {P : Program} {w : World} {K : PySem.W.Frag} {mg : Str → Option Value} {base : Heap} {f : Addr} {fd : FuncData}
theorem ok_cost_l (F : Fun K "_law_cost" "_law_cost" sCostL f fd) (nI : mg "isinstance" = none) (nInt : mg "int" = none) (nE : mg "enumerate" = none) (nM : mg "max" = none) : FnOk P w K mg base CX0 1 f fd ["rows", "tree", "weights"] spCostL := by
  refine F.ok scCl (fun vs H Q E h => by obtain ⟨r, wp, v, as, ns, tbl, x, of, tr, l, f, e, _⟩ := h; rw [e]; rfl) fun cdv A outer s H vs Q E hr hsp => ?_
  obtain ⟨r, wp, v, as, ns, tbl, x, of, tr, l, fc, rfl, hrw, hd, nd0, ls, sub, hv, hw, ll, hlw, walk, hq⟩ := hsp
  have nd := scCl.nd
  have hu := hu_of hr
  refine ⟨_, pss_cons (ps_asg (pe_tup (pa_cons pe_int (pa_cons pe_int pa_nil))) (pg_tup rfl (pgs_cons (pg_name (i := 3) nd rfl (Or.inl rfl)) (pgs_cons (pg_name (i := 4) nd rfl (Or.inl rfl)) pgs_nil))))
    (pss_cons (ps_for PassesOwn.never rfl (pi_enumS rfl nE (pa_cons (pv 0) pa_nil)) (pg_tup rfl (pgs_cons (pg_name (i := 5) nd rfl (Or.inl rfl)) (pgs_cons (pg_name (i := 6) nd rfl (Or.inl rfl)) pgs_nil)))
      (pss_cons (ps_par (i := 7) (j := 8) rfl nd rfl rfl (by decide) rfl rfl (pa_cons (pv 1) (pa_cons pe_int pa_nil)) (by rfl))
      (pss_cons (ps_while PassesOwn.never (pt_not (pt_val (pe_callB (r := rIsi K) call_isi rfl nI boot_isi (pa_cons (pv 7) (pa_cons (pe_bltn (v := .ty "int") rfl nInt boot_int' rfl) pa_nil)))))
        (pss_one (ps_par (i := 7) (j := 8) rfl nd rfl rfl (by decide) rfl rfl (pa_cons (pe_dget hu (pe_ix (r := rIxT K) ix_tup (pv 7) pe_int (fun _ _ => rfl)) (pe_dget hu (pv 6) (pe_ix (r := rIxT K) ix_tup (pv 7) pe_int (fun _ _ => rfl)) (fun _ _ => rfl)) (fun _ _ => rfl)) (pa_cons (pe_op op_add (pv 8) pe_int) pa_nil)) (by rfl))))
      (pss_one (ps_par (i := 3) (j := 4) rfl nd rfl rfl (by decide) rfl rfl (pa_cons (pe_callB (call_max2 rfl) rfl nM boot_max (pa_cons (pv 3) (pa_cons (pv 8) pa_nil))) (pa_cons (pe_op op_add (pv 4) (pe_op op_mul (pv 8) (pe_ix ix_list (pv 2) (pv 5) (fun _ _ => rfl)))) pa_nil)) (by rfl))))))
    (pss_one (ps_ret (pe_tup (pa_cons (pv 3) (pa_cons (pv 4) pa_nil)))))), ?_⟩
  have la : as.length = tbl.length := Paired.length hd
  refine ⟨by show 2 ≤ sizeLine; decide, fun p0 np0 => ?_⟩
  have k0 := same_new (o := .tup [.int 0, .int 0]) np0
  refine ⟨p0, _, rfl, SqT.of upd_same, rfl, _, _, rfl, _, _, rfl, rfl, ?_⟩
  generalize upd H p0 (.tup [.int 0, .int 0]) = H0 at k0
  refine ⟨_, rfl, enum_seq (.inl rfl) (fun i σ H' => Same H H' ∧ i ≤ tbl.length ∧ ∃ s5 s6 s7 s8, σ = [some (.ref r), some v, some (.ref wp), some (.int (maxF fc i)), some (.int (sumF l fc i)), s5, s6, s7, s8]) ⟨k0, Nat.zero_le _, _, _, _, _, rfl⟩ (fun i σ H' _ h => h.1 _ _ hrw) ?_ ?_⟩
  rotate_left
  · rintro σ H1 ⟨k1, _, s5, s6, s7, s8, rfl⟩
    rw [List.length_map, la]
    exact ⟨_, rfl, _, rfl, (by show 2 ≤ sizeLine; decide), fun p np => hq _ p (k1.trans (same_new np)) upd_same⟩
  rintro i yv σ H1 T ey ⟨k1, le, s5, s6, s7, s8, rfl⟩ nT
  rw [List.getElem?_map] at ey
  obtain ⟨a, ea, rfl⟩ := Option.map_eq_some_iff.mp ey
  have hi : i < tbl.length := by
    have := (List.getElem?_eq_some_iff.mp ea).1
    omega
  have kT := k1.trans (same_new (o := .tup [.int (i : Nat), .ref a]) nT)
  refine ⟨T, _, rfl, SqT.of upd_same, rfl, _, _, rfl, _, _, rfl, rfl, ?_⟩
  generalize upd H1 T (.tup [.int (i : Nat), .ref a]) = H1' at kT
  have row : ∀ (H' : Hp) (q : Str), Same H H' → q ∈ ns → DGet H' a (.str q) (some (.int (says ns tbl q i))) := fun H' q k qin => by
    obtain ⟨e1, e2⟩ := row_at (hd.same k) nd0 hi qin
    rw [ea] at e1
    rw [Option.some.inj e1]
    exact e2
  have wk := walk i hi
  refine ⟨_, rfl, _, _, rfl, ?_⟩
  refine ⟨fun m σ H' => ∃ (t : Qt) (u : V), m ≤ fc i ∧ Walks (says ns tbl) of i t (says ns tbl x i) m ∧ QtAt (fun _ => True) H t u ∧ Same H H' ∧ σ = [some (.ref r), some v, some (.ref wp), some (.int (maxF fc i)), some (.int (sumF l fc i)), some (.int (i : Nat)), some (.ref a), some u, some (.int ((fc i - m : Nat) : Int))], ⟨fc i, tr, v, Nat.le_refl _, wk, hv, kT, by rw [Nat.sub_self]; rfl⟩, ?_⟩
  rintro m σ H2 ⟨t, u, lm, wt, hu2, k2, rfl⟩
  refine ⟨_, rfl, ?_⟩
  generalize ez : says ns tbl x i = z at wt
  cases wt with
  | leaf z =>
    obtain rfl : u = .int z := by cases hu2; rfl
    refine ⟨_, _, _, _, true, rfl, .ty _, .base (.int z), kit_ty (by decide +kernel), _, rfl, iteF ?_⟩
    have el : (l.map V.int)[i]? = some (.int (l.getD i 0)) := by
      rw [List.getElem?_map, List.getElem?_eq_getElem (by omega), List.getD_eq_getElem?_getD, List.getElem?_eq_getElem (by omega)]
      rfl
    have small : 0 < l.getD i 0 ∧ l.getD i 0 ≤ 100 := by
      refine hlw _ ?_
      rw [List.getD_eq_getElem?_getD, List.getElem?_eq_getElem (by omega)]
      exact List.getElem_mem _
    refine ⟨_, rfl, _, rfl, _, _, rfl, ?_⟩
    refine ⟨_, rfl, _, rfl, _, rfl, _, rfl, _, _, _, _, rfl, rfl, SqL.of (k2 _ _ hw), atI_nat el, _, _, rfl, rfl, .inr ⟨by omega, by omega⟩, _, _, rfl, rfl, ?_⟩
    exact ⟨_, _, rfl, k2, hi, _, _, _, _, rfl⟩
  | @node q ks t1 _ m' hqo hks wr =>
    obtain ⟨b, d, rfl, ob, ⟨es, od⟩, get⟩ := node_get hu2
    obtain ⟨u1, g1, hu1⟩ := get _ _ hks
    have dg : DGet H2 d (.int (says ns tbl q i)) (some u1) := by
      rcases g1 with ⟨kvs, k, e, ek, ev⟩ | ⟨kvs, k, b', e, ek, _⟩
      · exact .inl ⟨kvs, k, e.elim (fun e => .inl (k2 _ _ e)) (fun ⟨o, e⟩ => .inr ⟨o, k2 _ _ e⟩), ek, ev⟩
      · cases ek
    refine ⟨_, _, _, _, false, rfl, .ty _, .base (.tup (k2 _ _ ob)), kit_ty (by decide +kernel), _, rfl, iteT ⟨_, fun _ _ h => h, ?_⟩⟩
    refine ⟨_, rfl, b, _, 1, _, rfl, rfl, SqT.of (k2 _ _ ob), rfl, ?_⟩
    refine ⟨_, rfl, _, rfl, b, _, 0, _, rfl, rfl, SqT.of (k2 _ _ ob), rfl, a, _, rfl, row H2 q k2 (sub q hqo), ?_⟩
    refine ⟨d, u1, rfl, dg, _, rfl, _, _, rfl, rfl, _, _, rfl, ?_⟩
    refine ⟨m', by omega, t1, u1, by omega, ez ▸ wr, hu1, k2, ?_⟩
    show [_, _, _, _, _, _, _, _, some (V.int (((fc i - (m' + 1) : Nat) : Int) + 1))] = _
    rw [show ((fc i - (m' + 1) : Nat) : Int) + 1 = ((fc i - m' : Nat) : Int) by omega]
end
end L2.TB
/-! _law_lowest -/
namespace L2.TB
open PySem PySem.Spec PyProof.Rows
theorem boot_absF : bootBuiltins "abs" = some (.builtin "abs") := by decide +kernel
def spLowest : Sp := fun vs H Q _ => ∃ (c b : Int), vs = [.int c, .int b] ∧ 0 ≤ c ∧ 0 < b ∧ b < 100000 ∧ ∀ H' p, Same H H' → H' p = some (.tup [.int (c / gcdZ c b), .int (b / gcdZ c b)]) → Q (.ref p) H'
abbrev NLo : List Str := ["top", "bottom", "one", "other"]
theorem scLo : FnScope NLo ["top", "bottom"] (defScope sLowest) := ⟨rfl, rfl, rfl, by decide +kernel, rfl, by decide +kernel, by decide +kernel⟩
section
variable {P : Program} {w : World} {K : PySem.W.Frag} {mg : Str → Option Value} {base : Heap} {f : Addr} {fd : FuncData}
theorem ok_lowest (F : Fun K "_law_lowest" "_law_lowest" sLowest f fd) (nInt : mg "int" = none) (nA : mg "abs" = none) : FnOk P w K mg base CX0 1 f fd ["top", "bottom"] spLowest := by
  refine F.ok scLo (fun vs H Q E h => by obtain ⟨c, b, e, _⟩ := h; rw [e]; rfl) fun cdv A outer s H vs Q E hr hsp => ?_
  obtain ⟨c, b, rfl, c0, b0, b1, hq⟩ := hsp
  have nd := scLo.nd
  refine ⟨_, pss_cons (ps_par (i := 2) (j := 3) rfl nd rfl rfl (by decide) rfl rfl (pa_cons (pe_callB call_abs rfl nA boot_absF (pa_cons (pv 0) pa_nil)) (pa_cons (pv 1) pa_nil)) (by rfl))
    (pss_cons (ps_while PassesOwn.never (pt_cmpR op_gt (pv 3) pe_int (nomark _))
      (pss_one (ps_par (i := 2) (j := 3) rfl nd rfl rfl (by decide) rfl rfl (pa_cons (pv 3) (pa_cons (pe_op op_mod (pe_callTy call_int1 rfl nInt boot_int (pa_cons (pv 2) pa_nil)) (pv 3)) pa_nil)) (by rfl))))
    (pss_one (ps_ret (pe_tup (pa_cons (pe_op op_fdiv (pv 0) (pv 2)) (pa_cons (pe_op op_fdiv (pv 1) (pv 2)) pa_nil)))))), ?_⟩
  refine ⟨_, rfl, c, rfl, _, rfl, _, _, rfl, ?_⟩
  rw [if_neg (by omega : ¬ c < 0)]
  refine ⟨fun m σ H' => ∃ (p q : Nat), m = q ∧ Nat.gcd p q = Nat.gcd c.natAbs b.natAbs ∧ Same H H' ∧ σ = [some (.int c), some (.int b), some (.int (p : Int)), some (.int (q : Int))],
    ⟨b.natAbs, c.natAbs, b.natAbs, rfl, rfl, Same.refl _, ?_⟩, ?_⟩
  · show [_, _, some (V.int c), some (V.int b)] = _
    rw [show ((c.natAbs : Nat) : Int) = c by omega, show ((b.natAbs : Nat) : Int) = b by omega]
  rintro m σ H1 ⟨p, q, rfl, hg, k1, rfl⟩
  refine ⟨_, rfl, _, _, rfl, rfl, _, rfl, ?_⟩
  by_cases q0 : m = 0
  · subst q0
    rw [decide_eq_false (by omega : ¬ (0 : Int) < ((0 : Nat) : Int))]
    refine iteF ?_
    rw [Nat.gcd_zero_right] at hg
    have eg : (p : Int) = gcdZ c b := by
      rw [hg]; rfl
    obtain ⟨g0, g1⟩ := gcd_pos (a := c) b0
    rw [eg]
    exact ⟨_, rfl, _, rfl, _, _, rfl, rfl, ⟨g0, by omega⟩, _, rfl, _, rfl, _, _, rfl, rfl, ⟨g0, by omega⟩, (by show 2 ≤ sizeLine; decide), fun p2 np => hq _ p2 (k1.trans (same_new np)) upd_same⟩
  · rw [decide_eq_true (by omega : (0 : Int) < (m : Int))]
    refine iteT ⟨_, fun _ _ h => h, ?_⟩
    refine ⟨_, rfl, _, rfl, .inl ⟨_, rfl, _, rfl, _, _, rfl, rfl, (by show (0 : Int) < (m : Int); omega), _, _, rfl, ?_⟩⟩
    have lt : p % m < m := Nat.mod_lt _ (by omega)
    refine ⟨p % m, lt, m, p % m, rfl, ?_, k1, ?_⟩
    · rw [← hg, Nat.gcd_comm p m, Nat.gcd_rec m p, Nat.gcd_comm]
    · show [_, _, _, some (V.int ((p : Int) % (m : Int)))] = _
      rw [← Int.natCast_emod]
end
end L2.TB
/-! list(d.values()) -/
namespace L2.TB
open PySem PySem.Spec PyProof.Rows
/-- list(d.values()) -/
def tListVals (te : TE) : TE := fun σ H Q => te σ H fun x H1 => ∃ (d : Addr) (kvs : List (Key × V)), x = .ref d ∧ Rd H1 d (.dK kvs) ∧ ∀ q, H1 q = none → Q (.ref q) (upd H1 q (.lst (kvs.map (·.2))))
theorem vals_kv : ∀ {kvs : List (Key × V)} {vs : List (Key × Value)}, KV kvs vs → Vals (kvs.map (·.2)) (vs.map (·.2)) := fun h => by
  unfold KV at h
  induction h with
  | nil => exact .nil
  | cons r _ ih => rw [List.map_cons, List.map_cons]; exact .cons r.2 ih
theorem pe_listVals {X : Cx} {e : Expr} {te : TE} {p apos cpos pos : Pos} (hc : X.calm = true) (he : PE X e te) (hg : Gl X "list") (hm : X.mg "list" = none) (hbase : attributeBase e "values" X.env (eval e X.env) = eval e X.env := by rfl) (hline : (apos.endLine == cpos.line) = true := by rfl)
    (hs : starEach [.Call (.Attribute e "values" apos) [] [] cpos] X.env = (false, eval (.Call (.Attribute e "values" apos) [] [] cpos) X.env) :: starEach [] X.env := by rfl) :
    PE X (.Call (.Name "list" p) [.Call (.Attribute e "values" apos) [] [] cpos] [] pos) (tListVals te) := by
  refine ⟨fun pins s σ H Q I reading => wpAny_Call_Name_kw (ld_blt I hg hm boot_list' (PyProof.Rows.callWith_type1 ?_ hs rfl))⟩
  rw [hs]
  show wpAny _ _ (spliced ((false, eval (.Call (.Attribute e "values" apos) [] [] cpos) X.env) :: backTo pos (starEach [] X.env))) _ _ s
  refine Calls.spliced_cons (wpAny_Call_method (T := "dict") (id := "dict.values") hbase rfl hline F.plainAttrs_dict F.slot_dict_values F.type_dict_values (thn (he.run pins s σ H _ I reading) fun u sA ⟨x, HA, IA, rx, d, kvs, ex, rd, q⟩ => ?_))
  subst ex
  cases (show u = Value.ref d from rx)
  obtain ⟨z, lo, vs, rel, dd⟩ := dk_rd IA.hok rd
  refine ⟨dd.typeIs, dd.mapOf.noDict, ?_⟩
  have IB : Inv X pins σ HA { sA with heap := sA.heap.push { cls := .type "dict_values", data := .fields #[.ref d] } } := IA.kept (t' := sA.toks) fun b ob q => Heap.get?_push_of_some _ q
  show wpAny _ _ (callWith cpos (.builtin "dict.values") [.ref d] [] []) _ X.xe sA
  refine method_meetsIn F.slot_dict_values F.entry_dict_values rfl (PySem.evalArgs_none ⟨rfl, dd.typeIs, F.args_dict_values_1 _, _, meets_dict_values (mixKind X.prog X.w) d lo, ⟨vs, dd⟩, ?_⟩)
  refine Calls.spliced_nil ?_
  obtain ⟨ep, hat⟩ := dd.dictAt
  refine PySem.W.kdl_call (PySem.W.kdl_values (r := sA.heap.objs.size) (knd := mixKind X.prog X.w) (kvs := vs) (ep := ep)) (IB.ok.hd hc) ⟨⟨_, Heap.get?_push_size _ rfl, rfl, rfl⟩, hat.push _⟩ (by rw [← rel.length]; exact z) fun h' tk acc c' hk hD hacc => ?_
  have ev : acc.toList = vs.map (·.2) := PySem.W.kdl_vals_eq _ (by rw [Array.length_toList]; exact hacc.1) fun j v e => hacc.2 j v (by rw [← Array.getElem?_toList]; exact e)
  generalize ({ sA with heap := sA.heap.push { cls := .type "dict_values", data := .fields #[.ref d] } } : Shared) = sB at IB hk hD
  refine ⟨.ref sB.heap.objs.size, upd HA sB.heap.objs.size (.lst (kvs.map (·.2))), IB.laid (t' := tk) hk (Nat.le_refl _)
    (show ObjOk X.prog X.w _ _ _ (.lst (kvs.map (·.2))) from ⟨by rw [List.length_map]; exact z, acc.toList, c', by rw [ev]; exact vals_kv rel, by rw [Array.toArray_toList]; exact hD⟩), rfl, q _ (IB.hok.fresh (Nat.le_refl _))⟩
end L2.TB
/-! _law_parts -/
namespace L2.TB
open PySem PySem.Spec PyProof.Rows
/-- rows with their places -/
def OwnP (H : Hp) (as : List Addr) (p : Addr) (i : Nat) : Prop := H p = some (.tup [.int (i : Nat), .ref (as.getD i 0)])
def OwnAt (H : Hp) (as : List Addr) (r : Addr) (part : List Nat) : Prop := ∃ ps : List Addr, H r = some (.lst (ps.map V.ref)) ∧ Paired (OwnP H as) ps part
theorem OwnAt.keep {H H' : Hp} {as : List Addr} {r : Addr} {part : List Nat} (h : OwnAt H as r part) (s : ∀ b o, H b = some o → ((∃ l, o = .lst l) ∨ ∃ l, o = .tup l) → H' b = some o) : OwnAt H' as r part := by
  obtain ⟨ps, h1, h2⟩ := h
  exact ⟨ps, s _ _ h1 (.inl ⟨_, rfl⟩), Paired.mapP h2 fun a b h => s _ _ h (.inr ⟨_, rfl⟩)⟩
theorem OwnAt.same {H H' : Hp} {as : List Addr} {r : Addr} {part : List Nat} (h : OwnAt H as r part) (s : Same H H') : OwnAt H' as r part := h.keep fun b o e _ => s b o e
/-- a dict changes, no list -/
theorem OwnAt.dict {H : Hp} {as : List Addr} {r D : Addr} {part : List Nat} {kvs kvs' : List (Key × V)} (h : OwnAt H as r part) (hD : H D = some (.dK kvs)) : OwnAt (upd H D (.dK kvs')) as r part := h.keep fun b o e k => by
  rw [upd_ne (fun z => by rw [z, hD] at e; obtain rfl := Option.some.inj e; rcases k with ⟨_, k⟩ | ⟨_, k⟩ <;> cases k)]
  exact e
theorem put_old {κ : Type} [DecidableEq κ] {kvs : List (κ × V)} {k : κ} {v : V} (h : k ∈ kvs.map (·.1)) : (putK kvs k v).map (·.1) = kvs.map (·.1) := by
  unfold putK
  obtain ⟨e, he, ee⟩ := List.mem_map.mp h
  rw [if_pos (List.any_eq_true.mpr ⟨e, he, decide_eq_true ee⟩), List.map_map]
  refine List.map_congr_left fun e _ => ?_
  show (if e.1 = k then (e.1, v) else e).1 = e.1
  split <;> rfl
def spPartsL : Sp := fun vs H Q _ => ∃ (r : Addr) (as : List Addr) (ns : List Str) (tbl : List (List Int)) (q : Str) (part : List Nat), vs = [.ref r, .str q] ∧ OwnAt H as r part ∧ DRows H ns as tbl ∧ ns.Nodup ∧ (∀ i ∈ part, i < tbl.length) ∧ part.length < 64 ∧ q ∈ ns ∧
  ∀ H' L ls, Same H H' → H' L = some (.lst (ls.map V.ref)) → Paired (fun a v => OwnAt H' as a (partOf (says ns tbl q) part v)) ls (answersOf (says ns tbl q) part) → Q (.ref L) H'
abbrev NPl : List Str := ["rows", "name", "found", "row"]
theorem scPl : FnScope NPl ["rows", "name"] (defScope sParts) := ⟨rfl, rfl, rfl, by decide +kernel, rfl, by decide +kernel, by decide +kernel⟩
structure LotsL (H : Hp) (as : List Addr) (D : Addr) (f : Nat → Int) (p : List Nat) (kvs : List (Key × V)) : Prop where
  d : H D = some (.dK kvs)
  ks : kvs.map (·.1) = (answersOf f p).map Sum.inl
  at_ : ∀ v ∈ answersOf f p, ∃ t, valV kvs (Sum.inl v) = some (.ref t) ∧ OwnAt H as t (partOf f p v)
theorem pairs_ex {α β : Type} {R : α → β → Prop} : ∀ (bs : List β), (∀ b ∈ bs, ∃ a, R a b) → ∃ as, Paired R as bs
  | [], _ => ⟨[], .nil⟩
  | b :: bs, h => by
    obtain ⟨a, ha⟩ := h b (by simp)
    obtain ⟨as, hs⟩ := pairs_ex bs fun b hb => h b (List.mem_cons_of_mem _ hb)
    exact ⟨a :: as, .cons ha hs⟩
section
variable {P : Program} {w : World} {K : PySem.W.Frag} {mg : Str → Option Value} {base : Heap} {f : Addr} {fd : FuncData}
theorem ok_partsL (F : Fun K "_law_parts" "_law_parts" sParts f fd) (nL : mg "list" = none) : FnOk P w K mg base CX0 1 f fd ["rows", "name"] spPartsL := by
  refine F.ok scPl (fun vs H Q E h => by obtain ⟨r, as, ns, tbl, q, part, e, _⟩ := h; rw [e]; rfl) fun cdv A outer s H vs Q E hr hsp => ?_
  obtain ⟨r, as, ns, tbl, q, part, rfl, own, hd, nd0, below, sh, qin, hq⟩ := hsp
  have nd := scPl.nd
  have hu := hu_of hr
  let g := says ns tbl q
  refine ⟨_, pss_cons (ps_set (i := 2) nd rfl (Or.inl rfl) pe_dnewK)
    (pss_cons (ps_for PassesOwn.never rfl (pi_seq (pv 0)) (pg_name (i := 3) nd rfl (Or.inl rfl))
      (pss_one (ps_dput hu (pv 2) (pe_dget hu (pe_ix (r := rIxT K) ix_tup (pv 3) pe_int (fun _ _ => rfl)) (pv 1) (fun _ _ => rfl))
        (pe_op op_cat (pe_dget2 hu (pv 2) (pe_dget hu (pe_ix (r := rIxT K) ix_tup (pv 3) pe_int (fun _ _ => rfl)) (pv 1) (fun _ _ => rfl)) (pe_lst pa_nil) ⟨rfl, rfl, rfl, rfl⟩) (pe_lst (pa_cons (pv 3) pa_nil))) rfl)))
    (pss_one (ps_ret (pe_listVals rfl (pv 2) rfl nL)))), ?_⟩
  intro D nD
  obtain ⟨ps, orr, opp⟩ := id own
  have lps : ps.length = part.length := Paired.length opp
  refine ⟨_, rfl, for_seq (.inl rfl) (fun i σ H' => Same H H' ∧ (∃ kvs, LotsL H' as D g (part.take i) kvs) ∧ ∃ s3, σ = [some (.ref r), some (.str q), some (.ref D), s3]) ⟨same_new nD, ⟨[], upd_same, by simp [answersOf, onceZ], fun v hv => by simp [answersOf, onceZ] at hv⟩, _, rfl⟩ (fun i σ H' _ h => h.1 _ _ orr) ?_ ?_⟩
  · rintro i yv σ H2 ey ⟨s2, ⟨kvs, L⟩, s3, rfl⟩
    rw [List.getElem?_map] at ey
    obtain ⟨p, ep, rfl⟩ := Option.map_eq_some_iff.mp ey
    obtain ⟨k, ek, op⟩ := paired_get opp ep
    have op : H p = some (.tup [.int (k : Nat), .ref (as.getD k 0)]) := op
    have lt : i < part.length := (List.getElem?_eq_some_iff.mp ek).1
    have kin : k < tbl.length := below k (List.mem_of_getElem? ek)
    have gv : ∀ {H' : Hp}, Same H H' → DGet H' (as.getD k 0) (.str q) (some (.int (g k))) := fun s => (row_at (hd.same s) nd0 kin qin).2
    have lk : kvs.length < 64 := by
      have z := congrArg List.length L.ks
      rw [List.length_map, List.length_map] at z
      have := ans_len g (part.take i)
      rw [List.length_take] at this
      omega
    have etk : part.take (i + 1) = part.take i ++ [k] := by rw [List.take_succ, ek]; rfl
    have stepA := ans_snoc g (part.take i) k
    rw [← etk] at stepA
    refine ⟨.ref D, rfl, D, rfl, .inl ⟨kvs, .inl L.d⟩, ?_⟩
    refine ⟨_, rfl, p, _, 1, _, rfl, rfl, SqT.of (s2 _ _ op), rfl, _, rfl, _, _, rfl, gv s2, ?_⟩
    refine ⟨(by show 0 ≤ sizeLine; omega), fun n nn => ?_⟩
    have sn := same_new (o := .lst []) nn
    have on : upd H2 n (.lst []) n = some (.lst []) := upd_same
    have nD2 : n ≠ D := fun z => by rw [z, L.d] at nn; cases nn
    have s3' := s2.trans sn
    obtain ⟨u, eu, ou⟩ : ∃ u, (valV kvs (Sum.inl (g k))).getD (.ref n) = .ref u ∧ OwnAt (upd H2 n (.lst [])) as u (partOf g (part.take i) (g k)) := by
      by_cases old : g k ∈ answersOf g (part.take i)
      · obtain ⟨t, et, ot⟩ := L.at_ _ old
        exact ⟨t, by rw [et]; rfl, ot.same sn⟩
      · have out : Sum.inl (g k) ∉ kvs.map (·.1) := by
          rw [L.ks]
          intro m
          obtain ⟨v, hv, e⟩ := List.mem_map.mp m
          exact old (by rw [← Sum.inl.inj e]; exact hv)
        rw [val_none_of out]
        exact ⟨n, rfl, [], on, by rw [part_none old]; exact .nil⟩
    refine ⟨valV kvs (Sum.inl (g k)), DGet.k (k := Sum.inl (g k)) (sn _ _ L.d), ?_⟩
    rw [eu]
    generalize upd H2 n (.lst []) = H3 at sn on s3' ou
    have D3 := sn _ _ L.d
    refine ⟨_, rfl, (by show 1 ≤ sizeLine; decide), fun m nm => ?_⟩
    have sm := same_new (o := .lst [.ref p]) nm
    have om : upd H3 m (.lst [.ref p]) m = some (.lst [.ref p]) := upd_same
    generalize upd H3 m (.lst [.ref p]) = H4 at sm om
    obtain ⟨us, o1, o2⟩ := ou
    have lus : us.length ≤ 64 := by
      have z := List.length_filter_le (fun i => decide (g i = g k)) (part.take i)
      have y := Paired.length o2
      rw [List.length_take] at z
      have y : us.length = (List.filter (fun j => decide (g j = g k)) (part.take i)).length := y
      omega
    refine ⟨u, m, _, _, rfl, rfl, sm _ _ o1, om, by rw [sizeLine_eq, List.length_map]; show us.length + 1 ≤ _; omega, fun c nc => ?_⟩
    have sc := same_new (o := .lst (us.map V.ref ++ [.ref p])) nc
    have oc : upd H4 c (.lst (us.map V.ref ++ [.ref p])) c = some (.lst (us.map V.ref ++ [.ref p])) := upd_same
    generalize upd H4 c (.lst (us.map V.ref ++ [.ref p])) = H5 at sc oc
    have s35 := sm.trans sc
    have s5 := s3'.trans s35
    have D5 := s35 _ _ D3
    refine ⟨_, rfl, _, rfl, p, _, 1, _, rfl, rfl, SqT.of (s5 _ _ op), rfl, _, rfl, _, _, rfl, gv s5, ?_⟩
    refine ⟨D, _, rfl, DPut.k (k := Sum.inl (g k)) D5 (by rw [sizeLine_eq]; omega), ?_⟩
    have newL : OwnAt H5 as c (partOf g (part.take (i + 1)) (g k)) := by
      refine ⟨us ++ [p], by rw [oc, List.map_append]; rfl, ?_⟩
      rw [etk, part_snoc, if_pos rfl]
      exact paired_join (Paired.mapP o2 fun a b h => s35 _ _ h) (s5 _ _ op)
    refine ⟨fun b o e => by rw [upd_ne (ne_of_none e nD)]; exact s5 _ _ e, ⟨putK kvs (Sum.inl (g k)) (.ref c), upd_same, ?_, fun v hv => ?_⟩, _, rfl⟩
    · by_cases old : g k ∈ answersOf g (part.take i)
      · rw [put_old (by rw [L.ks]; exact List.mem_map_of_mem old), L.ks, stepA, if_pos old]
      · have out : Sum.inl (g k) ∉ kvs.map (·.1) := by
          rw [L.ks]
          intro m
          obtain ⟨v, hv, e⟩ := List.mem_map.mp m
          exact old (by rw [← Sum.inl.inj e]; exact hv)
        rw [put_last out, map_snoc, L.ks, stepA, if_neg old, map_snoc]
    · by_cases hvr : v = g k
      · subst hvr
        exact ⟨c, by rw [valV_put, if_pos rfl], newL.dict D5⟩
      · have hv2 : v ∈ answersOf g (part.take i) := by
          rw [stepA] at hv
          by_cases old : g k ∈ answersOf g (part.take i)
          · rw [if_pos old] at hv; exact hv
          · rw [if_neg old, List.mem_append] at hv
            exact hv.elim id fun z => absurd (by simpa using z) hvr
        obtain ⟨t, et, ot⟩ := L.at_ v hv2
        refine ⟨t, by rw [valV_put, if_neg (fun z => hvr (Sum.inl.inj z))]; exact et, ?_⟩
        rw [etk, part_snoc, if_neg (fun z => hvr z.symm)]
        exact ((ot.same sn).same s35).dict D5
  · rintro σ H2 ⟨s2, ⟨kvs, L⟩, s3, rfl⟩
    rw [List.length_map, lps, List.take_length] at L
    refine ⟨_, rfl, D, kvs, rfl, .inl L.d, fun c nc => ?_⟩
    have sc := same_new (o := .lst (kvs.map (·.2))) nc
    have ndk : (kvs.map (·.1)).Nodup := by
      rw [L.ks]
      exact List.Pairwise.map Sum.inl (fun a b h e => h (Sum.inl.inj e)) (once_nd _)
    obtain ⟨ls, els⟩ := pairs_ex (R := fun a v => valV kvs (Sum.inl v) = some (.ref a) ∧ OwnAt H2 as a (partOf g part v)) (answersOf g part) fun v hv => L.at_ v hv
    have lls := Paired.length els
    have lkv : kvs.length = (answersOf g part).length := by
      have z := congrArg List.length L.ks
      rw [List.length_map, List.length_map] at z
      exact z
    have ev : kvs.map (·.2) = ls.map V.ref := by
      refine List.ext_getElem? fun j => ?_
      rw [List.getElem?_map, List.getElem?_map]
      by_cases hj : j < kvs.length
      · have e1 : kvs[j]? = some kvs[j] := List.getElem?_eq_getElem hj
        have e2 : ls[j]? = some (ls[j]'(by omega)) := List.getElem?_eq_getElem _
        obtain ⟨v, ev, e3, _⟩ := paired_get els e2
        have ek1 : (kvs[j]).1 = Sum.inl v := by
          have q := congrArg (fun l => l[j]?) L.ks
          simp only [List.getElem?_map, e1, ev, Option.map_some] at q
          exact Option.some.inj q
        generalize hkv : kvs[j] = en at e1 ek1
        obtain ⟨kk, y⟩ := en
        obtain rfl : kk = Sum.inl v := ek1
        rw [valV_at ndk e1] at e3
        rw [e1, e2]
        exact congrArg some (Option.some.inj e3)
      · rw [List.getElem?_eq_none (by omega), List.getElem?_eq_none (by omega)]
        rfl
    refine hq _ c ls (s2.trans sc) (by rw [upd_same, ev]) (Paired.mapP els fun a v h => h.2.same sc)
end
end L2.TB
/-! len(set(numbers)), with repeats -/
namespace L2.TB
open PySem PySem.Spec PyProof.Rows
theorem range_getD (ns : List Int) : (List.range ns.length).map (fun i => ns.getD i 0) = ns := by
  refine List.ext_getElem? fun i => ?_
  rw [List.getElem?_map]
  by_cases h : i < ns.length
  · rw [List.getElem?_range h, List.getElem?_eq_getElem h]
    show some (ns.getD i 0) = _
    rw [List.getD_eq_getElem?_getD, List.getElem?_eq_getElem h]
    rfl
  · rw [List.getElem?_eq_none (by rw [List.length_range]; omega), List.getElem?_eq_none (by omega)]
    rfl
theorem met_once (ns : List Int) : firstMet (fun i => ns.getD i 0) ns.length = onceZ ns := by
  unfold firstMet
  rw [range_getD]
  unfold onceZ
  refine fold_same _ _ fun a b _ => ?_
  unfold step_dedup
  by_cases h : b ∈ a
  · rw [if_pos h]; simp [h]
  · rw [if_neg h]; simp [h]
def tOnceN (K : PySem.W.Frag) (te : TE) : TE := fun σ H Q => te σ H fun x H' => ∃ (p : Addr) (zs : List Int), x = .ref p ∧ SqL K H' p (zs.map V.int) ∧ zs.length ≤ 4000 ∧ Q (.int ((onceZ zs).length : Nat)) H'
theorem pe_onceN {X : Cx} {inner : Expr} {te : TE} {pL pS qL qS : Pos} (calm : X.calm = true) (gl : Gl X "len") (nl : X.mg "len" = none) (gs : Gl X "set") (ns : X.mg "set" = none) (hin : PE X inner te)
    (plain : starEach [inner] X.env = (false, eval inner X.env) :: starEach [] X.env := by rfl) : PE X (.Call (.Name "len" pL) [.Call (.Name "set" pS) [inner] [] qS] [] qL) (tOnceN X.K te) := by
  refine ⟨fun pins st σ H Q inv reading => ?_⟩
  have gone := hin.run pins st σ H _ inv reading
  refine Call_ (ld_blt inv gl nl boot_len (PyProof.Rows.callWith_builtin1 (PyProof.Rows.args_cons ?_ rfl) rfl rfl))
  refine Call_ (ld_blt inv gs ns boot_set (PyProof.Rows.callWith_type1 (PyProof.Rows.args_cons (thn gone ?_) plain) plain rfl))
  rintro u st2 ⟨y, H2, inv2, same, p, zs, rfl, at_, few, done⟩
  cases same
  refine PyProof.Rows.args_nil ?_
  obtain ⟨items, vals, isL, _⟩ := inv2.list at_
  have size : items.toArray.size = zs.length := by
    rw [List.size_toArray, ← vals.length, List.length_map]
  refine call_set_list (inv2.ok.hd calm) isL.isList (ns := zs) (by simpa using vals.ints) (by rw [size]; unfold scanBound; omega) fun h2 tk made kept => ?_
  rw [size, met_once] at made
  refine PyProof.Rows.args_nil ?_
  obtain ⟨ob, es, ep, tb, e1, e2, e3, _, _, _, e4, e5⟩ := made
  have le := once_len zs
  have inv3 : Inv X pins σ H2 { st2 with heap := h2, toks := tk } := inv2.kept fun b o e => kept b o (Heap.lt_size e) e
  exact call_len_set e1 e2 e3 e4 (by rw [e5]; omega) ⟨.int ((onceZ zs).length : Nat), H2, inv3.tok _, ⟨_, by rw [e5]⟩, done⟩
end L2.TB
/-! _law_least -/
namespace L2.TB
open PySem PySem.Spec PyProof.Rows
variable {ws : Option (List Int)}
def wL (ws : Option (List Int)) : List Int := ws.getD []
def spLeastL (ws : Option (List Int)) (n : Nat) : Sp := fun vs H Q _ => ∃ (r oL wp : Addr) (as : List Addr) (ns : List Str) (tbl : List (List Int)) (x : Str) (of : List Str) (part : List Nat), vs = [.ref r, .str x, .ref oL, .ref wp] ∧ OwnAt H as r part ∧ DRows H ns as tbl ∧ ns.Nodup ∧ (∀ i ∈ part, i < tbl.length) ∧ 0 < part.length ∧ part.length ≤ n ∧ part.length < 64 ∧ x ∈ ns ∧
  H oL = some (.lst (of.map V.str)) ∧ (∀ q ∈ of, q ∈ ns) ∧ of.length < 1000 ∧ H wp = some (.lst ((wL ws).map V.int)) ∧ (∀ l, ws = some l → l.length = tbl.length) ∧ ∀ H', Same H H' → Q (optZ (bestS ws (says ns tbl) x of part).1) H'
abbrev NLe : List Str := ["rows", "asked", "of", "weights", "best", "name", "parts", "inner", "here", "k", "row", "part"]
theorem scLe : FnScope NLe ["rows", "asked", "of", "weights"] (defScope sLeastL) := ⟨rfl, rfl, rfl, by decide +kernel, rfl, by decide +kernel, by decide +kernel⟩
theorem boot_sumL : bootBuiltins "sum" = some (.builtin "sum") := by decide +kernel
section
variable {P : Program} {w : World} {K : PySem.W.Frag} {mg : Str → Option Value} {base : Heap} {f fP : Addr} {fd fdP : FuncData}
theorem ok_least0 (f : Addr) (fd : FuncData) : FnOk P w K mg base CX0 2 f fd ["rows", "asked", "of", "weights"] (spLeastL ws 0) :=
  ⟨fun vs H Q E h => by obtain ⟨r, oL, wp, as, ns, tbl, x, of, part, e, _⟩ := h; rw [e]; rfl, fun A outer s H args us vs Q E hr he hb hv hs => by
      obtain ⟨r, oL, wp, as, ns, tbl, x, of, part, _, _, _, _, _, h1, h2, _⟩ := hs
      omega⟩
theorem ok_leastS {n : Nat} (F : Fun K "_law_least" "_law_least" sLeastL f fd) (gF : mg "_law_least" = some (.ref f)) (FP : Fun K "_law_parts" "_law_parts" sParts fP fdP) (gP : mg "_law_parts" = some (.ref fP)) (nN : mg "len" = none) (nS : mg "set" = none) (nM : mg "max" = none) (nSm : mg "sum" = none) (nL : mg "list" = none)
    (GR : FnOk P w K mg base CX0 (n + 2) f fd ["rows", "asked", "of", "weights"] (spLeastL ws n)) : FnOk P w K mg base CX0 (n + 3) f fd ["rows", "asked", "of", "weights"] (spLeastL ws (n + 1)) := by
  have bR := F.binds (ps := ["rows", "asked", "of", "weights"]) fun _ _ _ _ _ _ us hl => match us, hl with | [_, _, _, _], _ => rfl
  have GP : FnOk P w K mg base CX0 1 fP fdP ["rows", "name"] spPartsL := ok_partsL FP nL
  have bP := FP.binds (ps := ["rows", "name"]) fun _ _ _ _ _ _ us hl => match us, hl with | [_, _], _ => rfl
  refine F.ok scLe (fun vs H Q E h => by obtain ⟨r, oL, wp, as, ns, tbl, x, of, part, e, _⟩ := h; rw [e]; rfl) fun cdv A outer s H vs Q E hr hsp => ?_
  obtain ⟨r, oL, wp, as, ns, tbl, x, of, part, rfl, own, hd, nd0, below, pos, lp, sh, xin, hoL, sub, lo, hw, lw, hq⟩ := hsp
  have nd := scLe.nd
  have hu := hu_of (hr.mono (show 1 ≤ n + 2 by omega))
  have hu64 := hr.units
  refine ⟨_, pss_cons (ps_if (pt_cmpR op_eq (pe_onceN rfl rfl nN rfl nS (pe_lc (own := [("k", 9), ("row", 10)]) (g := gTup K 2 (gCons (gName 9) (gCons (gName 10) gNil))) (tt := tYes) rfl nd (pi_list (pv 0)) (blkOk_by (N := NLe) (sc := defScope sLeastL) (by decide +kernel)) (fun _ _ _ _ _ => pg_tup rfl (pgs_cons (pg_name (i := 9) nd rfl (Or.inl rfl)) (pgs_cons (pg_name (i := 10) nd rfl (Or.inl rfl)) pgs_nil))) (fun _ _ _ _ _ => pts_nil) (fun _ _ _ _ _ => pe_dget hu (pv 10) (pv 1) (fun _ _ => rfl)))) pe_int (nomark _)) (pss_one (ps_ret pe_int)) pss_nil)
    (pss_cons (ps_set (i := 4) nd rfl (Or.inl rfl) pe_non)
    (pss_cons (ps_for PassesOwn.never rfl (pi_seq (pv 2)) (pg_name (i := 5) nd rfl (Or.inl rfl))
      (pss_cons (ps_set (i := 6) nd rfl (Or.inl rfl) (pe_call GP (hr.mono (by omega)) rfl gP FP.kp bP .nil pass0 (pa_cons (pv 0) (pa_cons (pv 5) pa_nil))))
      (pss_one (ps_if (pt_cmpR op_gt (pe_callB call_len_seq rfl nN boot_len (pa_cons (pv 6) pa_nil)) pe_int (nomark _))
        (pss_cons (ps_setLc (i := 7) (own := [("part", 11)]) (g := gName 11) (tt := tYes) (te := tCall (spLeastL ws n) [] E0 (tCons (tVar 11) (tCons (tVar 1) (tCons (tVar 2) (tCons (tVar 3) tNil))))) rfl nd rfl rfl (sw_true rfl rfl rfl rfl) (pi_list (pv 6)) (blkOk_by (N := NLe) (sc := defScope sLeastL) (by decide +kernel)) (fun _ _ _ _ _ => pg_name (i := 11) nd rfl (Or.inl rfl)) (fun _ _ _ _ _ => pts_nil)
            (fun _ _ _ _ _ => pe_call GR hr rfl gF F.kp bR .nil pass0 (pa_cons (pv 11) (pa_cons (pv 1) (pa_cons (pv 2) (pa_cons (pv 3) pa_nil))))))
        (pss_one (ps_if (pt_cmpR op_notIn_seq pe_non (pv 7) rfl)
          (pss_cons (ps_set (i := 8) nd rfl (Or.inl rfl) (pe_op op_add pe_int (pe_callB (r := rMax K) (cr_max rfl) rfl nM boot_max (pa_cons (pv 7) pa_nil))))
          (pss_cons (ps_if (pt_cmpR (r := rNeD K) (op_neD hu64) (pv 3) (pe_lst pa_nil) (nomark _))
            (pss_one (ps_set (i := 8) nd rfl (Or.inl rfl) (pe_op op_add (pe_callB (r := rSum K) (cr_sum rfl) rfl nSm boot_sumL (pa_cons (pv 7) pa_nil)) (pe_callB (r := rSum K) (cr_sum rfl) rfl nSm boot_sumL (pa_cons (pe_lc (own := [("k", 9), ("row", 10)]) (g := gTup K 2 (gCons (gName 9) (gCons (gName 10) gNil))) (tt := tYes) (te := tOp (rIxL K) (tVar 3) (tVar 9)) rfl nd (pi_list (pv 0)) (blkOk_by (N := NLe) (sc := defScope sLeastL) (by decide +kernel)) (fun _ _ _ _ _ => pg_tup rfl (pgs_cons (pg_name (i := 9) nd rfl (Or.inl rfl)) (pgs_cons (pg_name (i := 10) nd rfl (Or.inl rfl)) pgs_nil))) (fun _ _ _ _ _ => pts_nil) (fun _ _ _ _ _ => pe_ix (r := rIxL K) ix_list (pv 3) (pv 9) (fun _ _ => rfl))) pa_nil)))))
            pss_nil)
          (pss_one (ps_set (i := 4) nd rfl (Or.inl rfl) (pe_ifExp (PW.pt (pw_or (pt_cmp (pc_isN (pv 4))) (pw_or1 (pt_cmp (pc_lt (pv 8) (pv 4)))))) (pv 8) (pv 4))))))
          pss_nil)))
        pss_nil))))
    (pss_one (ps_ret (pv 4))))), ?_⟩
  obtain ⟨ps, orr, opp⟩ := id own
  have lps : ps.length = part.length := Paired.length opp
  have row : ∀ {H' : Hp} {i : Nat} {q : Str}, Same H H' → i ∈ part → q ∈ ns → DGet H' (as.getD i 0) (.str q) (some (.int (says ns tbl q i))) := fun s hi qin => (row_at (hd.same s) nd0 (below _ hi) qin).2
  refine ⟨_, rfl, r, rfl, ⟨_, SqL.of orr⟩, fun D nD => lc_it walk_list (fun j H' => H' D = some (.lst ((part.take j).map fun i => V.int (says ns tbl x i))) ∧ Same H H') ⟨upd_same, same_new nD⟩ (fun j H' _ h => SqL.of (h.2 _ _ orr)) ?_ ?_⟩
  · rintro j y H4 H5 lj ⟨oD, k4⟩ ⟨rfl, ey⟩
    rw [List.getElem?_map] at ey
    obtain ⟨p, ep, rfl⟩ := Option.map_eq_some_iff.mp ey
    obtain ⟨i, ei, op⟩ := paired_get opp ep
    have op : H p = some (.tup [.int (i : Nat), .ref (as.getD i 0)]) := op
    refine ⟨p, _, rfl, SqT.of (k4 _ _ op), rfl, _, _, rfl, _, _, rfl, rfl, rfl, ?_⟩
    refine ⟨_, rfl, _, rfl, _, _, rfl, row k4 (List.mem_of_getElem? ei) xin, _, oD, ?_, ?_, ?_⟩
    · rw [List.length_map, List.length_take, sizeLine_eq]; omega
    · rw [upd_same, List.take_succ, ei, List.map_append]
      rfl
    · exact fun b o e => by
        rw [upd_ne (ne_of_none e nD)]
        exact k4 _ _ e
  rintro H1 ⟨oD, k1⟩
  rw [List.length_map, lps, List.take_length] at oD
  refine ⟨D, part.map (says ns tbl x), rfl, SqL.of (by rw [List.map_map]; exact oD), by rw [List.length_map]; omega, rfl, ?_⟩
  have step0 := bestS_eq (ws := ws) (says ns tbl) x of part
  by_cases one : (answersOf (says ns tbl x) part).length = 1
  · rw [if_pos one] at step0
    rw [step0] at hq
    exact ⟨true, congrArg V.bl (decide_eq_true (congrArg (fun n : Nat => V.int (n : Int)) one)), iteT (hq H1 k1)⟩
  refine ⟨false, congrArg V.bl (decide_eq_false (fun z => one (by have z := V.int.inj z; exact Int.ofNat.inj z))), iteF ?_⟩
  rw [if_neg one] at step0
  have step0 : bestS ws (says ns tbl) x of part = foldQ ws (says ns tbl) x of part of := step0
  rw [step0] at hq
  clear step0
  refine ⟨_, rfl, for_seq (.inl rfl) (fun i σ H' => Same H H' ∧ ∃ s5 s6 s7 s8, σ = [some (.ref r), some (.str x), some (.ref oL), some (.ref wp), some (optZ (foldQ ws (says ns tbl) x of part (of.take i)).1), s5, s6, s7, s8, none, none, none])
    ⟨k1, _, _, _, _, rfl⟩ (fun i σ H' _ h => h.1 _ _ hoL) ?_ ?_⟩
  rotate_left
  · rintro σ H8 ⟨k8, s5, s6, s7, s8, rfl⟩
    rw [List.length_map, List.take_length]
    exact ⟨_, rfl, hq H8 k8⟩
  rintro i yv σ H8 ey ⟨k8, s5, s6, s7, s8, rfl⟩
  rw [List.getElem?_map] at ey
  obtain ⟨q, eq_, rfl⟩ := Option.map_eq_some_iff.mp ey
  have qin := sub q (List.mem_of_getElem? eq_)
  have ep : of.take (i + 1) = of.take i ++ [q] := by rw [List.take_succ, eq_]; rfl
  have fs := fold_snoc (ws := ws) (says ns tbl) x of part (of.take i) q
  rw [← ep] at fs
  have hd8 := hd.same k8
  refine ⟨_, rfl, _, rfl, r, as, ns, tbl, q, part, rfl, own.same k8, hd8, nd0, below, sh, qin, fun H9 L ls k9 oLs pl => ?_⟩
  have k09 := k8.trans k9
  have lls := Paired.length pl
  refine ⟨_, rfl, L, _, rfl, .inl (SqL.of oLs), _, _, rfl, rfl, _, rfl, ?_⟩
  rw [List.length_map, lls]
  have lans := ans_len (says ns tbl q) part
  by_cases big : 1 < (answersOf (says ns tbl q) part).length
  rotate_left
  · have st : foldQ ws (says ns tbl) x of part (of.take (i + 1)) = foldQ ws (says ns tbl) x of part (of.take i) := by
      rw [fs]
      unfold stepQ
      rw [if_neg big]
    rw [st, decide_eq_false (by omega : ¬ (1 : Int) < (((answersOf (says ns tbl q) part).length : Nat) : Int))]
    exact iteF ⟨k09, _, _, _, _, rfl⟩
  rw [decide_eq_true (by omega : (1 : Int) < (((answersOf (says ns tbl q) part).length : Nat) : Int))]
  refine iteT ?_
  have st : foldQ ws (says ns tbl) x of part (of.take (i + 1)) = better (foldQ ws (says ns tbl) x of part (of.take i)) q (costOf ws part ((answersOf (says ns tbl q) part).map fun v => (bestS ws (says ns tbl) x of (partOf (says ns tbl q) part v)).1)) := by
    rw [fs]
    unfold stepQ
    rw [if_pos big]
  rw [st]
  refine ⟨_, rfl, L, rfl, ⟨_, SqL.of oLs⟩, fun D2 nD2 => lc_it walk_list (fun j H' => H' D2 = some (.lst (((answersOf (says ns tbl q) part).take j).map fun v => optZ (bestS ws (says ns tbl) x of (partOf (says ns tbl q) part v)).1)) ∧ Same H9 H') ⟨upd_same, same_new nD2⟩ (fun j H' _ h => SqL.of (h.2 _ _ oLs)) ?_ ?_⟩
  · rintro j y H4 H5 lj ⟨oD2, k4⟩ ⟨rfl, ey⟩
    rw [List.getElem?_map] at ey
    obtain ⟨a, ea, rfl⟩ := Option.map_eq_some_iff.mp ey
    obtain ⟨v, ev, oa⟩ := paired_get pl ea
    have vin := List.mem_of_getElem? ev
    have k04 := k09.trans k4
    have lpv := part_lt big vin
    refine ⟨rfl, ?_⟩
    refine ⟨_, rfl, _, rfl, _, rfl, _, rfl, a, oL, wp, as, ns, tbl, x, of, _, rfl, oa.same k4, hd.same k04, nd0, fun i hi => below i (List.mem_filter.mp hi).1, List.length_pos_iff.mpr (part_some vin), by omega, by omega, xin, k04 _ _ hoL, sub, lo, k04 _ _ hw, lw, fun H6 k6 => ?_⟩
    refine ⟨_, k6 _ _ oD2, ?_, ?_, ?_⟩
    · rw [List.length_map, List.length_take, sizeLine_eq]; omega
    · rw [upd_same, List.take_succ, ev, List.map_append]
      rfl
    · exact fun b o e => by
        rw [upd_ne (ne_of_none e nD2)]
        exact k6 _ _ (k4 _ _ e)
  rintro H10 ⟨oD2, k10⟩
  rw [List.length_map, lls, List.take_length] at oD2
  have k010 := k09.trans k10
  generalize ecs : ((answersOf (says ns tbl q) part).map fun v => (bestS ws (says ns tbl) x of (partOf (says ns tbl q) part v)).1) = cs
  have hc : H10 D2 = some (.lst (cs.map optZ)) := by rw [oD2, ← ecs, List.map_map]; rfl
  have lcs : cs.length = (answersOf (says ns tbl q) part).length := by rw [← ecs, List.length_map]
  have ndn := inV_none cs
  refine ⟨_, rfl, D2, _, rfl, .inl (SqL.of hc), rfl, flat_opt cs, _, rfl, ?_⟩
  rw [if_pos rfl, ndn]
  generalize foldQ ws (says ns tbl) x of part (of.take i) = b0
  obtain ⟨b1, b2⟩ := b0
  by_cases h : none ∈ cs
  · rw [decide_eq_true h]
    have e : costOf ws part cs = none := by unfold costOf; rw [if_pos h]
    rw [e]
    exact iteF ⟨k010, _, _, _, _, rfl⟩
  rw [decide_eq_false h]
  refine iteT ?_
  have ea := all_some h
  rw [ea] at hc
  have ln : (cs.filterMap id).length = cs.length := by
    have z := congrArg List.length ea
    rw [List.length_map, List.length_map] at z
    exact z.symm
  refine ⟨_, rfl, D2, _, rfl, SqL.of hc, by omega, fun m hm le => ⟨1, m, rfl, rfl, ?_⟩⟩
  have last : ∀ (D3 : Ends) (z : Int) (s5 s6 s7 : Option V) (H11 : Hp), D3.nx [some (.ref r), some (.str x), some (.ref oL), some (.ref wp), some (optZ (better (b1, b2) q (some z)).1), s5, s6, s7, some (.int z), none, none, none] H11 →
      tAsg (tIf (tOr (tB (tIsN (tVar 4))) (tB (tLt (tVar 8) (tVar 4)))) (tVar 8) (tVar 4)) (gName 4) D3 [some (.ref r), some (.str x), some (.ref oL), some (.ref wp), some (optZ b1), s5, s6, s7, some (.int z), none, none, none] H11 := by
    intro D3 z s5 s6 s7 H11 go
    cases b1 with
    | none => exact ⟨_, rfl, _, rfl, iteT (iteT ⟨_, rfl, go⟩)⟩
    | some y =>
      refine ⟨_, rfl, _, rfl, iteF ⟨_, rfl, _, rfl, _, _, rfl, rfl, ?_⟩⟩
      by_cases lt : z < y
      · have eb : better (some y, b2) q (some z) = (some z, some q) := by
          show (if z < y then _ else _) = _
          rw [if_pos lt]
        rw [eb] at go
        exact ⟨true, congrArg V.bl (decide_eq_true lt), iteT ⟨_, rfl, go⟩⟩
      · have eb : better (some y, b2) q (some z) = (some y, b2) := by
          show (if z < y then _ else _) = _
          rw [if_neg lt]
        rw [eb] at go
        exact ⟨false, congrArg V.bl (decide_eq_false lt), iteF ⟨_, rfl, go⟩⟩
  cases ws with
  | none =>
    have e : costOf none part cs = some (1 + maxZ (cs.filterMap id)) := by unfold costOf; rw [if_neg h]
    rw [e, maxZ_of hm le]
    have hw : H wp = some (.lst []) := hw
    refine ⟨_, rfl, (by show 0 ≤ sizeLine; omega), fun q1 nq1 => ⟨.list [], .list [], .lst (SqL.of ((same_new nq1) _ _ (k010 _ _ hw))) .nil, .lst (SqL.of upd_same) .nil, by decide, by decide, _, rfl, iteF ?_⟩⟩
    exact last _ _ _ _ _ _ ⟨k010.trans (same_new nq1), _, _, _, _, rfl⟩
  | some l =>
    have e : costOf (some l) part cs = some ((part.map fun i => l.getD i 0).sum + (cs.filterMap id).sum) := by unfold costOf; rw [if_neg h]
    rw [e]
    have hw : H wp = some (.lst (l.map V.int)) := hw
    have ll := lw l rfl
    have lpos : 0 < l.length := by
      have i0 := below (part[0]'pos) (List.getElem_mem _)
      omega
    refine ⟨_, rfl, (by show 0 ≤ sizeLine; omega), fun q1 nq1 => ⟨.list (l.map .int), .list [], .lst (SqL.of ((same_new nq1) _ _ (k010 _ _ hw))) (dp_ints l), .lst (SqL.of upd_same) .nil, PySem.W.shaped_ints l, by decide, ?_⟩⟩
    have k11 := k010.trans (same_new (o := .lst []) nq1)
    have hc11 := same_new (o := .lst []) nq1 _ _ hc
    generalize upd H10 q1 (.lst []) = H11 at k11 hc11
    refine ⟨true, ?_, iteT ?_⟩
    · cases l with
      | nil => exact absurd lpos (Nat.lt_irrefl _)
      | cons a l => rfl
    refine ⟨_, rfl, D2, _, rfl, SqL.of hc11, ?_⟩
    refine ⟨_, rfl, r, rfl, ⟨_, SqL.of (k11 _ _ orr)⟩, fun D4 nD4 => lc_it walk_list (fun j H' => H' D4 = some (.lst ((part.take j).map fun i => V.int (l.getD i 0))) ∧ Same H11 H') ⟨upd_same, same_new nD4⟩ (fun j H' _ h => SqL.of (h.2 _ _ (k11 _ _ orr))) ?_ ?_⟩
    · rintro j y H4 H5 lj ⟨oD4, k4⟩ ⟨rfl, ey⟩
      rw [List.getElem?_map] at ey
      obtain ⟨p, ep, rfl⟩ := Option.map_eq_some_iff.mp ey
      obtain ⟨i2, ei, op⟩ := paired_get opp ep
      have op : H p = some (.tup [.int (i2 : Nat), .ref (as.getD i2 0)]) := op
      have k04 := k11.trans k4
      have hi := below i2 (List.mem_of_getElem? ei)
      have el : (l.map V.int)[i2]? = some (.int (l.getD i2 0)) := by
        rw [List.getElem?_map, List.getElem?_eq_getElem (by omega), List.getD_eq_getElem?_getD, List.getElem?_eq_getElem (by omega)]
        rfl
      refine ⟨p, _, rfl, SqT.of (k04 _ _ op), rfl, _, _, rfl, _, _, rfl, rfl, rfl, ?_⟩
      refine ⟨_, rfl, _, rfl, _, _, _, _, rfl, rfl, SqL.of (k04 _ _ hw), atI_nat el, _, oD4, ?_, ?_, ?_⟩
      · rw [List.length_map, List.length_take, sizeLine_eq]; omega
      · rw [upd_same, List.take_succ, ei, List.map_append]
        rfl
      · exact fun b o e => by
          rw [upd_ne (ne_of_none e nD4)]
          exact k4 _ _ e
    rintro H12 ⟨oD4, k12⟩
    rw [List.length_map, lps, List.take_length] at oD4
    refine ⟨D4, part.map fun i => l.getD i 0, rfl, SqL.of (by rw [List.map_map]; exact oD4), _, _, rfl, rfl, ?_⟩
    rw [Int.add_comm]
    exact last _ _ _ _ _ _ ⟨k11.trans k12, _, _, _, _, rfl⟩
theorem ok_leastN (F : Fun K "_law_least" "_law_least" sLeastL f fd) (gF : mg "_law_least" = some (.ref f)) (FP : Fun K "_law_parts" "_law_parts" sParts fP fdP) (gP : mg "_law_parts" = some (.ref fP)) (nN : mg "len" = none) (nS : mg "set" = none) (nM : mg "max" = none) (nSm : mg "sum" = none) (nL : mg "list" = none) : ∀ n : Nat, FnOk P w K mg base CX0 (n + 2) f fd ["rows", "asked", "of", "weights"] (spLeastL ws n)
  | 0 => ok_least0 f fd
  | n + 1 => ok_leastS F gF FP gP nN nS nM nSm nL (ok_leastN F gF FP gP nN nS nM nSm nL n)
def spLeastA : Sp := fun vs H Q E => ∃ ws, spLeastL ws 10 vs H Q E
theorem ok_leastA (F : Fun K "_law_least" "_law_least" sLeastL f fd) (gF : mg "_law_least" = some (.ref f)) (FP : Fun K "_law_parts" "_law_parts" sParts fP fdP) (gP : mg "_law_parts" = some (.ref fP)) (nN : mg "len" = none) (nS : mg "set" = none) (nM : mg "max" = none) (nSm : mg "sum" = none) (nL : mg "list" = none) : FnOk P w K mg base CX0 12 f fd ["rows", "asked", "of", "weights"] spLeastA :=
  ⟨fun vs H Q E h => by obtain ⟨ws, r, oL, wp, as, ns, tbl, x, of, part, e, _⟩ := h; rw [e]; rfl, fun A outer s H args us vs Q E hr he hb hv hs => by
    obtain ⟨ws, hs⟩ := hs
    exact (ok_leastN F gF FP gP nN nS nM nSm nL 10).run A outer s H args us vs Q E hr he hb hv hs⟩
end
end L2.TB
/-! _law_holds_right -/
namespace L2.TB
open PySem PySem.Spec PyProof.Rows
theorem boot_minH : bootBuiltins "min" = some (.builtin "min") := by decide +kernel
/-- what the law calls of twoworlds.trees -/
structure CallsP (P : Program) (w : World) (K : PySem.W.Frag) (mg : Str → Option Value) (base : Heap) (CT CQ CK CN : Addr) : Prop where
  hold : ∃ f fd, mg "hold" = some (.ref f) ∧ PySem.W.keepIn K (.ref f) = true ∧ FnOk P w K mg base (L2.CX P w) 38 f fd ["table", "asked", "n", "of"] (spHoldF K CT CQ CK CN) ∧ Binds K fd ["table", "asked", "n", "of"] [] ∧ ∃ ds, Vals [V.non] ds ∧ Binds K fd ["table", "asked", "n", "of"] ds
  isH : ∃ f fd, mg "is_hold" = some (.ref f) ∧ PySem.W.keepIn K (.ref f) = true ∧ FnOk P w K mg base (L2.CX P w) 6 f fd ["table", "asked", "n", "thing", "of"] (spIsHoldF K CT CQ CK CN) ∧ Binds K fd ["table", "asked", "n", "thing", "of"] [] ∧ ∃ ds, Vals [V.non] ds ∧ Binds K fd ["table", "asked", "n", "thing", "of"] ds
  few : ∃ f fd, mg "fewest" = some (.ref f) ∧ PySem.W.keepIn K (.ref f) = true ∧ FnOk P w K mg base (L2.CX P w) 44 f fd ["table", "asked", "of"] (spFewT K CT) ∧ Binds K fd ["table", "asked", "of"] [] ∧ ∃ ds, Vals [V.non] ds ∧ Binds K fd ["table", "asked", "of"] ds
  mean : ∃ f fd, mg "mean_fewest" = some (.ref f) ∧ PySem.W.keepIn K (.ref f) = true ∧ FnOk P w K mg base (L2.CX P w) 44 f fd ["table", "weights", "asked", "of"] (spMeanT K CT) ∧ Binds K fd ["table", "weights", "asked", "of"] [] ∧ ∃ ds, Vals [V.non] ds ∧ Binds K fd ["table", "weights", "asked", "of"] ds
  tree : ∃ f fd, mg "is_tree" = some (.ref f) ∧ PySem.W.keepIn K (.ref f) = true ∧ FnOk P w K mg base (L2.CX P w) 6 f fd ["table", "asked", "thing", "of"] (spIsTreeT K CT) ∧ Binds K fd ["table", "asked", "thing", "of"] [] ∧ ∃ ds, Vals [V.non] ds ∧ Binds K fd ["table", "asked", "thing", "of"] ds
  depth : ∃ f fd, mg "depth_of" = some (.ref f) ∧ PySem.W.keepIn K (.ref f) = true ∧ FnOk P w K mg base (L2.CX P w) 7 f fd ["table", "asked", "tree", "of"] (spDepthT K CT) ∧ ∃ ds, Vals [V.non] ds ∧ Binds K fd ["table", "asked", "tree", "of"] ds
/-- hold, called with what lets it through -/
theorem hold_go {K : PySem.W.Frag} {H : Hp} {CT CQ CK CN t : Addr} {ns : List Str} {tbl : List (List Int)} {y : Str} {o : V} {of : List Str} (ask : AskOk K H CT t ns tbl y o of) {d : Nat} (dl : d ≤ 4) {Q : VK} {E : XK}
    (no : hardP (bestS none (says ns tbl) y of (allP tbl)).1 d = false → ∀ H', Same H H' → Q .non H') (yes : hardP (bestS none (says ns tbl) y of (allP tbl)).1 d = true → ∀ H' v, Same H H' → HdAt (fun b => H b = none) H' (holdT (says ns tbl) y of d (allP tbl)) v → Q v H') :
    spHoldF K CT CQ CK CN [.ref t, .str y, .int d, o] H Q E := by
  have := ask.sh
  exact ⟨t, .str y, .int d, o, ns, tbl, rfl, ask.tab, ask.nd, by omega, ask.pos, ask.few, .inr ⟨y, rfl, ask.yin, .inr ⟨of, ask.of_, .inr ⟨d, dl, rfl, no, yes⟩⟩⟩⟩
theorem isHold_go {K : PySem.W.Frag} {H : Hp} {CT CQ CK CN t : Addr} {ns : List Str} {tbl : List (List Int)} {y : Str} {o th : V} {of : List Str} (ask : AskOk K H CT t ns tbl y o of) {d : Nat} {tv : Hd} (dl : d ≤ 4) (hv : HdAt (fun _ => True) H tv th) {Q : VK} {E : XK}
    (go : ∀ H', Same H H' → Q (.bl (holdsB (says ns tbl) y of d (allP tbl) tv)) H') : spIsHoldF K CT CQ CK CN [.ref t, .str y, .int d, th, o] H Q E :=
  ⟨t, .str y, .int d, th, o, ns, tbl, rfl, ask.tab, ask.nd, ask.sh, ask.pos, ask.few, .inr ⟨y, rfl, ask.yin, .inr ⟨of, ask.of_, .inr ⟨d, tv, dl, ask.sub.2.2, rfl, hv, go⟩⟩⟩⟩
theorem AskOk.same {K : PySem.W.Frag} {H H' : Hp} {CT t : Addr} {ns : List Str} {tbl : List (List Int)} {y : Str} {o : V} {of : List Str} (h : AskOk K H CT t ns tbl y o of) (s : Same H H') : AskOk K H' CT t ns tbl y o of :=
  ⟨h.tab.same s, h.nd, h.sh, h.pos, h.few, h.yin, h.of_.imp (fun O => ⟨O.ex.imp fun _ z => ⟨z.1, z.2.same s⟩, O.good.same s, O.sub, O.nd, O.sh⟩) id⟩
theorem AskOk.lpos {K : PySem.W.Frag} {H : Hp} {CT t : Addr} {ns : List Str} {tbl : List (List Int)} {y : Str} {o : V} {of : List Str} (h : AskOk K H CT t ns tbl y o of) : 0 < (allP tbl).length := by
  show 0 < (List.range tbl.length).length
  rw [List.length_range]
  exact h.pos
def spHr (K : PySem.W.Frag) (CT : Addr) : Sp := fun vs H Q _ => ∃ (t : Addr) (o : V) (ns : List Str) (tbl : List (List Int)) (y : Str) (of : List Str) (c : Nat), vs = [.ref t, .str y, o, .int c] ∧ AskOk K H CT t ns tbl y o of ∧ (bestS none (says ns tbl) y of (allP tbl)).1 = some (c : Int) ∧ ∀ H', Same H H' → Q (.bl true) H'
abbrev NHr : List Str := ["table", "asked", "of", "due", "some"]
theorem scHr : FnScope NHr ["table", "asked", "of", "due"] (defScope sHoldsR) := ⟨rfl, rfl, rfl, by decide +kernel, rfl, by decide +kernel, by decide +kernel⟩
section
variable {P : Program} {w : World} {K : PySem.W.Frag} {mg : Str → Option Value} {base : Heap} {f CT CQ CK CN : Addr} {fd : FuncData}
theorem ok_hr (F : Fun K "_law_holds_right" "_law_holds_right" sHoldsR f fd) (C : CallsP P w K mg base CT CQ CK CN) (nMin : mg "min" = none) : FnOk P w K mg base CX0 45 f fd ["table", "asked", "of", "due"] (spHr K CT) := by
  obtain ⟨fH, fdH, gH, kH, GH, bH, _⟩ := C.hold
  obtain ⟨fI, fdI, gI, kI, GI, bI, _⟩ := C.isH
  refine F.ok scHr (fun vs H Q E h => by obtain ⟨t, o, ns, tbl, y, of, c, e, _⟩ := h; rw [e]; rfl) fun cdv A outer s H vs Q E hr hsp => ?_
  obtain ⟨t, o, ns, tbl, y, of, c, rfl, ask, hc, hq⟩ := hsp
  have nd := scHr.nd
  have T0' : ∀ {X : Cx} (σ : L2.St), PassesAt (L2.CX X.prog X.w) X σ (WE (fun _ _ _ _ => False) σ) := fun σ => passAt LamX.takes0 σ
  refine ⟨_, pss_cons (ps_set (i := 4) nd rfl (Or.inl rfl) (pe_callS GH (hr.mono (by decide)) rfl gH kH bH T0' (pa_cons (pv 0) (pa_cons (pv 1) (pa_cons (pe_callB (call_min2 rfl) rfl nMin boot_minH (pa_cons (pv 3) (pa_cons pe_int pa_nil))) (pa_cons (pv 2) pa_nil))))))
    (pss_cons (ps_if (pt_cmpR op_notBl (pe_callS GI (hr.mono (by decide)) rfl gI kI bI T0' (pa_cons (pv 0) (pa_cons (pv 1) (pa_cons (pe_callB (call_min2 rfl) rfl nMin boot_minH (pa_cons (pv 3) (pa_cons pe_int pa_nil))) (pa_cons (pv 4) (pa_cons (pv 2) pa_nil)))))) pe_bl (nomark _)) (pss_one ps_never) pss_nil)
    (pss_one (ps_ret (pe_or (pe_cmpR op_ge (pv 3) pe_int (nomark _)) (pe_one (pe_cmp (pc_isN (pe_callS GH (hr.mono (by decide)) rfl gH kH bH T0' (pa_cons (pv 0) (pa_cons (pv 1) (pa_cons (pe_op op_add (pv 3) pe_int) (pa_cons (pv 2) pa_nil)))))))))))), ?_⟩
  have ed : (if (4 : Int) < (c : Int) then (4 : Int) else (c : Int)) = ((min c 4 : Nat) : Int) := by
    by_cases h : (4 : Int) < (c : Int)
    · rw [if_pos h]; omega
    · rw [if_neg h]; omega
  have hard : hardP (bestS none (says ns tbl) y of (allP tbl)).1 (min c 4) = true := by
    rw [hc]
    exact decide_eq_true (by omega)
  refine ⟨_, rfl, _, rfl, _, rfl, _, _, rfl, ?_⟩
  rw [ed]
  refine ⟨_, rfl, ?_⟩
  dsimp only [tNil, tVar, tC, start]
  refine hold_go (d := min c 4) ask (by omega) (fun e => by rw [hard] at e; cases e) fun _ H1 v k1 hv => ?_
  have ask1 := ask.same k1
  refine ⟨_, rfl, _, rfl, _, rfl, _, _, rfl, ?_⟩
  rw [ed]
  refine ⟨_, rfl, _, rfl, ?_⟩
  dsimp only [tNil, tVar, tC, start]
  refine isHold_go (d := min c 4) ask1 (by omega) (hv.keep (fun _ _ => trivial) fun b o' _ e _ => e) fun H2 k2 => ?_
  rw [hold_holds _ ask.lpos hard]
  refine ⟨_, _, rfl, rfl, _, rfl, iteF ?_⟩
  have k02 := k1.trans k2
  refine ⟨_, rfl, _, _, rfl, rfl, ?_⟩
  by_cases c4 : (4 : Int) ≤ (c : Int)
  · exact ⟨_, congrArg V.bl (decide_eq_true c4), iteT (hq H2 k02)⟩
  · refine ⟨_, congrArg V.bl (decide_eq_false c4), iteF ?_⟩
    refine ⟨_, rfl, _, rfl, _, rfl, _, _, rfl, rfl, _, rfl, ?_⟩
    dsimp only [tNil, tVar, tC, start]
    rw [show (c : Int) + 1 = ((c + 1 : Nat) : Int) by omega]
    refine hold_go (d := c + 1) (ask.same k02) (by omega) (fun _ H3 k3 => hq H3 (k02.trans k3)) fun e => ?_
    rw [hc] at e
    exact absurd (of_decide_eq_true e) (by omega)
end
end L2.TB
/-! _law_defaults_right -/
namespace L2.TB
open PySem PySem.Spec PyProof.Rows
/-- what fewest, mean_fewest tell -/
def FewR (A : Addr → Prop) (sy : Str → Nat → Int) (y : Str) (of : List Str) (part : List Nat) (H : Hp) (v : V) : Prop :=
  ((bestS none sy y of part).1 = none ∧ v = .non) ∨ ∃ c p tv tr, (bestS none sy y of part).1 = some c ∧ v = .ref p ∧ A p ∧ H p = some (.tup [.int c, tv]) ∧ QtAt A H tr tv ∧ BT none sy y of part tr
def MeanR (A : Addr → Prop) (l : List Int) (sy : Str → Nat → Int) (y : Str) (of : List Str) (part : List Nat) (H : Hp) (v : V) : Prop :=
  ((bestS (some l) sy y of part).1 = none ∧ v = .non) ∨ ∃ c p p2 tv tr, (bestS (some l) sy y of part).1 = some c ∧ v = .ref p ∧ A p ∧ A p2 ∧ H p2 = some (.tup [.int (c / gcdZ c l.sum), .int (l.sum / gcdZ c l.sum)]) ∧ H p = some (.tup [.ref p2, tv]) ∧ QtAt A H tr tv ∧ BT (some l) sy y of part tr
theorem FewR.keep {A A' : Addr → Prop} {sy : Str → Nat → Int} {y : Str} {of : List Str} {part : List Nat} {H H' : Hp} {v : V} (h : FewR A sy y of part H v) (hA : ∀ b, A b → A' b) (s : ∀ b o, A b → H b = some o → ((∃ l, o = .tup l) ∨ ∃ l, o = .dK l) → H' b = some o) : FewR A' sy y of part H' v := by
  rcases h with h | ⟨c, p, tv, tr, h1, h2, h3, h4, h5, h6⟩
  · exact .inl h
  · exact .inr ⟨c, p, tv, tr, h1, h2, hA _ h3, s _ _ h3 h4 (.inl ⟨_, rfl⟩), h5.keep hA s, h6⟩
theorem MeanR.keep {A A' : Addr → Prop} {l : List Int} {sy : Str → Nat → Int} {y : Str} {of : List Str} {part : List Nat} {H H' : Hp} {v : V} (h : MeanR A l sy y of part H v) (hA : ∀ b, A b → A' b) (s : ∀ b o, A b → H b = some o → ((∃ l, o = .tup l) ∨ ∃ l, o = .dK l) → H' b = some o) : MeanR A' l sy y of part H' v := by
  rcases h with h | ⟨c, p, p2, tv, tr, h1, h2, h3, h4, h5, h6, h7, h8⟩
  · exact .inl h
  · exact .inr ⟨c, p, p2, tv, tr, h1, h2, hA _ h3, hA _ h4, s _ _ h4 h5 (.inl ⟨_, rfl⟩), s _ _ h3 h6 (.inl ⟨_, rfl⟩), h7.keep hA s, h8⟩
theorem few_go {K : PySem.W.Frag} {H : Hp} {CT t : Addr} {ns : List Str} {tbl : List (List Int)} {y : Str} {o : V} {of : List Str} (ask : AskOk K H CT t ns tbl y o of) {Q : VK} {E : XK}
    (go : ∀ H' v, Same H H' → FewR (fun b => H b = none) (says ns tbl) y of (allP tbl) H' v → Q v H') : spFewT K CT [.ref t, .str y, o] H Q E :=
  ⟨t, o, ns, tbl, y, of, rfl, ask, fun e H' s => go H' .non s (.inl ⟨e, rfl⟩), fun c e H' p tr v s n h q b => go H' _ s (.inr ⟨c, p, v, tr, e, rfl, n, h, q, b⟩)⟩
theorem mean_go {K : PySem.W.Frag} {H : Hp} {CT t : Addr} {ns : List Str} {tbl : List (List Int)} {y : Str} {o wv : V} {of : List Str} {l : List Int} (ask : AskOk K H CT t ns tbl y o of) (wt : WtsAt K H wv l tbl.length) {Q : VK} {E : XK}
    (go : ∀ H' v, Same H H' → MeanR (fun b => H b = none) l (says ns tbl) y of (allP tbl) H' v → Q v H') : spMeanT K CT [.ref t, wv, .str y, o] H Q E :=
  ⟨t, wv, o, ns, tbl, y, of, l, rfl, ask, wt, fun e H' s => go H' .non s (.inl ⟨e, rfl⟩), fun c e H' p p2 tr v s n n2 h2 h q b => go H' _ s (.inr ⟨c, p, p2, v, tr, e, rfl, n, n2, h2, h, q, b⟩)⟩
theorem tree_go {K : PySem.W.Frag} {H : Hp} {CT t : Addr} {ns : List Str} {tbl : List (List Int)} {y : Str} {o v : V} {of : List Str} {ws : Option (List Int)} {tr : Qt} (ask : AskOk K H CT t ns tbl y o of) (hv : QtAt (fun _ => True) H tr v) (bt : BT ws (says ns tbl) y of (allP tbl) tr) {Q : VK} {E : XK}
    (go : ∀ H', Same H H' → Q (.bl true) H') : spIsTreeT K CT [.ref t, .str y, v, o] H Q E := ⟨t, v, o, ns, tbl, y, of, ws, tr, rfl, ask, hv, bt, go⟩
theorem depth_go {K : PySem.W.Frag} {H : Hp} {CT t : Addr} {ns : List Str} {tbl : List (List Int)} {y : Str} {o v : V} {of : List Str} {tr : Qt} {c : Int} (ask : AskOk K H CT t ns tbl y o of) (hv : QtAt (fun _ => True) H tr v) (bt : BT none (says ns tbl) y of (allP tbl) tr) (e : (bestS none (says ns tbl) y of (allP tbl)).1 = some c) {Q : VK} {E : XK}
    (go : ∀ H', Same H H' → Q (.int c) H') : spDepthT K CT [.ref t, .str y, v, o] H Q E := ⟨t, v, o, ns, tbl, y, of, tr, c, rfl, ask, hv, bt, e, go⟩
theorem badAt_all (full : List Str) : ∀ (xs us : List Str) (n : Nat), (∀ x ∈ xs, x ∈ full) → (us ++ xs).Nodup → badAt full (xs.map V.str) us n = none
  | [], us, n, _, _ => rfl
  | x :: xs, us, n, h, nd => by
    have nx : x ∉ us := fun m => by
      rw [List.nodup_append] at nd
      exact nd.2.2 x m x (by simp) rfl
    have e : us ++ x :: xs = (us ++ [x]) ++ xs := by simp
    rw [e] at nd
    show (if x ∈ full ∧ x ∉ us then badAt full (xs.map V.str) (us ++ [x]) (n + 1) else some n) = _
    rw [if_pos ⟨h x (by simp), nx⟩]
    exact badAt_all full xs (us ++ [x]) (n + 1) (fun z hz => h z (by simp [hz])) nd
/-- a list of unlike names, passed -/
theorem ofAt_list {K : PySem.W.Frag} {H : Hp} {ns of : List Str} {a : Addr} (h : H a = some (.lst (of.map V.str))) (nd : of.Nodup) (sub : ∀ z ∈ of, z ∈ ns) (sh : of.length < 1000) : OfAt K H ns (.ref a) of := by
  refine ⟨⟨a, rfl, .inl h⟩, ?_, sub, nd, sh⟩
  have e := badAt_all ns of [] 0 sub (by simpa using nd)
  rw [← e]
  exact .seq (.inl h) (fun x hx => by obtain ⟨z, _, rfl⟩ := List.mem_map.mp hx; exact .str z) (by rw [List.length_map]; exact sh)
/-- two answers that are alike at their first place -/
def AlkD (H : Hp) (a b : V) : Prop := (∃ c, a = .int c ∧ b = .int c) ∨ ∃ p p' i j, a = .ref p ∧ b = .ref p' ∧ H p = some (.tup [.int i, .int j]) ∧ H p' = some (.tup [.int i, .int j])
theorem AlkD.same {H H' : Hp} {a b : V} (h : AlkD H a b) (s : Same H H') : AlkD H' a b := h.imp id fun ⟨p, p', i, j, e1, e2, o1, o2⟩ => ⟨p, p', i, j, e1, e2, s _ _ o1, s _ _ o2⟩
theorem AlkD.d {K : PySem.W.Frag} {H : Hp} {a b : V} (h : AlkD H a b) : ∃ d, Dp K H a d ∧ Dp K H b d ∧ SeqAt.shaped d = true := by
  rcases h with ⟨c, rfl, rfl⟩ | ⟨p, p', i, j, rfl, rfl, o1, o2⟩
  · exact ⟨.int c, .int c, .int c, by simp [SeqAt.shaped, PyData.canLay0, PyData.depth]⟩
  · exact ⟨.tuple [.int i, .int j], .tup (SqT.of o1) (.cons (.int _) (.cons (.int _) .nil)), .tup (SqT.of o2) (.cons (.int _) (.cons (.int _) .nil)), by simp [SeqAt.shaped, PyData.canLay0, PyData.canLayAll0, PyData.depth, PyData.depthAll]⟩
def PairR (H : Hp) (x z : V) : Prop := (x = .non ∧ z = .non) ∨ ∃ p p' a b u u', x = .ref p ∧ z = .ref p' ∧ H p = some (.tup [a, u]) ∧ H p' = some (.tup [b, u']) ∧ AlkD H a b
theorem few_pair {H : Hp} {A B : Addr → Prop} {sy : Str → Nat → Int} {y : Str} {of : List Str} {part : List Nat} {x z : V} (h1 : FewR A sy y of part H x) (h2 : FewR B sy y of part H z) : PairR H x z := by
  rcases h1 with ⟨e1, rfl⟩ | ⟨c, p, tv, tr, e1, rfl, _, o1, _⟩ <;> rcases h2 with ⟨e2, rfl⟩ | ⟨c', p', tv', tr', e2, rfl, _, o2, _⟩
  · exact .inl ⟨rfl, rfl⟩
  · rw [e1] at e2; cases e2
  · rw [e1] at e2; cases e2
  · rw [e1] at e2
    obtain rfl := Option.some.inj e2
    exact .inr ⟨p, p', _, _, _, _, rfl, rfl, o1, o2, .inl ⟨c, rfl, rfl⟩⟩
theorem mean_pair {H : Hp} {A B : Addr → Prop} {l : List Int} {sy : Str → Nat → Int} {y : Str} {of : List Str} {part : List Nat} {x z : V} (h1 : MeanR A l sy y of part H x) (h2 : MeanR B l sy y of part H z) : PairR H x z := by
  rcases h1 with ⟨e1, rfl⟩ | ⟨c, p, p2, tv, tr, e1, rfl, _, _, q1, o1, _⟩ <;> rcases h2 with ⟨e2, rfl⟩ | ⟨c', p', p2', tv', tr', e2, rfl, _, _, q2, o2, _⟩
  · exact .inl ⟨rfl, rfl⟩
  · rw [e1] at e2; cases e2
  · rw [e1] at e2; cases e2
  · rw [e1] at e2
    obtain rfl := Option.some.inj e2
    exact .inr ⟨p, p', _, _, _, _, rfl, rfl, o1, o2, .inr ⟨p2, p2', _, _, rfl, rfl, q1, q2⟩⟩
theorem PairR.same {H H' : Hp} {x z : V} (h : PairR H x z) (s : Same H H') : PairR H' x z := by
  rcases h with h | ⟨p, p', a, b, u, u', e1, e2, o1, o2, al⟩
  · exact .inl h
  · exact .inr ⟨p, p', a, b, u, u', e1, e2, s _ _ o1, s _ _ o2, al.same s⟩
theorem hold_nn {A : Addr → Prop} {H : Hp} {sy : Str → Nat → Int} {y : Str} {of : List Str} {part : List Nat} {d : Nat} {v : V} (hv : HdAt A H (holdT sy y of d part) v) : v ≠ .non := fun z => by
  rw [z] at hv
  cases d with
  | zero =>
    have hv : HdAt A H (.sq true []) .non := hv
    cases hv
  | succ d =>
    have hv : HdAt A H (.di (of.map fun q => (q, entT sy y of d part q))) .non := hv
    cases hv
def spDr (K : PySem.W.Frag) (CT : Addr) : Sp := fun vs H Q _ => ∃ (t nm wp : Addr) (ns : List Str) (tbl : List (List Int)) (y : Str) (l : List Int), vs = [.ref t, .str y, .ref nm, .ref wp] ∧ AskOk K H CT t ns tbl y .non (ns.filter fun z => decide (z ≠ y)) ∧ H nm = some (.lst (ns.map V.str)) ∧ WtsAt K H (.ref wp) l tbl.length ∧ ∀ H', Same H H' → Q (.bl true) H'
abbrev NDr : List Str := ["table", "asked", "names", "weights", "rest", "found", "due", "one", "other", "n", "told", "name"]
theorem scDr : FnScope NDr ["table", "asked", "names", "weights"] (defScope sDefR) := ⟨rfl, rfl, rfl, by decide +kernel, rfl, by decide +kernel, by decide +kernel⟩
section
variable {P : Program} {w : World} {K : PySem.W.Frag} {mg : Str → Option Value} {base : Heap} {f CT CQ CK CN : Addr} {fd : FuncData}
theorem ok_dr (F : Fun K "_law_defaults_right" "_law_defaults_right" sDefR f fd) (C : CallsP P w K mg base CT CQ CK CN) (nZ : mg "zip" = none) (nR : mg "range" = none) : FnOk P w K mg base CX0 46 f fd ["table", "asked", "names", "weights"] (spDr K CT) := by
  obtain ⟨fH, fdH, gH, kH, GH, bH, dH, rH, bHd⟩ := C.hold
  obtain ⟨fI, fdI, gI, kI, GI, _, dI, rI, bId⟩ := C.isH
  obtain ⟨fF, fdF, gF, kF, GF, bF, dF, rF, bFd⟩ := C.few
  obtain ⟨fM, fdM, gM, kM, GM, bM, dM, rM, bMd⟩ := C.mean
  obtain ⟨fT, fdT, gT, kT, GT, _, dT, rT, bTd⟩ := C.tree
  obtain ⟨fP, fdP, gP, kP, GP, dP, rP, bPd⟩ := C.depth
  refine F.ok scDr (fun vs H Q E h => by obtain ⟨t, nm, wp, ns, tbl, y, l, e, _⟩ := h; rw [e]; rfl) fun cdv A outer s H vs Q E hr hsp => ?_
  obtain ⟨t, nm, wp, ns, tbl, y, l, rfl, ask, onm, wts, hq⟩ := hsp
  have nd := scDr.nd
  have hu64 := hr.units
  have T0' : ∀ {X : Cx} (σ : L2.St), PassesAt (L2.CX X.prog X.w) X σ (WE (fun _ _ _ _ => False) σ) := fun σ => passAt LamX.takes0 σ
  refine ⟨_, pss_cons (ps_setLc (i := 4) (own := [("name", 11)]) (g := gName 11) (te := tVar 11) (tt := tTest (tOp rNe (tVar 11) (tVar 1))) rfl nd rfl rfl (sw_true rfl rfl rfl rfl) (pi_seq (pv 2)) (blkOk_by (N := NDr) (sc := defScope sDefR) (by decide +kernel)) (fun _ _ _ _ _ => pg_name (i := 11) nd rfl (Or.inl rfl)) (fun _ _ _ _ _ => pts_one (pt_cmpR op_ne (pv 11) (pv 1) (nomark _))) (fun _ _ _ _ _ => pv 11))
    (pss_cons (ps_par (i := 5) (j := 6) rfl nd rfl rfl (by decide) rfl rfl (pa_cons (pe_lst (pa_cons (pe_callSD GF (hr.mono (by decide)) rfl gF kF bFd rF T0' (pa_cons (pv 0) (pa_cons (pv 1) pa_nil))) (pa_cons (pe_callSD GM (hr.mono (by decide)) rfl gM kM bMd rM T0' (pa_cons (pv 0) (pa_cons (pv 3) (pa_cons (pv 1) pa_nil)))) pa_nil)))
      (pa_cons (pe_lst (pa_cons (pe_callS GF (hr.mono (by decide)) rfl gF kF bF T0' (pa_cons (pv 0) (pa_cons (pv 1) (pa_cons (pv 4) pa_nil)))) pa_nil)) pa_nil)) (by rfl))
    (pss_cons (ps_expr (pe_bm PySem.F.plainAttrs_list PySem.F.slot_list_append PySem.F.type_list_append mt_append (pv 6) (pa_cons (pe_callS GM (hr.mono (by decide)) rfl gM kM bM T0' (pa_cons (pv 0) (pa_cons (pv 3) (pa_cons (pv 1) (pa_cons (pv 4) pa_nil))))) pa_nil)))
    (pss_cons (ps_for PassesOwn.never rfl (pi_zip rfl nZ (pa_cons (pv 5) (pa_cons (pv 6) pa_nil))) (pg_tup rfl (pgs_cons (pg_name (i := 7) nd rfl (Or.inl rfl)) (pgs_cons (pg_name (i := 8) nd rfl (Or.inl rfl)) pgs_nil)))
      (pss_one (ps_if (PW.pt (pw_or (pt_cmpR op_ne (pe_cmp (pc_isN (pv 7))) (pe_cmp (pc_isN (pv 8))) (nomark _)) (pw_or1 (pw_and (pt_cmp (pc_notN (pv 7))) (pw_and1 (pt_cmpR (r := rNeD K) (op_neD hu64) (pe_ix (r := rIxT K) ix_tup (pv 7) pe_int (fun _ _ => rfl)) (pe_ix (r := rIxT K) ix_tup (pv 8) pe_int (fun _ _ => rfl)) (nomark _)))).pt))) (pss_one ps_never) pss_nil)))
    (pss_cons (ps_if (PW.pt (pw_and (pt_cmp (pc_notN (pe_ix (r := rIxL K) ix_list (pv 5) pe_int (fun _ _ => rfl)))) (pw_and1 (pt_cmpR op_ne (pe_callSD GP (hr.mono (by decide)) rfl gP kP bPd rP T0' (pa_cons (pv 0) (pa_cons (pv 1) (pa_cons (pe_ix (r := rIxT K) ix_tup (pe_ix (r := rIxL K) ix_list (pv 5) pe_int (fun _ _ => rfl)) pe_int (fun _ _ => rfl)) pa_nil)))) (pe_ix (r := rIxT K) ix_tup (pe_ix (r := rIxL K) ix_list (pv 5) pe_int (fun _ _ => rfl)) pe_int (fun _ _ => rfl)) (nomark _))))) (pss_one ps_never) pss_nil)
    (pss_cons (ps_for PassesOwn.never rfl (pi_range1 rfl nR (pa_cons pe_int pa_nil)) (pg_name (i := 9) nd rfl (Or.inl rfl))
      (pss_cons (ps_set (i := 10) nd rfl (Or.inl rfl) (pe_callSD GH (hr.mono (by decide)) rfl gH kH bHd rH T0' (pa_cons (pv 0) (pa_cons (pv 1) (pa_cons (pv 9) pa_nil)))))
      (pss_cons (ps_if (pt_cmpR op_ne (pe_cmp (pc_isN (pv 10))) (pe_cmp (pc_isN (pe_callS GH (hr.mono (by decide)) rfl gH kH bH T0' (pa_cons (pv 0) (pa_cons (pv 1) (pa_cons (pv 9) (pa_cons (pv 4) pa_nil))))))) (nomark _)) (pss_one ps_never) pss_nil)
      (pss_one (ps_if (PW.pt (pw_and (pt_cmp (pc_notN (pv 10))) (pw_and1 (pt_not (pt_val (pe_callSD GI (hr.mono (by decide)) rfl gI kI bId rI T0' (pa_cons (pv 0) (pa_cons (pv 1) (pa_cons (pv 9) (pa_cons (pv 10) pa_nil)))))))))) (pss_one ps_never) pss_nil)))))
    (pss_one (ps_ret (pe_or (pe_cmp (pc_isN (pe_ix (r := rIxL K) ix_list (pv 5) pe_int (fun _ _ => rfl)))) (pe_one (pe_cmpR op_isBl (pe_callSD GT (hr.mono (by decide)) rfl gT kT bTd rT T0' (pa_cons (pv 0) (pa_cons (pv 1) (pa_cons (pe_ix (r := rIxT K) ix_tup (pe_ix (r := rIxL K) ix_list (pv 5) pe_int (fun _ _ => rfl)) pe_int (fun _ _ => rfl)) pa_nil)))) pe_bl (nomark _))))))))))), ?_⟩
  have nsh := ask.sh
  refine ⟨_, rfl, lc_seq (.inl rfl) onm (by rw [List.length_map]; omega) (isStr fun z => decide (z ≠ y)) id ?_ ?_⟩
  · intro j v H9 Cn Nn ev s9' yes no
    rw [List.getElem?_map] at ev
    obtain ⟨z, ez, rfl⟩ := Option.map_eq_some_iff.mp ev
    refine ⟨rfl, _, rfl, _, rfl, rfl, ?_⟩
    by_cases h : z = y
    · exact ⟨false, congrArg V.bl (by rw [h]; simp), iteF (no (decide_eq_false fun c => c h) H9 (Same.refl _))⟩
    · exact ⟨true, congrArg V.bl (by rw [decide_eq_false (fun c => h (V.str.inj c))]; rfl), iteT ⟨_, rfl, yes (decide_eq_true h) H9 (Same.refl _)⟩⟩
  intro H1 rL nrL orL k1
  rw [filter_strs] at orL
  generalize eof : ns.filter (fun z => decide (z ≠ y)) = of at orL ask
  obtain ⟨osub, osh, ond⟩ := ask.sub
  have askR : ∀ {H' : Hp}, Same H1 H' → AskOk K H' CT t ns tbl y (.ref rL) of := fun s => ⟨ask.tab.same (k1.trans s), ask.nd, ask.sh, ask.pos, ask.few, ask.yin, .inl (ofAt_list (s _ _ orL) ond osub osh)⟩
  have wtS : ∀ {H' : Hp}, Same H H' → WtsAt K H' (.ref wp) l tbl.length := fun s => ⟨wts.ex.imp fun _ z => ⟨z.1, z.2.same s⟩, wts.len, wts.pos, wts.few⟩
  -- the four answers
  refine ⟨_, rfl, _, rfl, ?_⟩
  dsimp only [tNil, tVar, tC, start]
  refine few_go (of := of) (ask.same k1) fun H2 v2 k2 r2 => ?_
  have k02 := k1.trans k2
  refine ⟨_, rfl, _, rfl, _, rfl, ?_⟩
  dsimp only [tNil, tVar, tC, start]
  refine mean_go (of := of) (ask.same k02) (wtS k02) fun H3 v3 k3 r3 => ?_
  have k03 := k02.trans k3
  refine ⟨(by show 2 ≤ sizeLine; decide), fun q5 nq5 => ?_⟩
  have kq5 := same_new (o := .lst [v2, v3]) nq5
  have oq5 : upd H3 q5 (.lst [v2, v3]) q5 = some (.lst [v2, v3]) := upd_same
  generalize upd H3 q5 (.lst [v2, v3]) = H4 at kq5 oq5 ⊢
  have k04 := k03.trans kq5
  have k14 := (k2.trans k3).trans kq5
  refine ⟨_, rfl, _, rfl, _, rfl, ?_⟩
  dsimp only [tNil, tVar, tC, start]
  refine few_go (of := of) (askR k14) fun H5 v5 k5 r5 => ?_
  refine ⟨(by show 1 ≤ sizeLine; decide), fun q6 nq6 => ⟨_, _, rfl, ?_⟩⟩
  have kq6 := same_new (o := .lst [v5]) nq6
  have oq6 : upd H5 q6 (.lst [v5]) q6 = some (.lst [v5]) := upd_same
  generalize upd H5 q6 (.lst [v5]) = H6 at kq6 oq6
  have k05 := k04.trans k5
  have k15 := k14.trans k5
  have k06 := k05.trans kq6
  have k16 := k15.trans kq6
  refine ⟨_, rfl, .inl ⟨rfl, _, SqL.of oq6⟩, _, rfl, _, rfl, _, rfl, _, rfl, ?_⟩
  dsimp only [tNil, tVar, tC, start]
  refine mean_go (of := of) (askR k16) (wtS k06) fun H7 v7 k7 r7 => ?_
  refine ⟨q6, _, _, rfl, rfl, k7 _ _ oq6, (by show 1 < sizeLine; decide), ?_⟩
  have oq6' : upd H7 q6 (.lst ([v5] ++ [v7])) q6 = some (.lst [v5, v7]) := upd_same
  have kB5 : Same H5 (upd H7 q6 (.lst ([v5] ++ [v7]))) := fun b o e => by
    rw [upd_ne (ne_of_none e nq6)]
    exact k7 _ _ (kq6 _ _ e)
  have b7 : MeanR (fun _ => True) l (says ns tbl) y of (allP tbl) (upd H7 q6 (.lst ([v5] ++ [v7]))) v7 := r7.keep (fun _ _ => trivial) fun b o nb e _ => by
    have ne : b ≠ q6 := fun z => by
      have nb : H6 b = none := nb
      rw [z, oq6] at nb
      cases nb
    rw [upd_ne ne]
    exact e
  generalize upd H7 q6 (.lst ([v5] ++ [v7])) = HB at oq6' kB5 b7 ⊢
  have k45 := k5.trans kB5
  have k34 := kq5.trans k45
  have k24 := k3.trans k34
  have b2 : FewR (fun _ => True) (says ns tbl) y of (allP tbl) HB v2 := r2.keep (fun _ _ => trivial) fun b o _ e _ => k24 b o e
  have b3 : MeanR (fun _ => True) l (says ns tbl) y of (allP tbl) HB v3 := r3.keep (fun _ _ => trivial) fun b o _ e _ => k34 b o e
  have b5 : FewR (fun _ => True) (says ns tbl) y of (allP tbl) HB v5 := r5.keep (fun _ _ => trivial) fun b o _ e _ => kB5 b o e
  have oq5B := k45 _ _ oq5
  have k0B := k05.trans kB5
  have k1B := k15.trans kB5
  have pr0 : PairR HB v2 v5 := few_pair b2 b5
  have pr1 : PairR HB v3 v7 := mean_pair b3 b7
  clear r2 r3 r5 r7 b3 b5 b7
  refine ⟨_, rfl, _, rfl, q5, q6, _, _, rfl, SqL.of oq5B, SqL.of oq6', for_it (walk_zip (n := 2) rfl) (fun i σ H' => Same HB H' ∧ ∃ s7 s8, σ = [some (.ref t), some (.str y), some (.ref nm), some (.ref wp), some (.ref rL), some (.ref q5), some (.ref q6), s7, s8, none, none, none]) ⟨Same.refl _, _, _, rfl⟩ (fun i σ H' _ h => ⟨SqL.of (h.1 _ _ oq5B), SqL.of (h.1 _ _ oq6')⟩) ?_ ?_⟩
  · rintro i x σ H8 H9 lt ⟨k8, s7, s8, rfl⟩ ⟨T, x1, z1, rfl, nT, rfl, ex, ez⟩
    have pr : PairR HB x1 z1 := by
      match i, lt with
      | 0, _ => cases ex; cases ez; exact pr0
      | 1, _ => cases ex; cases ez; exact pr1
    have kT := k8.trans (same_new (o := .tup [x1, z1]) nT)
    refine ⟨T, _, rfl, SqT.of upd_same, rfl, _, _, rfl, _, _, rfl, rfl, ?_⟩
    generalize upd H8 T (.tup [x1, z1]) = H9 at kT ⊢
    rcases pr.same kT with ⟨rfl, rfl⟩ | ⟨p, p', a, b, u, u', rfl, rfl, o1, o2, al⟩
    · exact ⟨_, rfl, _, rfl, rfl, false, rfl, iteF ⟨_, rfl, _, rfl, iteF (iteF ⟨kT, _, _, rfl⟩)⟩⟩
    · obtain ⟨d, d1, d2, sh⟩ := al.d (K := K)
      refine ⟨_, rfl, _, rfl, rfl, false, rfl, iteF ⟨_, rfl, _, rfl, iteT ?_⟩⟩
      refine ⟨_, rfl, p, _, 0, _, rfl, rfl, SqT.of o1, rfl, _, rfl, p', _, 0, _, rfl, rfl, SqT.of o2, rfl, d, d, d1, d2, sh, sh, _, rfl, ?_⟩
      rw [SeqAt.eqv_refl _ (Bool.and_eq_true_iff.mp sh).1]
      exact iteF ⟨kT, _, _, rfl⟩
  rintro σ HC ⟨kC, s7, s8, rfl⟩
  have oq5C := kC _ _ oq5B
  have k0C := k0B.trans kC
  have k1C := k1B.trans kC
  have bC : FewR (fun _ => True) (says ns tbl) y of (allP tbl) HC v2 := b2.keep (fun _ h => h) fun b o _ e _ => kC b o e
  have at0 : ∀ {i : Int}, i = 0 → atI [v2, v3] i = some v2 := fun h => by rw [h]; exact atI_nat (j := 0) rfl
  rcases id bC with ⟨e0, rfl⟩ | ⟨c, p, tv, tr, e0, rfl, _, op, qt, bt⟩
  · have kD := Same.refl HC
    refine ⟨_, rfl, q5, _, 0, _, rfl, rfl, SqL.of oq5C, at0 rfl, _, rfl, iteF (iteF ?_)⟩
    refine ⟨4, rfl, by decide, by decide, for_range (n := 4) (fun i σ H' => Same HC H' ∧ ∃ s9 s10, σ = [some (.ref t), some (.str y), some (.ref nm), some (.ref wp), some (.ref rL), some (.ref q5), some (.ref q6), s7, s8, s9, s10, none]) ⟨kD, _, _, rfl⟩ ?_ ?_⟩
    · rintro i σ HE hi ⟨kE, s9, s10, rfl⟩
      have k0E := k0C.trans kE
      refine ⟨_, rfl, _, rfl, _, rfl, ?_⟩
      dsimp only [tNil, tVar, tC, start]
      rw [show (0 : Int) + (i : Int) = (i : Int) from Int.zero_add _]
      refine hold_go (d := i) (of := of) (ask.same k0E) (by omega) (fun hb HG kG => ?_) fun hb HG v kG hv => ?_
      · refine ⟨_, rfl, _, rfl, _, rfl, _, rfl, _, rfl, ?_⟩
        dsimp only [tNil, tVar, tC, start]
        refine hold_go (d := i) (of := of) (askR ((k1C.trans kE).trans kG)) (by omega) (fun _ HJ kJ => ?_) fun hb2 => by rw [hb] at hb2; cases hb2
        exact ⟨rfl, false, rfl, iteF ⟨_, rfl, _, rfl, iteF (iteF ⟨(kE.trans kG).trans kJ, _, _, rfl⟩)⟩⟩
      · have nn : v ≠ .non := hold_nn hv
        refine ⟨_, rfl, _, rfl, _, rfl, _, rfl, _, rfl, ?_⟩
        dsimp only [tNil, tVar, tC, start]
        refine hold_go (d := i) (of := of) (askR ((k1C.trans kE).trans kG)) (by omega) (fun hb2 => by rw [hb] at hb2; cases hb2) fun _ HJ v2' kJ hv2 => ?_
        refine ⟨rfl, false, by rw [decide_eq_false nn, decide_eq_false (hold_nn hv2)]; rfl, iteF ⟨_, rfl, _, rfl, ?_⟩⟩
        rw [decide_eq_false nn]
        refine iteT ⟨_, rfl, _, rfl, _, rfl, _, rfl, ?_⟩
        dsimp only [tNil, tVar, tC, start]
        refine isHold_go (d := i) (of := of) (ask.same ((k0E.trans kG).trans kJ)) (by omega) ((hv.keep (fun _ _ => trivial) fun b o' _ e _ => kJ b o' e)) fun HK kK => ⟨_, rfl, ?_⟩
        rw [hold_holds _ ask.lpos hb]
        exact iteF ⟨((kE.trans kG).trans kJ).trans kK, _, _, rfl⟩
    · rintro σ HE ⟨kE, s9, s10, rfl⟩
      exact ⟨_, rfl, q5, _, 0, _, rfl, rfl, SqL.of (kE _ _ oq5C), at0 rfl, _, rfl, iteT (hq _ (k0C.trans kE))⟩
  · refine ⟨_, rfl, q5, _, 0, _, rfl, rfl, SqL.of oq5C, at0 rfl, _, rfl, iteT ?_⟩
    refine ⟨_, rfl, _, rfl, _, rfl, q5, _, 0, _, rfl, rfl, SqL.of oq5C, at0 rfl, p, _, 1, _, rfl, rfl, SqT.of op, rfl, ?_⟩
    dsimp only [tNil, tVar, tC, start]
    refine depth_go (of := of) (ask.same k0C) qt bt e0 fun HD kD => ?_
    refine ⟨_, rfl, q5, _, 0, _, rfl, rfl, SqL.of (kD _ _ oq5C), at0 rfl, p, _, 0, _, rfl, rfl, SqT.of (kD _ _ op), rfl, rfl, false, ?_, iteF ?_⟩
    · simp
    refine ⟨4, rfl, by decide, by decide, for_range (n := 4) (fun i σ H' => Same HC H' ∧ ∃ s9 s10, σ = [some (.ref t), some (.str y), some (.ref nm), some (.ref wp), some (.ref rL), some (.ref q5), some (.ref q6), s7, s8, s9, s10, none]) ⟨kD, _, _, rfl⟩ ?_ ?_⟩
    · rintro i σ HE hi ⟨kE, s9, s10, rfl⟩
      have k0E := k0C.trans kE
      refine ⟨_, rfl, _, rfl, _, rfl, ?_⟩
      dsimp only [tNil, tVar, tC, start]
      rw [show (0 : Int) + (i : Int) = (i : Int) from Int.zero_add _]
      refine hold_go (d := i) (of := of) (ask.same k0E) (by omega) (fun hb HG kG => ?_) fun hb HG v kG hv => ?_
      · refine ⟨_, rfl, _, rfl, _, rfl, _, rfl, _, rfl, ?_⟩
        dsimp only [tNil, tVar, tC, start]
        refine hold_go (d := i) (of := of) (askR ((k1C.trans kE).trans kG)) (by omega) (fun _ HJ kJ => ?_) fun hb2 => by rw [hb] at hb2; cases hb2
        exact ⟨rfl, false, rfl, iteF ⟨_, rfl, _, rfl, iteF (iteF ⟨(kE.trans kG).trans kJ, _, _, rfl⟩)⟩⟩
      · have nn : v ≠ .non := hold_nn hv
        refine ⟨_, rfl, _, rfl, _, rfl, _, rfl, _, rfl, ?_⟩
        dsimp only [tNil, tVar, tC, start]
        refine hold_go (d := i) (of := of) (askR ((k1C.trans kE).trans kG)) (by omega) (fun hb2 => by rw [hb] at hb2; cases hb2) fun _ HJ v2' kJ hv2 => ?_
        refine ⟨rfl, false, by rw [decide_eq_false nn, decide_eq_false (hold_nn hv2)]; rfl, iteF ⟨_, rfl, _, rfl, ?_⟩⟩
        rw [decide_eq_false nn]
        refine iteT ⟨_, rfl, _, rfl, _, rfl, _, rfl, ?_⟩
        dsimp only [tNil, tVar, tC, start]
        refine isHold_go (d := i) (of := of) (ask.same ((k0E.trans kG).trans kJ)) (by omega) ((hv.keep (fun _ _ => trivial) fun b o' _ e _ => kJ b o' e)) fun HK kK => ⟨_, rfl, ?_⟩
        rw [hold_holds _ ask.lpos hb]
        exact iteF ⟨((kE.trans kG).trans kJ).trans kK, _, _, rfl⟩
    · rintro σ HE ⟨kE, s9, s10, rfl⟩
      refine ⟨_, rfl, q5, _, 0, _, rfl, rfl, SqL.of (kE _ _ oq5C), at0 rfl, _, rfl, iteF ?_⟩
      refine ⟨_, rfl, _, rfl, _, rfl, q5, _, 0, _, rfl, rfl, SqL.of (kE _ _ oq5C), at0 rfl, p, _, 1, _, rfl, rfl, SqT.of (kE _ _ op), rfl, ?_⟩
      dsimp only [tNil, tVar, tC, start]
      exact tree_go (of := of) (ask.same (k0C.trans kE)) (qt.same kE) bt fun HF kF => ⟨_, _, rfl, rfl, hq _ ((k0C.trans kE).trans kF)⟩
end
end L2.TB
/-! when there is no best -/
namespace L2.TB
open PySem PySem.Spec PyProof.Rows
section
variable {ws : Option (List Int)} {sy : Str → Nat → Int} {x : Str} {of : List Str}
theorem fold_none (part : List Nat) (l : List Str) : (foldQ ws sy x of part l).1 = none ↔ ∀ q ∈ l, 1 < (answersOf (sy q) part).length → none ∈ subC ws sy x of part q := by
  induction l using rev_ind with
  | h0 => exact ⟨fun _ q h => (by cases h), fun _ => rfl⟩
  | hs l q ih =>
    rw [fold_snoc]
    unfold stepQ
    by_cases big : 1 < (answersOf (sy q) part).length
    · rw [if_pos big]
      show (better _ q (costOf ws part (subC ws sy x of part q))).1 = none ↔ _
      cases ec : costOf ws part (subC ws sy x of part q) with
      | none =>
        have nn : none ∈ subC ws sy x of part q := by
          unfold costOf at ec
          by_cases n : none ∈ subC ws sy x of part q
          · exact n
          · rw [if_neg n] at ec
            cases ws <;> cases ec
        show (foldQ ws sy x of part l).1 = none ↔ _
        rw [ih]
        refine ⟨fun h p hp b => ?_, fun h p hp b => h p (List.mem_append_left _ hp) b⟩
        rcases List.mem_append.mp hp with hp | hp
        · exact h p hp b
        · rw [List.mem_singleton.mp hp]; exact nn
      | some c =>
        have nn : none ∉ subC ws sy x of part q := fun n => by
          unfold costOf at ec
          rw [if_pos n] at ec
          cases ec
        refine ⟨fun h => ?_, fun h => absurd (h q (by simp) big) nn⟩
        exfalso
        generalize foldQ ws sy x of part l = b at h
        obtain ⟨b1, b2⟩ := b
        cases b1 with
        | none => cases h
        | some y =>
          have h : (if c < y then ((some c, some q) : Option Int × Option Str) else (some y, b2)).1 = none := h
          split at h <;> cases h
    · rw [if_neg big, ih]
      refine ⟨fun h p hp b => ?_, fun h p hp b => h p (List.mem_append_left _ hp) b⟩
      rcases List.mem_append.mp hp with hp | hp
      · exact h p hp b
      · rw [List.mem_singleton.mp hp] at b; exact absurd b big
theorem best_none (part : List Nat) : (bestS ws sy x of part).1 = none ↔ (answersOf (sy x) part).length ≠ 1 ∧ ∀ q ∈ of, 1 < (answersOf (sy q) part).length → none ∈ subC ws sy x of part q := by
  have e := bestS_eq (ws := ws) sy x of part
  by_cases one : (answersOf (sy x) part).length = 1
  · rw [if_pos one] at e
    rw [e]
    exact ⟨fun h => (by cases h), fun h => absurd one h.1⟩
  · rw [if_neg one] at e
    have e : bestS ws sy x of part = foldQ ws sy x of part of := e
    rw [e, fold_none]
    exact ⟨fun h => ⟨one, h⟩, fun h => h.2⟩
theorem sub_none {part : List Nat} {q : Str} : none ∈ subC ws sy x of part q ↔ ∃ v ∈ answersOf (sy q) part, (bestS ws sy x of (partOf (sy q) part v)).1 = none := List.mem_map
/-- weights don't matter for whether there is one -/
theorem none_free (ws ws' : Option (List Int)) : ∀ (n : Nat) (part : List Nat), part.length ≤ n → ((bestS ws sy x of part).1 = none ↔ (bestS ws' sy x of part).1 = none) := by
  intro n
  induction n with
  | zero =>
    intro part h
    obtain rfl := List.eq_nil_of_length_eq_zero (by omega : part.length = 0)
    rw [best_none, best_none]
    refine and_congr Iff.rfl ⟨fun h q hq b => ?_, fun h q hq b => ?_⟩ <;> · simp [answersOf, onceZ] at b
  | succ n ih =>
    intro part h
    rw [best_none, best_none]
    have key : ∀ q, 1 < (answersOf (sy q) part).length → (none ∈ subC ws sy x of part q ↔ none ∈ subC ws' sy x of part q) := fun q b => by
      rw [sub_none, sub_none]
      constructor
      · rintro ⟨v, hv, e⟩
        exact ⟨v, hv, (ih _ (by have := part_lt b hv; omega)).mp e⟩
      · rintro ⟨v, hv, e⟩
        exact ⟨v, hv, (ih _ (by have := part_lt b hv; omega)).mpr e⟩
    exact and_congr Iff.rfl ⟨fun h q hq b => (key q b).mp (h q hq b), fun h q hq b => (key q b).mpr (h q hq b)⟩
theorem one_of_same {f : Nat → Int} {part : List Nat} (pos : 0 < part.length) (h : ∀ i ∈ part, ∀ j ∈ part, f i = f j) : (answersOf f part).length = 1 := by
  have nd : (answersOf f part).Nodup := once_nd _
  have all : ∀ v ∈ answersOf f part, v = f (part[0]'pos) := fun v hv => by
    unfold answersOf at hv
    rw [once_mem] at hv
    obtain ⟨i, hi, rfl⟩ := List.mem_map.mp hv
    exact h i hi _ (List.getElem_mem _)
  have m0 : f (part[0]'pos) ∈ answersOf f part := (in_ans (List.getElem_mem _)).1
  cases q : answersOf f part with
  | nil => rw [q] at m0; cases m0
  | cons a l =>
    cases l with
    | nil => rfl
    | cons b l =>
      rw [q] at nd all
      have e1 := all a (by simp)
      have e2 := all b (by simp)
      rw [List.nodup_cons] at nd
      exact absurd (by rw [e1, ← e2]; simp) nd.1
theorem same_of_few {f : Nat → Int} {part : List Nat} (h : ¬ 1 < (answersOf f part).length) : ∀ i ∈ part, ∀ j ∈ part, f i = f j := fun i hi j hj => by
  have m1 := (in_ans (f := f) hi).1
  have m2 := (in_ans (f := f) hj).1
  cases q : answersOf f part with
  | nil => rw [q] at m1; cases m1
  | cons a l =>
    cases l with
    | nil =>
      rw [q] at m1 m2
      rw [List.mem_singleton.mp m1, List.mem_singleton.mp m2]
    | cons b l => rw [q] at h; exact absurd (by simp) h
/-- what the rows' answers to some questions tell, a tree finds -/
theorem told_best {m : Nat} (hT : ∀ i j, i < m → j < m → (∀ q ∈ of, sy q i = sy q j) → sy x i = sy x j) : ∀ (n : Nat) (part : List Nat), part.length ≤ n → 0 < part.length → (∀ i ∈ part, i < m) → (bestS ws sy x of part).1 ≠ none := by
  intro n
  induction n with
  | zero => intro part h p; omega
  | succ n ih =>
    intro part h p bl e
    obtain ⟨one, all⟩ := (best_none part).mp e
    refine one (one_of_same p fun i hi j hj => hT i j (bl i hi) (bl j hj) fun q hq => ?_)
    by_cases b : 1 < (answersOf (sy q) part).length
    · exfalso
      obtain ⟨v, hv, e2⟩ := sub_none.mp (all q hq b)
      exact ih _ (by have := part_lt b hv; omega) (List.length_pos_iff.mpr (part_some hv)) (fun i hi => bl i (List.mem_filter.mp hi).1) e2
    · exact same_of_few b i hi j hj
/-- what is told by some questions has a tree -/
theorem tells_best {ns : List Str} {tbl : List (List Int)} {of : List Str} {y : Str} (hT : Tells ns tbl of y) (pos : 0 < tbl.length) : (bestS ws (says ns tbl) y of (allP tbl)).1 ≠ none := by
  refine told_best (m := tbl.length) (fun i j hi hj h => ?_) _ _ (Nat.le_refl _) (by show 0 < (List.range tbl.length).length; rw [List.length_range]; exact pos) fun i hi => List.mem_range.mp hi
  have ei : ∀ k, k < tbl.length → tbl.getD k [] ∈ tbl := fun k hk => by
    rw [List.getD_eq_getElem?_getD, List.getElem?_eq_getElem hk]
    exact List.getElem_mem _
  refine hT _ (ei i hi) _ (ei j hj) ?_
  unfold keyR
  exact List.map_congr_left fun q hq => h q hq
end
end L2.TB
/-! list(enumerate(xs)) -/
namespace L2.EL
open PySem PySem.Calls PyProof.Rows PyProof.V PySem.Spec PySem.W
theorem nolen_en : typeLookup (.type "enumerate") "__len__" = pure none := by rw [typeLookup_type, builtinLookup_eq_fast]; kernel_rfl
theorem nohint_en : typeLookup (.type "enumerate") "__length_hint__" = pure none := by rw [typeLookup_type, builtinLookup_eq_fast]; kernel_rfl
structure ElG (its : Array Value) (lo : Addr) (h : Heap) (as : List Addr) : Prop where
  rise : as.Pairwise (· < ·)
  above : ∀ a ∈ as, lo < a
  pairs : ∀ (j : Nat) (a : Addr), as[j]? = some a → ∃ (hj : j < its.size) (t : Tok), h.get? a = some { cls := .type "tuple", data := .seq #[.int j t, its[j]] }
theorem ElG.there {its : Array Value} {lo : Addr} {h : Heap} {as : List Addr} (g : ElG its lo h as) {a : Addr} (ha : a ∈ as) : a < h.objs.size := by
  obtain ⟨j, hj⟩ := List.mem_iff_getElem?.mp ha
  obtain ⟨_, _, e⟩ := g.pairs j a hj
  exact Heap.lt_size e
def ElSt (h : Heap) (e it l S : Addr) (i : Nat) : Prop := h.IsListIter it l i ∧ ((i = 0 ∧ IsEnum h e it 0 .none) ∨ ∃ old T f oT, IsEnumHeld h e it i old T f ∧ h.get? T = some oT ∧ T ≠ e ∧ T ≠ it ∧ T ≠ S)
theorem ElSt.keep {h h' : Heap} {e it l S : Addr} {i : Nat} (st : ElSt h e it l S i) (k : ∀ b o, b ≠ S → h.get? b = some o → h'.get? b = some o) (eS : e ≠ S) (iS : it ≠ S) : ElSt h' e it l S i := by
  obtain ⟨h1, h2⟩ := st
  refine ⟨h1.at fun o x => k it o iS x, ?_⟩
  rcases h2 with ⟨e0, h2⟩ | ⟨old, T, f, oT, h2, h3, h4, h5, h6⟩
  · exact .inl ⟨e0, k e _ eS h2⟩
  · exact .inr ⟨old, T, f, oT, k e _ eS h2, k T _ h6 h3, h4, h5, h6⟩
section
variable {prog : Program} {w : World} {A : Around} {E : Value → Shared → Prop} {s : Shared} {its : Array Value}
theorem el_item {e it l S : Addr} {i : Nat} {Q : Option Value → Shared → Prop} (st : ElSt s.heap e it l S i) (hS : S < s.heap.objs.size) (hne : e ≠ it) (hl : s.heap.IsList l its) (hlt : i < its.size)
    (hQ : ∀ h' t, ElSt h' e it l S (i + 1) → h'.get? s.heap.objs.size = some { cls := .type "tuple", data := .seq #[.int i t, its[i]] } → h'.objs.size = s.heap.objs.size + 1 →
      (∀ b o, b ≠ e → b ≠ it → s.heap.get? b = some o → h'.get? b = some o) → Q (some (.ref s.heap.objs.size)) { s with heap := h', toks := s.toks + 1 }) :
    wpAny (model prog w) A (pyNext (.ref e)) Q E s := by
  have hx : its[i]? = some its[i] := Array.getElem?_eq_getElem hlt
  obtain ⟨hit, st⟩ := st
  have el : e < s.heap.objs.size := by
    rcases st with ⟨_, h⟩ | ⟨_, _, _, _, h, _⟩
    · exact Heap.lt_size h
    · exact Heap.lt_size h
  have il : it < s.heap.objs.size := by
    obtain ⟨_, x, _⟩ := hit
    exact Heap.lt_size x
  rcases st with ⟨rfl, he⟩ | ⟨old, T, f, oT, he, hT, hTe, hTi, hTS⟩
  · refine wpAny_pyNext_enum_item (i := 0) he hit hl hx hne fun h' ho hit' ht hz hk => hQ h' _ ⟨hit', .inr ⟨its[0], _, false, _, ho, ht, Nat.ne_of_gt el, Nat.ne_of_gt il, Nat.ne_of_gt hS⟩⟩ ht hz hk
  · exact wpAny_pyNext_enum_item_held he hT hTe hTi hit hl hx hne fun h' ho hit' ht hz hk => hQ h' _ ⟨hit', .inr ⟨_, T, true, oT, ho, hk T _ hTe hTi hT, hTe, hTi, hTS⟩⟩ ht hz hk
theorem el_done {e it l S : Addr} {i : Nat} {Q : Option Value → Shared → Prop} (hh : A.handled = none) (st : ElSt s.heap e it l S i) (hl : s.heap.IsList l its) (hge : its.size ≤ i)
    (hQ : ∀ h', Heap.ExtBut it s.heap h' → Q none { s with heap := h' }) : wpAny (model prog w) A (pyNext (.ref e)) Q E s := by
  have hx : its[i]? = none := Array.getElem?_eq_none hge
  obtain ⟨hit, st⟩ := st
  rcases st with ⟨rfl, he⟩ | ⟨old, T, f, oT, he, hT, hTe, hTi, hTS⟩
  · exact wpAny_pyNext_enum_end (i := 0) hh he hit hl hx hQ
  · exact wpAny_pyNext_enum_end_held hh he hit hl hx hQ
end
section
variable {prog : Program} {w : World} {A : Around} {s : Shared} {R : Result → Shared → Prop} {its : Array Value}
theorem el_loop {S e it l : Addr} (hh : A.handled = none) (eS : e ≠ S) (iS : it ≠ S) (hne : e ≠ it) (lS : l ≠ S) (le : l ≠ e) (li : l ≠ it) (hn : its.size ≤ sizeLine) (res : Value) {h₁ : Heap} {lo : Addr} (loS : S ≤ lo) (loe : e ≤ lo) (loi : it ≤ lo)
    (hR : ∀ h' tk acc c as, (∀ b o, b ≠ S → b ≠ e → b ≠ it → h₁.get? b = some o → h'.get? b = some o) → h'.get? S = some { cls := .type "list", dict := none, data := .seq acc c, slots := #[] } → as.length = its.size → ElG its lo h' as →
      acc.toList = as.map Value.ref → R (.ok (.ret res)) { s with heap := h', toks := tk }) :
    ∀ (k i : Nat) (h : Heap) (tk c : Nat) (acc : Array Value) (as : List Addr), its.size - i = k → i ≤ its.size → ElSt h e it l S i → h.IsList l its → (∀ b o, b ≠ S → b ≠ e → b ≠ it → h₁.get? b = some o → h.get? b = some o) →
      h.get? S = some { cls := .type "list", dict := none, data := .seq acc c, slots := #[] } → acc.toList = as.map Value.ref → as.length = i → ElG its lo h as → lo < h.objs.size →
      codeAny (model prog w) A (.builtin "list.extend.loop" ⟨[.ref S, .ref e, res], []⟩) R { s with heap := h, toks := tk } := by
  intro k
  induction k with
  | zero =>
    intro i h tk c acc as hk hi hst hD hkeep hS hacc hal hG hIs
    have hin : i = its.size := by omega
    refine codeAny_builtin PySem.F.entry_extend_loop ?_
    rw [Around.under_plainId PySem.F.plain_extend_loop _]
    show wpAny _ A.in1 (pyNext (.ref e) >>= _) _ _ _
    refine wpAny_bind (el_done (s := { s with heap := h, toks := tk }) (A := A.in1) hh hst hD (by omega) fun h' he => ?_)
    refine wpAny_pure (hR h' tk acc c as (fun b o h1 h2 h3 e => he b o h3 (hkeep b o h1 h2 h3 e)) (he S _ iS.symm hS) (by omega) ⟨hG.rise, hG.above, fun j a hj => ?_⟩ hacc)
    obtain ⟨hj', t, e3⟩ := hG.pairs j a hj
    exact ⟨hj', t, he a _ (Nat.ne_of_gt (Nat.lt_of_le_of_lt loi (hG.above a (List.mem_of_getElem? hj)))) e3⟩
  | succ k ih =>
    intro i h tk c acc as hk hi hst hD hkeep hS hacc hal hG hIs
    have hlt : i < its.size := by omega
    have hsz : acc.size = i := by rw [← Array.length_toList, hacc, List.length_map, hal]
    refine codeAny_builtin PySem.F.entry_extend_loop ?_
    rw [Around.under_plainId PySem.F.plain_extend_loop _]
    show wpAny _ A.in1 (pyNext (.ref e) >>= _) _ _ _
    refine wpAny_bind (el_item (s := { s with heap := h, toks := tk }) (S := S) hst (Heap.lt_size hS) hne hD hlt fun h' t hst' ht hz hkp => ?_)
    dsimp only at ht hz hkp ⊢
    have hS' := hkp S _ eS.symm iS.symm hS
    have up : ∀ b o, b ≠ S → h'.get? b = some o → (h'.update S (Obj.mapSeq (·.push (Value.ref h.objs.size)))).get? b = some o := fun b o hb e => (Heap.get?_update_other _ _ (Ne.symm hb)).trans e
    have hSl : S < h.objs.size := Heap.lt_size hS
    show wpAny _ A.in1 (updateSeq S (·.push (Value.ref h.objs.size)) >>= _) _ _ _
    refine wpAny_bind ?_
    refine wpAny_updateSeq hS' rfl (wpAny_pure ⟨plainId_quiet PySem.F.plain_extend_loop _, ih (i + 1) _ (tk + 1) _ (acc.push (Value.ref h.objs.size)) (as ++ [h.objs.size]) (by omega) hlt (hst'.keep up eS iS) ((hD.at fun o x => hkp l o le li x).at fun o x => up l o lS x)
      (fun b o h1 h2 h3 e => up b o h1 (hkp b o h2 h3 (hkeep b o h1 h2 h3 e))) (Heap.get?_update_self _ hS' rfl) (by rw [Array.toList_push, hacc, List.map_append]; rfl) (by rw [List.length_append, hal]; rfl) ⟨?_, ?_, ?_⟩ ?_⟩) (by rw [hsz]; omega) (by show (acc.push (Value.ref h.objs.size)).size ≤ sizeLine + 1; rw [Array.size_push, hsz]; omega)
    · refine List.pairwise_append.mpr ⟨hG.rise, List.pairwise_singleton _ _, fun a ha b hb => ?_⟩
      rw [List.mem_singleton.mp hb]
      exact hG.there ha
    · intro a ha
      rcases List.mem_append.mp ha with ha | ha
      · exact hG.above a ha
      · rw [List.mem_singleton.mp ha]; exact hIs
    · intro j b hj
      rcases Nat.lt_trichotomy j as.length with h1 | h1 | h1
      · rw [List.getElem?_append_left h1] at hj
        obtain ⟨hj', t, e3⟩ := hG.pairs j b hj
        have hb := hG.above b (List.mem_of_getElem? hj)
        exact ⟨hj', t, up b _ (Nat.ne_of_gt (Nat.lt_of_le_of_lt loS hb)) (hkp b _ (Nat.ne_of_gt (Nat.lt_of_le_of_lt loe hb)) (Nat.ne_of_gt (Nat.lt_of_le_of_lt loi hb)) e3)⟩
      · subst h1
        have hb : h.objs.size = b := by simpa using hj
        subst hb
        subst hal
        exact ⟨by omega, t, up _ _ (Nat.ne_of_gt hSl) ht⟩
      · have hnone : (as ++ [h.objs.size])[j]? = none := List.getElem?_eq_none (by rw [List.length_append, List.length_singleton]; omega)
        rw [hnone] at hj; cases hj
    · have e : (h'.update S (Obj.mapSeq (·.push (Value.ref h.objs.size)))).get? h.objs.size = _ := up _ _ (Nat.ne_of_gt hSl) ht
      exact Nat.lt_trans hIs (Heap.lt_size e)
end
section
variable {prog : Program} {w : World} {A : Around} {E : Value → Shared → Prop} {s : Shared} {e it l : Addr} {its : Array Value}
theorem el_extend {R : Result → Shared → Prop} (hh : A.handled = none) (hne : e ≠ it) (le : l ≠ e) (li : l ≠ it) (hl : s.heap.IsList l its) (he : IsEnum s.heap e it 0 .none) (hit : s.heap.IsListIter it l 0) (S : Addr) (eS : e ≠ S) (iS : it ≠ S) (lS : l ≠ S) (res : Value) (c₀ : Nat) (hS : s.heap.get? S = some { cls := .type "list", data := .seq #[] c₀ })
    (hR : ∀ h' tk acc c as, (∀ b o, b ≠ S → b ≠ e → b ≠ it → s.heap.get? b = some o → h'.get? b = some o) → h'.get? S = some { cls := .type "list", dict := none, data := .seq acc c, slots := #[] } → as.length = its.size → ElG its (s.heap.objs.size - 1) h' as →
      acc.toList = as.map Value.ref → R (.ok (.ret res)) { s with heap := h', toks := tk }) (hn : its.size ≤ sizeLine) :
    wpAny (model prog w) A.in1 (Builtin.List.listExtendWith (.ref S) (.ref e) res)
      (fun fin s' => match fin with | .done f => R (.ok f) s' | .again c' => c'.quiet = true ∧ codeAny (model prog w) A c' R s') (fun e s' => R (.error e) s') s := by
  have Sl : S < s.heap.objs.size := Heap.lt_size hS
  have el : e < s.heap.objs.size := Heap.lt_size he
  have il : it < s.heap.objs.size := by
    obtain ⟨_, x, _⟩ := id hit
    exact Heap.lt_size x
  have hT : s.TypeIs (.ref e) "enumerate" := ⟨_, he, rfl⟩
  unfold Builtin.List.listExtendWith
  refine wpAny_bind (wpAny_typeOf (T := "enumerate") hT ?_)
  have h1 : Builtin.List.listSameRef (.ref S) (.ref e) = false := by simp [Builtin.List.listSameRef, eS.symm]
  have h2 : (Value.type "enumerate" == Value.type "list") = false := by decide
  have h3 : (Value.type "enumerate" == Value.type "tuple") = false := by decide
  simp only [h1, h2, h3, Bool.or_false, Bool.false_eq_true, if_false]
  refine wpAny_bind (wpAny_pyIter_enum he ?_)
  refine wpAny_bind (wpAny_holding ?_)
  unfold Builtin.List.listLengthHint
  refine wpAny_bind (wpAny_specialOf hT nolen_en ?_)
  show wpAny _ _ (specialOf (Value.ref e) (Str.ofString "__length_hint__") >>= _) _ _ _
  refine wpAny_bind (wpAny_specialOf hT nohint_en ?_)
  refine wpAny_pure ?_
  show wpAny _ _ (rule "list.extend.makes-room" >>= fun _ => Builtin.List.listTouch (.ref S) >>= fun _ => again (.builtin "list.extend.loop" ⟨[.ref S, .ref e, res], []⟩)) _ _ _
  refine wpAny_bind (wpAny_rule ?_)
  refine wpAny_bind ?_
  show wpAny _ _ (updateSeq S (·.push .none) >>= fun _ => updateSeq S (·.pop)) _ _ _
  refine wpAny_bind (wpAny_updateSeq hS rfl ?_)
  have hS₂ := Heap.get?_update_self (Obj.mapSeq (·.push Value.none)) hS rfl
  refine wpAny_updateSeq (hz := by seq_fits) hS₂ rfl ?_
  have hS₃ := Heap.get?_update_self (Obj.mapSeq (·.pop)) hS₂ rfl
  have oth : ∀ b o, b ≠ S → s.heap.get? b = some o → ((s.heap.update S (Obj.mapSeq (·.push Value.none))).update S (Obj.mapSeq (·.pop))).get? b = some o :=
    fun b o hb e => (Heap.get?_update_other _ _ (Ne.symm hb)).trans ((Heap.get?_update_other _ _ (Ne.symm hb)).trans e)
  refine wpAny_pure ⟨plainId_quiet PySem.F.plain_extend_loop _, ?_⟩
  have lt3 := Heap.lt_size hS₃
  refine el_loop (lo := s.heap.objs.size - 1) (h₁ := s.heap) (its := its) hh eS iS hne lS le li hn res (Nat.le_sub_one_of_lt Sl) (Nat.le_sub_one_of_lt el) (Nat.le_sub_one_of_lt il) hR its.size 0 _ _ _ #[] [] (Nat.sub_zero _) (Nat.zero_le _) ⟨hit.at fun o x => oth it o iS x, .inl ⟨rfl, oth e _ eS he⟩⟩ (hl.at fun o x => oth l o lS x) (fun b o hb _ _ x => oth b o hb x) hS₃ rfl rfl
    ⟨List.Pairwise.nil, (fun _ ha => nomatch ha), (fun j a hj => by simp at hj)⟩ ?_
  have z : ((s.heap.update S (Obj.mapSeq (·.push Value.none))).update S (Obj.mapSeq (·.pop))).objs.size = s.heap.objs.size := by simp
  rw [z]
  exact Nat.sub_one_lt (Nat.ne_of_gt (Nat.lt_of_le_of_lt (Nat.zero_le _) Sl))
theorem el_init {R : Result → Shared → Prop} (hh : A.handled = none) (hne : e ≠ it) (le : l ≠ e) (li : l ≠ it) (hl : s.heap.IsList l its) (he : IsEnum s.heap e it 0 .none) (hit : s.heap.IsListIter it l 0) (S : Addr) (eS : e ≠ S) (iS : it ≠ S) (lS : l ≠ S) (hS : s.heap.get? S = some { cls := .type "list", data := .seq #[] })
    (hR : ∀ h' tk acc c as, (∀ b o, b ≠ S → b ≠ e → b ≠ it → s.heap.get? b = some o → h'.get? b = some o) → h'.get? S = some { cls := .type "list", dict := none, data := .seq acc c, slots := #[] } → as.length = its.size → ElG its (s.heap.objs.size - 1) h' as →
      acc.toList = as.map Value.ref → R (.ok (.ret .none)) { s with heap := h', toks := tk }) (hn : its.size ≤ sizeLine) :
    wpAny (model prog w) A.in1 (Builtin.«list.__init__» ⟨[.ref S, .ref e], []⟩)
      (fun fin s' => match fin with | .done f => R (.ok f) s' | .again c' => c'.quiet = true ∧ codeAny (model prog w) A c' R s') (fun e s' => R (.error e) s') s := by
  show wpAny _ _ (do let old ← Builtin.List.listItems (.ref S); Builtin.List.listUpdate (.ref S) (fun _ => #[]); letGo old.toList.reverse; Builtin.List.listExtendWith (.ref S) (.ref e) .none) _ _ s
  refine wpAny_bind ?_
  unfold Builtin.List.listItems
  refine wpAny_bind (wpAny_seqItems hS rfl (wpAny_pure ?_))
  show wpAny _ _ (updateSeq S (fun _ => #[]) >>= fun _ => letGo (#[] : Array Value).toList.reverse >>= fun _ => Builtin.List.listExtendWith (.ref S) (.ref e) .none) _ _ s
  refine wpAny_bind (wpAny_updateSeq hS rfl ?_)
  have hS₂ := Heap.get?_update_self (Obj.mapSeq (fun _ => (#[] : Array Value))) hS rfl
  have oth : ∀ b o, b ≠ S → s.heap.get? b = some o → (s.heap.update S (Obj.mapSeq (fun _ => (#[] : Array Value)))).get? b = some o :=
    fun b o hb e => (Heap.get?_update_other _ _ (Ne.symm hb)).trans e
  refine wpAny_bind (wpAny_letGo ?_)
  have z : (s.heap.update S (Obj.mapSeq (fun _ => (#[] : Array Value)))).objs.size = s.heap.objs.size := by simp
  refine el_extend (its := its) hh hne le li (hl.at fun o x => oth l o lS x) (oth e _ eS he) (hit.at fun o x => oth it o iS x) S eS iS lS .none _ hS₂ (fun h' tk acc c as hk hS' hll hG hacc => ?_) hn
  dsimp only at hG
  rw [z] at hG
  exact hR h' tk acc c as (fun b o hb h2 h3 e => hk b o hb h2 h3 (oth b o hb e)) hS' hll hG hacc
theorem el_call {Q : Value → Shared → Prop} (hh : A.handled = none) (hne : e ≠ it) (le : l ≠ e) (li : l ≠ it) (hl : s.heap.IsList l its) (he : IsEnum s.heap e it 0 .none) (hit : s.heap.IsListIter it l 0) (hn : its.size ≤ sizeLine)
    (hQ : ∀ h' tk acc c as, (∀ b o, b ≠ e → b ≠ it → s.heap.get? b = some o → h'.get? b = some o) → h'.get? s.heap.objs.size = some { cls := .type "list", dict := none, data := .seq acc c, slots := #[] } → as.length = its.size → ElG its s.heap.objs.size h' as →
      acc.toList = as.map Value.ref → Q (.ref s.heap.objs.size) { s with heap := h', toks := tk }) :
    wpAny (model prog w) A (call (.type "list") [.ref e]) Q E s := by
  refine callType_codes (Q₁ := fun obj s₁ => obj = .ref s.heap.objs.size ∧ s₁ = { s with heap := s.heap.push { cls := .type "list", data := .seq #[] } }) PySem.F.called_list (PySem.F.typeCall_list_1 _) PySem.F.entry_list_init
    (code_list_new _ ⟨rfl, rfl⟩) fun obj s₁ h₁ => ?_
  obtain ⟨rfl, rfl⟩ := h₁
  have hS : (s.heap.push { cls := .type "list", data := .seq #[] }).get? s.heap.objs.size = some { cls := .type "list", data := .seq #[] } := Heap.get?_push_size _ rfl
  have el : e < s.heap.objs.size := Heap.lt_size he
  have il : it < s.heap.objs.size := by
    obtain ⟨_, x, _⟩ := id hit
    exact Heap.lt_size x
  have ll : l < s.heap.objs.size := by
    obtain ⟨_, x, _⟩ := id hl
    exact Heap.lt_size x
  refine ⟨⟨_, hS, rfl⟩, PySem.F.args_list_init_2 _ _, el_init (its := its) (A := A.in1) hh hne le li (hl.at fun o x => Heap.get?_push_of_some _ x) (Heap.get?_push_of_some _ he) (hit.at fun o x => Heap.get?_push_of_some _ x) _ (Nat.ne_of_lt el) (Nat.ne_of_lt il) (Nat.ne_of_lt ll) hS (fun h' tk acc c as hk hS' hll hG hacc => ?_) hn⟩
  have z : (s.heap.push { cls := .type "list", data := .seq #[] }).objs.size = s.heap.objs.size + 1 := Heap.size_push ..
  dsimp only at hG
  rw [z] at hG
  exact ⟨rfl, hQ h' tk acc c as (fun b o h2 h3 x => hk b o (Nat.ne_of_lt (Heap.lt_size x)) h2 h3 (Heap.get?_push_of_some _ x)) hS' hll hG hacc⟩
end
end L2.EL
/-! list(enumerate(xs)): the rule -/
namespace L2.TB
open PySem PySem.Spec PyProof.Rows
/-- the pairs, each a new tuple, in a new list -/
def tListEn (K : PySem.W.Frag) (te : TE) : TE := fun σ H Q => te σ H fun x H1 => ∃ (a : Addr) (xs : List V), x = .ref a ∧ SqL K H1 a xs ∧ ∀ (H' : Hp) (q : Addr) (ts : List Addr), Same H1 H' → H1 q = none → H' q = some (.lst (ts.map V.ref)) → ts.length = xs.length →
  (∀ (j : Nat) (t : Addr) (x : V), ts[j]? = some t → xs[j]? = some x → H1 t = none ∧ H' t = some (.tup [.int (j : Nat), x])) → Q (.ref q) H'
theorem pe_listEn {X : Cx} {inner : Expr} {te : TE} {pL pS qL qS : Pos} (calm : X.calm = true) (gl : Gl X "list") (nl : X.mg "list" = none) (gs : Gl X "enumerate") (ns : X.mg "enumerate" = none) (hin : PE X inner te)
    (plain : starEach [inner] X.env = (false, eval inner X.env) :: starEach [] X.env := by rfl) : PE X (.Call (.Name "list" pL) [.Call (.Name "enumerate" pS) [inner] [] qS] [] qL) (tListEn X.K te) := by
  refine ⟨fun pins st σ H Q inv reading => ?_⟩
  have gone := hin.run pins st σ H _ inv reading
  refine Call_ (ld_blt inv gl nl boot_list' (PyProof.Rows.callWith_type1 (PyProof.Rows.args_cons ?_ rfl) rfl rfl))
  refine Call_ (ld_blt inv gs ns boot_enumerate (PyProof.Rows.callWith_type1 (PyProof.Rows.args_cons (thn gone ?_) plain) plain rfl))
  rintro u sA ⟨y, HA, IA, same, a, xs, rfl, at_, q⟩
  cases same
  refine PyProof.Rows.args_nil ?_
  obtain ⟨items, vals, isL, zs⟩ := IA.list at_
  have size : items.toArray.size = xs.length := by
    rw [List.size_toArray, ← vals.length]
  have al : a < sA.heap.objs.size := by
    obtain ⟨_, x, _⟩ := isL.isList
    exact Heap.lt_size x
  refine call_enumerate_list isL.isList fun h1 he hit hz hk => ?_
  refine PyProof.Rows.args_nil ?_
  refine EL.el_call (s := { sA with heap := h1 }) (l := a) (its := items.toArray) (IA.ok.hd calm) (Nat.succ_ne_self _) (Nat.ne_of_lt (Nat.lt_succ_of_lt al)) (Nat.ne_of_lt al) (isL.isList.at fun o x => hk a o x) he hit (by rw [size]; exact zs) fun h' tk acc c as keep oL la mk ea => ?_
  have keepA : ∀ b o, sA.heap.get? b = some o → h'.get? b = some o := fun b o x => keep b o (Nat.ne_of_lt (Nat.lt_succ_of_lt (Heap.lt_size x))) (Nat.ne_of_lt (Heap.lt_size x)) (hk b o x)
  have zle : sA.heap.objs.size ≤ h1.objs.size := by rw [hz]; exact Nat.le_add_right _ 2
  have low : ∀ t ∈ as, h1.objs.size < t := mk.above
  have unlike : as.Nodup := List.Pairwise.imp (fun {a b} (h : a < b) => Nat.ne_of_lt h) mk.rise
  have newS : HA h1.objs.size = none := IA.hok.fresh zle
  have newT : ∀ t ∈ as, HA t = none := fun t ht => IA.hok.fresh (Nat.le_trans zle (Nat.le_of_lt (low t ht)))
  have lae : as.length = xs.length := by rw [la, size]
  have relS : Vals (as.map V.ref) acc.toList := by rw [ea]; exact LiI.vals_refs as
  have IC : Inv X pins σ (upd HA h1.objs.size (.lst (as.map V.ref))) { sA with heap := h', toks := tk } := IA.laid (t' := tk) keepA zle ⟨by rw [List.length_map, lae]; exact zs, acc.toList, c, relS, by rw [Array.toArray_toList]; exact oL⟩
  obtain ⟨HD, ID, grow, at2⟩ := DX.takeT (P := fun t vs => ∀ (j : Nat) (x : V), as[j]? = some t → xs[j]? = some x → vs = [.int (j : Nat), x]) IA as _ IC unlike fun t ht => by
    refine ⟨Nat.le_trans zle (Nat.le_of_lt (low t ht)), by rw [upd_ne (Nat.ne_of_gt (low t ht))]; exact newT t ht, ?_⟩
    obtain ⟨j, hj⟩ := List.mem_iff_getElem?.mp ht
    have lt : j < xs.length := by rw [← lae]; exact (List.getElem?_eq_some_iff.mp hj).1
    obtain ⟨hji, tt, obT⟩ := mk.pairs j t hj
    have ex : xs[j]? = some xs[j] := List.getElem?_eq_getElem lt
    obtain ⟨u, eu, ru⟩ := vals.get ex
    have eu2 : items.toArray[j] = u := by
      have z : items[j]? = some (items.toArray[j]) := by simp
      rw [eu] at z
      exact (Option.some.inj z).symm
    refine ⟨[.int (j : Nat), xs[j]], fun i x e1 e2 => ?_, fun H2 => ⟨by show 2 ≤ sizeLine; decide, [.int j tt, items.toArray[j]], .cons ⟨tt, rfl⟩ (.cons (by rw [eu2]; exact ru) .nil), ⟨_, obT, rfl, _, rfl⟩⟩⟩
    obtain rfl : i = j := (List.getElem?_inj (List.getElem?_eq_some_iff.mp e1).1 unlike).mp (e1.trans hj.symm)
    rw [ex] at e2
    rw [← Option.some.inj e2]
  have same : Same HA HD := fun b o z => grow b o (by rw [upd_ne (ne_of_none z newS)]; exact z)
  refine ⟨.ref _, HD, ID, rfl, q HD _ as same newS (grow _ _ upd_same) lae fun j t x e1 e2 => ⟨newT t (List.mem_of_getElem? e1), ?_⟩⟩
  obtain ⟨vs, pv, ot⟩ := at2 t (List.mem_of_getElem? e1)
  rw [ot, pv j x e1 e2]
end L2.TB
/-! what the law keeps from turn to turn -/
namespace L2.TB
open PySem PySem.Spec PyProof.Rows
theorem strs_of : ∀ ys : List V, (∀ y ∈ ys, ∃ x, y = V.str x) → ∃ ks : List Str, ys = ks.map V.str
  | [], _ => ⟨[], rfl⟩
  | y :: ys, h => by
    obtain ⟨x, rfl⟩ := h y List.mem_cons_self
    obtain ⟨ks, rfl⟩ := strs_of ys fun z hz => h z (List.mem_cons_of_mem _ hz)
    exact ⟨x :: ks, rfl⟩
theorem some_strs {ns : List Str} {ys zs : List V} (pm : (ys ++ zs).Perm (ns.map V.str)) (nnd : ns.Nodup) : ∃ known : List Str, ys = known.map V.str ∧ known.Nodup ∧ ∀ x ∈ known, x ∈ ns := by
  have yin : ∀ y ∈ ys, ∃ x, y = V.str x := fun y hy => by
    have z : y ∈ ns.map V.str := pm.mem_iff.mp (List.mem_append_left _ hy)
    obtain ⟨x, _, rfl⟩ := List.mem_map.mp z
    exact ⟨x, rfl⟩
  obtain ⟨known, rfl⟩ := strs_of ys yin
  have ndall : (known.map V.str ++ zs).Nodup := pm.nodup_iff.mpr (List.Pairwise.map V.str (fun a b h e => h (V.str.inj e)) nnd)
  refine ⟨known, rfl, ?_, fun x hx => ?_⟩
  · have z := (List.nodup_append.mp ndall).1
    exact (List.pairwise_map.mp z).imp fun h e => h (congrArg V.str e)
  · have z : V.str x ∈ ns.map V.str := pm.mem_iff.mp (List.mem_append_left _ (List.mem_map_of_mem hx))
    obtain ⟨y, hy, e⟩ := List.mem_map.mp z
    exact V.str.inj e ▸ hy
structure TbR (H : Hp) (CT a nm : Addr) (ns : List Str) (tbl : List (List Int)) (y : Str) : Prop where
  t : TabAt H CT a ns tbl
  o : H nm = some (.lst (ns.map V.str))
  nd : ns.Nodup
  sh : ns.length ≤ 10
  pos : 0 < tbl.length
  few : tbl.length ≤ 10
  ok : ∀ x ∈ ns, NmOk x
  yin : y ∈ ns
theorem TbR.same {H H' : Hp} {CT a nm : Addr} {ns : List Str} {tbl : List (List Int)} {y : Str} (h : TbR H CT a nm ns tbl y) (s : Same H H') : TbR H' CT a nm ns tbl y := ⟨h.t.same s, s _ _ h.o, h.nd, h.sh, h.pos, h.few, h.ok, h.yin⟩
theorem TabAt.but {H H' : Hp} {C a l ls : Addr} {N : Int} {ns : List Str} {tbl : List (List Int)} (t : TabAt H C a ns tbl) (S : Strm H l ls N) (b : But l ls H H') (ne : ns ≠ []) (tn : 0 < tbl.length) : TabAt H' C a ns tbl := by
  obtain ⟨cs, g, k, m, S⟩ := S
  obtain ⟨dx, qa, ra, ha, hq, ps, hr, pr⟩ := t.ex
  obtain ⟨y, ns', rfl⟩ : ∃ y ns', ns = y :: ns' := by
    cases ns with
    | nil => exact absurd rfl ne
    | cons y r => exact ⟨y, r, rfl⟩
  have l1 := Paired.length pr
  have k1 : ∀ {p : Addr} {o : HO}, H p = some o → (∀ xs, o ≠ .lst xs) → H' p = some o := fun {p o} e n => b _ _ (fun z => by rw [z, S.o] at e; exact n _ (Option.some.inj e).symm) (fun z => by rw [z, S.c] at e; exact n _ (Option.some.inj e).symm) e
  refine ⟨dx, qa, ra, k1 ha (fun _ z => by cases z), b _ _ (fun z => ?_) (fun z => ?_) hq, ps, b _ _ (fun z => ?_) (fun z => ?_) hr, Paired.mapP pr fun p us h => ⟨k1 h.1 (fun _ z => by cases z), h.2⟩⟩
  · rw [z, S.o] at hq
    cases hq
  · rw [z, S.c] at hq
    have e := HO.lst.inj (Option.some.inj hq)
    cases cs with
    | nil => cases e
    | cons c r => cases e
  · rw [z, S.o] at hr
    have e := HO.lst.inj (Option.some.inj hr)
    match ps, e with
    | [_, _, _, _], e => simp at e
  · rw [z, S.c] at hr
    have e := HO.lst.inj (Option.some.inj hr)
    match ps, cs, e with
    | [], _, _ => simp at l1; omega
    | p :: r, [], e => cases e
    | p :: r, c :: r2, e => simp at e
/-- a turn's table, rows, names, and the questions that may be put -/
structure TurnS (H : Hp) (CT x nm l ls rr oL : Addr) (ns : List Str) (as : List Addr) (tbl : List (List Int)) (y : Str) (of : List Str) : Prop where
  B : TbR H CT x nm ns tbl y
  nml : nm ≠ l ∧ nm ≠ ls
  orr : H rr = some (.lst (as.map V.ref))
  rl : rr ≠ l ∧ rr ≠ ls
  R : RowsAt H l ls ns as tbl
  oo : H oL = some (.lst (of.map V.str))
  ol : oL ≠ l ∧ oL ≠ ls
  nof : of.Nodup
  sub : ∀ z ∈ of, z ∈ ns
  nms : ∀ x ∈ ns, NmS x
section
variable {H H' : Hp} {CT x nm l ls rr oL : Addr} {ns : List Str} {as : List Addr} {tbl : List (List Int)} {y : Str} {of : List Str} {N : Int}
theorem TurnS.but (h : TurnS H CT x nm l ls rr oL ns as tbl y of) (S : Strm H l ls N) (b : But l ls H H') : TurnS H' CT x nm l ls rr oL ns as tbl y of :=
  ⟨⟨h.B.t.but S b (fun z => by have := h.B.yin; rw [z] at this; cases this) h.B.pos, b _ _ h.nml.1 h.nml.2 h.B.o, h.B.nd, h.B.sh, h.B.pos, h.B.few, h.B.ok, h.B.yin⟩, h.nml, b _ _ h.rl.1 h.rl.2 h.orr, h.rl, h.R.but b, b _ _ h.ol.1 h.ol.2 h.oo, h.ol, h.nof, h.sub, h.nms⟩
theorem TurnS.same (h : TurnS H CT x nm l ls rr oL ns as tbl y of) (s : Same H H') : TurnS H' CT x nm l ls rr oL ns as tbl y of :=
  ⟨h.B.same s, h.nml, s _ _ h.orr, h.rl, h.R.but (.of s), s _ _ h.oo, h.ol, h.nof, h.sub, h.nms⟩
theorem TurnS.d (h : TurnS H CT x nm l ls rr oL ns as tbl y of) : DRows H ns as tbl := Paired.mapP h.R fun a vs h => ⟨h.1, h.2.1⟩
theorem TurnS.lof (h : TurnS H CT x nm l ls rr oL ns as tbl y of) : of.length ≤ 10 := Nat.le_trans (nodup_le h.nof h.sub) h.B.sh
theorem TurnS.ofAt {K : PySem.W.Frag} (h : TurnS H CT x nm l ls rr oL ns as tbl y of) : OfAt K H ns (.ref oL) of := ofAt_list h.oo h.nof h.sub (by have := h.lof; omega)
theorem TurnS.ask {K : PySem.W.Frag} (h : TurnS H CT x nm l ls rr oL ns as tbl y of) : AskOk K H CT x ns tbl y (.ref oL) of := ⟨h.B.t, h.B.nd, h.B.sh, h.B.pos, h.B.few, h.B.yin, .inl h.ofAt⟩
theorem TurnS.askD {K : PySem.W.Frag} (h : TurnS H CT x nm l ls rr oL ns as tbl y of) : AskOk K H CT x ns tbl y .non (ns.filter fun z => decide (z ≠ y)) := ⟨h.B.t, h.B.nd, h.B.sh, h.B.pos, h.B.few, h.B.yin, .inr ⟨rfl, rfl⟩⟩
end
theorem max_is {f : Nat → Nat} {n : Nat} {c : Int} (h1 : ∀ i, i < n → (f i : Int) ≤ c) (h2 : ∃ i, i < n ∧ (f i : Int) = c) : maxF f n = c := by
  obtain ⟨a, b⟩ := maxF_le f n
  obtain ⟨i, hi, e⟩ := h2
  have := a i hi
  rcases b with b | ⟨j, hj, b⟩
  · omega
  · have := h1 j hj
    omega
theorem sum_nn {l : List Int} {f : Nat → Nat} (hl : ∀ z ∈ l, 0 < z) : ∀ n, 0 ≤ sumF l f n
  | 0 => Int.le_refl _
  | n + 1 => by
    have i := sum_nn (f := f) hl n
    show 0 ≤ sumF l f n + (f n : Int) * l.getD n 0
    have g : 0 ≤ l.getD n 0 := by
      rw [List.getD_eq_getElem?_getD]
      cases e : l[n]? with
      | none => exact Int.le_refl _
      | some z => exact Int.le_of_lt (hl z (List.mem_of_getElem? e))
    have := Int.mul_nonneg (Int.natCast_nonneg (f n)) g
    omega
end L2.TB
/-! the law: what is asked of a turn -/
namespace L2.TB
open PySem PySem.Spec PyProof.Rows
abbrev NLw : List Str := ["script", "stream", "turn", "rows", "table", "names", "asked", "of", "weights", "own", "due", "lightest", "told", "mean", "name", "row", "n"]
theorem scLaw : FnScope NLw ["script"] (defScope sLaw) := ⟨rfl, rfl, rfl, by decide +kernel, rfl, by decide +kernel, by decide +kernel⟩
def bodyL : List Stmt := match (defBody sLaw).getD 1 (.Pass ⟨0, 0, 0, 0⟩) with
  | .For _ _ b _ _ => b
  | _ => []
theorem boot_sumA : bootBuiltins "sum" = some (.builtin "sum") := by decide +kernel
theorem boot_allA : bootBuiltins "all" = some (.builtin "all") := by decide +kernel
/-- what a turn reads -/
structure LawQ (P : Program) (w : World) (K : PySem.W.Frag) (mg : Str → Option Value) (base : Heap) (CT CQ CK CN : Addr) : Prop where
  C : CallsP P w K mg base CT CQ CK CN
  T : TabC K CT
  draw : ∃ f fd, mg "_law_draw" = some (.ref f) ∧ PySem.W.keepIn K (.ref f) = true ∧ FnOk P w K mg base CX0 1 f fd ["stream", "many"] spDraw ∧ Binds K fd ["stream", "many"] []
  pick : ∃ f fd, mg "_law_pick" = some (.ref f) ∧ PySem.W.keepIn K (.ref f) = true ∧ FnOk P w K mg base CX0 2 f fd ["stream", "some"] (spPick K) ∧ Binds K fd ["stream", "some"] []
  least : ∃ f fd, mg "_law_least" = some (.ref f) ∧ PySem.W.keepIn K (.ref f) = true ∧ FnOk P w K mg base CX0 12 f fd ["rows", "asked", "of", "weights"] spLeastA ∧ Binds K fd ["rows", "asked", "of", "weights"] []
  finds : ∃ f fd, mg "_law_finds" = some (.ref f) ∧ PySem.W.keepIn K (.ref f) = true ∧ FnOk P w K mg base CX0 1 f fd ["rows", "asked", "tree"] spFindsL ∧ Binds K fd ["rows", "asked", "tree"] []
  cost : ∃ f fd, mg "_law_cost" = some (.ref f) ∧ PySem.W.keepIn K (.ref f) = true ∧ FnOk P w K mg base CX0 1 f fd ["rows", "tree", "weights"] spCostL ∧ Binds K fd ["rows", "tree", "weights"] []
  low : ∃ f fd, mg "_law_lowest" = some (.ref f) ∧ PySem.W.keepIn K (.ref f) = true ∧ FnOk P w K mg base CX0 1 f fd ["top", "bottom"] spLowest ∧ Binds K fd ["top", "bottom"] []
  same : ∃ f fd, mg "_law_same" = some (.ref f) ∧ PySem.W.keepIn K (.ref f) = true ∧ FnOk P w K mg base CX0 2 f fd ["found", "due"] (spSameF 1) ∧ Binds K fd ["found", "due"] []
  hr : ∃ f fd, mg "_law_holds_right" = some (.ref f) ∧ PySem.W.keepIn K (.ref f) = true ∧ FnOk P w K mg base CX0 45 f fd ["table", "asked", "of", "due"] (spHr K CT) ∧ Binds K fd ["table", "asked", "of", "due"] []
  dr : ∃ f fd, mg "_law_defaults_right" = some (.ref f) ∧ PySem.W.keepIn K (.ref f) = true ∧ FnOk P w K mg base CX0 46 f fd ["table", "asked", "names", "weights"] (spDr K CT) ∧ Binds K fd ["table", "asked", "names", "weights"] []
  told : ∃ f fd, Meth K CT "is_told" f ∧ FnOk P w K mg base CX0 5 f fd ["self", "known", "asked"] (spIsTold K CT) ∧ Binds K fd ["self", "known", "asked"] []
  nR : mg "range" = none
  nA : mg "all" = none
  nSm : mg "sum" = none
  nT : mg "tuple" = none
  nL : mg "list" = none
  nE : mg "enumerate" = none
section
variable {P : Program} {w : World} {K : PySem.W.Frag} {mg : Str → Option Value} {base : Heap} {f CT CQ CK CN : Addr} {cdv : Value} {A : Around} {outer : List Env} {s : Shared} {H : Hp} {E : XK}
theorem lw_end (L : LawQ P w K mg base CT CQ CK CN) (hr : Room 46 (A.deeper (envOfC "law" (defScope sLaw) s.heap.objs.size f cdv))) :
    ∃ t, PSs (cxOf CX0 P w K mg base NLw "law" (defScope sLaw) f cdv A outer s H E).nox (bodyL.drop 11) t ∧ ∀ (D : Ends) (H0 : Hp) (x nm l ls rr oL wp : Addr) (ns : List Str) (as : List Addr) (tbl : List (List Int)) (y : Str) (of : List Str) (wl : List Int) (N : Int) (vt vm : V) (s0 s2 s9 : Option V),
      TurnS H0 CT x nm l ls rr oL ns as tbl y of → H0 wp = some (.lst (wl.map V.int)) → wl.length = tbl.length → (∀ z ∈ wl, 0 < z ∧ z ≤ 100) → FewR (fun _ => True) (says ns tbl) y of (allP tbl) H0 vt → MeanR (fun _ => True) wl (says ns tbl) y of (allP tbl) H0 vm →
      (∀ H', Same H0 H' → D.nx [s0, some (.ref l), s2, some (.ref rr), some (.ref x), some (.ref nm), some (.str y), some (.ref oL), some (.ref wp), s9, some (optZ (bestS none (says ns tbl) y of (allP tbl)).1), some (optZ (bestS (some wl) (says ns tbl) y of (allP tbl)).1), some vt, some vm, none, none, none] H') →
      t D [s0, some (.ref l), s2, some (.ref rr), some (.ref x), some (.ref nm), some (.str y), some (.ref oL), some (.ref wp), s9, some (optZ (bestS none (says ns tbl) y of (allP tbl)).1), some (optZ (bestS (some wl) (says ns tbl) y of (allP tbl)).1), some vt, some vm, none, none, none] H0 := by
  obtain ⟨fH, fdH, gH, kH, GH, bH, _⟩ := L.C.hold
  obtain ⟨fI, fdI, gI, kI, GI, bI, _⟩ := L.C.isH
  obtain ⟨fT, fdT, gT, kT, GT, bT, _⟩ := L.C.tree
  obtain ⟨fF, fdF, gF, kF, GF, bF⟩ := L.finds
  obtain ⟨fC, fdC, gC, kC, GC, bC⟩ := L.cost
  obtain ⟨fL, fdL, gL, kL, GL, bL⟩ := L.low
  obtain ⟨fS, fdS, gS, kS, GS, bS⟩ := L.same
  obtain ⟨fR, fdR, gR, kR, GR, bR⟩ := L.hr
  obtain ⟨fM, fdM, mM, GM, bM⟩ := L.told
  have nd := scLaw.nd
  have T0' : ∀ {X : Cx} (σ : L2.St), PassesAt (L2.CX X.prog X.w) X σ (WE (fun _ _ _ _ => False) σ) := fun σ => passAt LamX.takes0 σ
  refine ⟨_, pss_one (ps_if (pt_cmp (pc_isN (pv 10)))
    (pss_cons (ps_if (PW.pt (pw_or (pt_cmp (pc_notN (pv 12))) (pw_or (pt_cmp (pc_notN (pv 13))) (pw_or1 (pt_val (pe_meth (pv 4) L.T.cl mM GM (hr.mono (by decide)) bM .nil pass0 (pa_cons (pv 7) (pa_cons (pv 6) pa_nil)))))))) (pss_one ps_never) pss_nil)
    (pss_one (ps_if (pt_not (pt_val (pe_callB (cr_all rfl) rfl L.nA boot_allA (pa_cons (pe_lc (own := [("n", 16)]) (g := gName 16) (tt := tYes) rfl nd (pi_range1 rfl L.nR (pa_cons pe_int pa_nil)) (blkOk_by (N := NLw) (sc := defScope sLaw) (by decide +kernel)) (fun _ _ _ _ _ => pg_name (i := 16) nd rfl (Or.inl rfl)) (fun _ _ _ _ _ => pts_nil)
        (fun _ _ _ _ _ => pe_callS GI (hr.mono (by decide)) rfl gI kI bI T0' (pa_cons (pv 4) (pa_cons (pv 6) (pa_cons (pv 16) (pa_cons (pe_callS GH (hr.mono (by decide)) rfl gH kH bH T0' (pa_cons (pv 4) (pa_cons (pv 6) (pa_cons (pv 16) (pa_cons (pv 7) pa_nil))))) (pa_cons (pv 7) pa_nil))))))) pa_nil)))) (pss_one ps_never) pss_nil)))
    (pss_cons (ps_if (PW.pt (pw_or (pt_not (pt_val (pe_call GS (hr.mono (by decide)) rfl gS kS bS .nil pass0 (pa_cons (pe_ix (r := rIxT K) ix_tup (pv 12) pe_int (fun _ _ => rfl)) (pa_cons (pv 10) pa_nil))))) (pw_or1 (pt_not (pt_val (pe_call GF (hr.mono (by decide)) rfl gF kF bF .nil pass0 (pa_cons (pv 3) (pa_cons (pv 6) (pa_cons (pe_ix (r := rIxT K) ix_tup (pv 12) pe_int (fun _ _ => rfl)) pa_nil))))))))) (pss_one ps_never) pss_nil)
    (pss_cons (ps_if (PW.pt (pw_or (pt_cmpR op_ne (pe_ix (r := rIxT K) ix_tup (pe_call GC (hr.mono (by decide)) rfl gC kC bC .nil pass0 (pa_cons (pv 3) (pa_cons (pe_ix (r := rIxT K) ix_tup (pv 12) pe_int (fun _ _ => rfl)) (pa_cons (pv 8) pa_nil)))) pe_int (fun _ _ => rfl)) (pv 10) (nomark _)) (pw_or1 (pt_cmpR op_notBl (pe_callS GT (hr.mono (by decide)) rfl gT kT bT T0' (pa_cons (pv 4) (pa_cons (pv 6) (pa_cons (pe_ix (r := rIxT K) ix_tup (pv 12) pe_int (fun _ _ => rfl)) (pa_cons (pv 7) pa_nil))))) pe_bl (nomark _))))) (pss_one ps_never) pss_nil)
    (pss_cons (ps_if (PW.pt (pw_or (pt_not (pt_val (pe_call GS (hr.mono (by decide)) rfl gS kS bS .nil pass0 (pa_cons (pe_ix (r := rIxT K) ix_tup (pv 13) pe_int (fun _ _ => rfl)) (pa_cons (pe_call GL (hr.mono (by decide)) rfl gL kL bL .nil pass0 (pa_cons (pv 11) (pa_cons (pe_callB (r := rSum K) (cr_sum rfl) rfl L.nSm boot_sumA (pa_cons (pv 8) pa_nil)) pa_nil))) pa_nil))))) (pw_or1 (pt_not (pt_val (pe_call GF (hr.mono (by decide)) rfl gF kF bF .nil pass0 (pa_cons (pv 3) (pa_cons (pv 6) (pa_cons (pe_ix (r := rIxT K) ix_tup (pv 13) pe_int (fun _ _ => rfl)) pa_nil))))))))) (pss_one ps_never) pss_nil)
    (pss_cons (ps_if (PW.pt (pw_or (pt_cmpR op_ne (pe_ix (r := rIxT K) ix_tup (pe_call GC (hr.mono (by decide)) rfl gC kC bC .nil pass0 (pa_cons (pv 3) (pa_cons (pe_ix (r := rIxT K) ix_tup (pv 13) pe_int (fun _ _ => rfl)) (pa_cons (pv 8) pa_nil)))) pe_int (fun _ _ => rfl)) (pv 11) (nomark _)) (pw_or1 (pt_cmpR op_notBl (pe_callS GT (hr.mono (by decide)) rfl gT kT bT T0' (pa_cons (pv 4) (pa_cons (pv 6) (pa_cons (pe_ix (r := rIxT K) ix_tup (pv 13) pe_int (fun _ _ => rfl)) (pa_cons (pv 7) pa_nil))))) pe_bl (nomark _))))) (pss_one ps_never) pss_nil)
    (pss_one (ps_if (pt_not (pt_val (pe_call GR (hr.mono (by decide)) rfl gR kR bR .nil pass0 (pa_cons (pv 4) (pa_cons (pv 6) (pa_cons (pv 7) (pa_cons (pv 10) pa_nil))))))) (pss_one ps_never) pss_nil))))))), ?_⟩
  intro D H0 x nm l ls rr oL wp ns as tbl y of wl N vt vm s0 s2 s9 U ow lw hw rt rm fin
  have few := U.B.few
  have pos := U.B.pos
  have nsh := U.B.sh
  have free := none_free (sy := says ns tbl) (x := y) (of := of) none (some wl) _ (allP tbl) (Nat.le_refl _)
  cases hb : (bestS none (says ns tbl) y of (allP tbl)).1 with
  | none =>
    have hb2 := free.mp hb
    have hard : ∀ d, hardP (bestS none (says ns tbl) y of (allP tbl)).1 d = true := fun d => by rw [hb]; rfl
    obtain rfl : vt = .non := by
      rcases rt with ⟨_, e⟩ | ⟨c, _, _, _, e, _⟩
      · exact e
      · rw [hb] at e; cases e
    obtain rfl : vm = .non := by
      rcases rm with ⟨_, e⟩ | ⟨c, _, _, _, _, e, _⟩
      · exact e
      · rw [hb2] at e; cases e
    have fin0 := fin
    rw [hb] at fin
    refine ⟨_, rfl, _, rfl, iteT ?_⟩
    obtain ⟨dx, qa, ra, hx, _⟩ := U.B.t.ex
    refine ⟨_, rfl, _, rfl, iteF ⟨_, rfl, _, rfl, iteF ?_⟩⟩
    refine ⟨_, rfl, x, dx, _, rfl, hx, rfl, _, rfl, _, rfl, x, oL, ns, of, y, tbl, rfl, ⟨U.B.t, .inl U.oo, U.nof, U.sub, by omega, by omega, U.B.nd⟩, U.B.yin, fun H1 k1 => ⟨_, rfl, ?_⟩⟩
    rw [decide_eq_false (fun hT => tells_best (ws := none) hT pos hb)]
    refine iteF ?_
    refine ⟨4, rfl, by decide, by decide, fun q nq => ?_⟩
    refine lc_range (n := 4) (fun i H' => H' q = some (.lst (bools i)) ∧ Same H1 H') ⟨upd_same, same_new nq⟩ ?_ ?_
    · rintro i H3 hi ⟨oq, k3⟩
      have U3 := (U.same k1).same k3
      refine ⟨rfl, ?_⟩
      refine ⟨_, rfl, _, rfl, _, rfl, _, rfl, _, rfl, _, rfl, _, rfl, ?_⟩
      dsimp only [tNil, tVar, tC, start]
      rw [show (0 : Int) + (i : Int) = (i : Int) from Int.zero_add _]
      refine hold_go (d := i) (of := of) U3.ask (by omega) (fun e => by rw [hard] at e; cases e) fun _ H4 v k4 hv => ?_
      refine ⟨_, rfl, ?_⟩
      dsimp only [tNil, tVar, tC, start]
      refine isHold_go (d := i) (of := of) (U3.same k4).ask (by omega) (hv.keep (fun _ _ => trivial) fun b o' _ e _ => e) fun H5 k5 => ?_
      rw [hold_holds _ (U3.ask (K := K)).lpos (hard i)]
      have k35 := k4.trans k5
      refine ⟨_, k35 _ _ oq, by unfold bools; rw [List.length_replicate, sizeLine_eq]; omega, ?_, fun b o e => ?_⟩
      · rw [upd_same]
        unfold bools
        rw [List.replicate_succ']
      · rw [upd_ne (ne_of_none e nq)]
        exact k35 _ _ (k3 _ _ e)
    · rintro H3 ⟨oq, k3⟩
      rw [bools_map] at oq
      refine ⟨q, _, rfl, SqL.of oq, _, rfl, ?_⟩
      rw [all_true]
      exact iteF (fin H3 (k1.trans k3))
  | some c =>
    obtain ⟨c2, hb2⟩ : ∃ c2, (bestS (some wl) (says ns tbl) y of (allP tbl)).1 = some c2 := by
      cases h2 : (bestS (some wl) (says ns tbl) y of (allP tbl)).1 with
      | some c2 => exact ⟨c2, rfl⟩
      | none => rw [free.mpr h2] at hb; cases hb
    rw [hb] at fin
    rw [hb2] at fin ⊢
    obtain ⟨p, tv, tr, rfl, op, qt, bt⟩ : ∃ p tv tr, vt = .ref p ∧ H0 p = some (.tup [.int c, tv]) ∧ QtAt (fun _ => True) H0 tr tv ∧ BT none (says ns tbl) y of (allP tbl) tr := by
      rcases rt with ⟨e, _⟩ | ⟨c', p, tv, tr, e, h1, _, h2, h3, h4⟩
      · rw [hb] at e; cases e
      · rw [hb] at e
        obtain rfl := Option.some.inj e
        exact ⟨p, tv, tr, h1, h2, h3, h4⟩
    obtain ⟨p1, p2, tw, tm, rfl, o2, op1, qm, bm⟩ : ∃ p1 p2 tw tm, vm = .ref p1 ∧ H0 p2 = some (.tup [.int (c2 / gcdZ c2 wl.sum), .int (wl.sum / gcdZ c2 wl.sum)]) ∧ H0 p1 = some (.tup [.ref p2, tw]) ∧ QtAt (fun _ => True) H0 tm tw ∧ BT (some wl) (says ns tbl) y of (allP tbl) tm := by
      rcases rm with ⟨e, _⟩ | ⟨c', p, p2, tv, tr, e, h1, _, _, h2, h3, h4, h5⟩
      · rw [hb2] at e; cases e
      · rw [hb2] at e
        obtain rfl := Option.some.inj e
        exact ⟨p, p2, tv, tr, h1, h2, h3, h4, h5⟩
    obtain ⟨f1, n1⟩ := bt_counts bt c hb
    obtain ⟨f2, n2⟩ := bt_counts bm c2 hb2
    have inA : ∀ {i : Nat}, i < tbl.length → i ∈ allP tbl := fun h => List.mem_range.mpr h
    have e1 : maxF f1 tbl.length = c := by
      obtain ⟨h1, i, hi, h2⟩ := n1.n rfl
      exact max_is (fun i hi => h1 i (inA hi)) ⟨i, List.mem_range.mp hi, h2⟩
    have e2 : sumF wl f2 tbl.length = c2 := by
      rw [sumF_eq]
      exact n2.s wl rfl
    have c0 : 0 ≤ c := cost_pos _ _ (Nat.le_refl _) c hb
    have c20 : 0 ≤ c2 := by
      rw [← e2]
      exact sum_nn (fun z hz => (hw z hz).1) _
    obtain ⟨cn, rfl⟩ : ∃ cn : Nat, c = (cn : Int) := ⟨c.toNat, by omega⟩
    have wne : wl ≠ [] := fun z => by rw [z] at lw; simp at lw; omega
    have ws0 := sum_pos wl wne fun z hz => (hw z hz).1
    have ws1 := sum_le wl fun z hz => (hw z hz).2
    have dr := U.d
    refine ⟨_, rfl, _, rfl, iteF ?_⟩
    -- fewest: the depth, and that the tree finds
    refine ⟨_, rfl, p, _, 0, _, rfl, rfl, SqT.of op, rfl, _, rfl, _, _, rfl, .up (.one (.int _)), fun H1 k1 => ⟨_, rfl, iteF ?_⟩⟩
    refine ⟨_, rfl, _, rfl, _, rfl, p, _, 1, _, rfl, rfl, SqT.of (k1 _ _ op), rfl, ?_⟩
    refine ⟨rr, tv, as, ns, tbl, y, of, tr, rfl, k1 _ _ U.orr, dr.same k1, U.B.nd, by omega, U.B.yin, U.sub, qt.same k1, fun i hi => ⟨_, n1.w i (inA hi)⟩, fun H2 k2 => ⟨_, rfl, iteF ?_⟩⟩
    have k02 := k1.trans k2
    -- its cost, and that it is a tree
    refine ⟨_, rfl, _, rfl, p, _, 1, _, rfl, rfl, SqT.of (k02 _ _ op), rfl, _, rfl, ?_⟩
    refine ⟨rr, wp, tv, as, ns, tbl, y, of, tr, wl, f1, rfl, k02 _ _ U.orr, dr.same k02, U.B.nd, by omega, U.sub, qt.same k02, k02 _ _ ow, lw, hw, fun i hi => n1.w i (inA hi), fun H3 pc k3 oc => ?_⟩
    have k03 := k02.trans k3
    rw [e1] at oc
    refine ⟨pc, _, 0, _, rfl, rfl, SqT.of oc, rfl, _, rfl, rfl, false, by simp [optZ], iteF ?_⟩
    refine ⟨_, rfl, _, rfl, _, rfl, p, _, 1, _, rfl, rfl, SqT.of (k03 _ _ op), rfl, _, rfl, ?_⟩
    dsimp only [tNil, tVar, tC, start]
    refine tree_go (of := of) (U.same k03).ask (qt.same k03) bt fun H4 k4 => ⟨_, _, rfl, rfl, _, rfl, iteF ?_⟩
    have k04 := k03.trans k4
    -- mean_fewest
    refine ⟨_, rfl, p1, _, 0, _, rfl, rfl, SqT.of (k04 _ _ op1), rfl, _, rfl, _, rfl, wp, _, rfl, SqL.of (k04 _ _ ow), ?_⟩
    refine ⟨c2, wl.sum, rfl, c20, ws0, by rw [lw] at ws1; omega, fun H5 pl k5 ol => ?_⟩
    have k05 := k04.trans k5
    refine ⟨_, _, rfl, ?_, fun H6 k6 => ⟨_, rfl, iteF ?_⟩⟩
    · refine .tup (k05 _ _ o2) ol rfl (by show 2 < 1000; decide) fun i u v eu ev => ?_
      rw [eu] at ev
      obtain rfl := Option.some.inj ev
      have m := List.mem_of_getElem? eu
      simp only [List.mem_cons, List.not_mem_nil, or_false] at m
      rcases m with rfl | rfl <;> exact .one (.int _)
    have k06 := k05.trans k6
    refine ⟨_, rfl, _, rfl, _, rfl, p1, _, 1, _, rfl, rfl, SqT.of (k06 _ _ op1), rfl, ?_⟩
    refine ⟨rr, tw, as, ns, tbl, y, of, tm, rfl, k06 _ _ U.orr, dr.same k06, U.B.nd, by omega, U.B.yin, U.sub, qm.same k06, fun i hi => ⟨_, n2.w i (inA hi)⟩, fun H7 k7 => ⟨_, rfl, iteF ?_⟩⟩
    have k07 := k06.trans k7
    refine ⟨_, rfl, _, rfl, p1, _, 1, _, rfl, rfl, SqT.of (k07 _ _ op1), rfl, _, rfl, ?_⟩
    refine ⟨rr, wp, tw, as, ns, tbl, y, of, tm, wl, f2, rfl, k07 _ _ U.orr, dr.same k07, U.B.nd, by omega, U.sub, qm.same k07, k07 _ _ ow, lw, hw, fun i hi => n2.w i (inA hi), fun H8 pd k8 od => ?_⟩
    have k08 := k07.trans k8
    rw [e2] at od
    refine ⟨pd, _, 1, _, rfl, rfl, SqT.of od, rfl, _, rfl, rfl, false, by simp [optZ], iteF ?_⟩
    refine ⟨_, rfl, _, rfl, _, rfl, p1, _, 1, _, rfl, rfl, SqT.of (k08 _ _ op1), rfl, _, rfl, ?_⟩
    dsimp only [tNil, tVar, tC, start]
    refine tree_go (of := of) (U.same k08).ask (qm.same k08) bm fun H9 k9 => ⟨_, _, rfl, rfl, _, rfl, iteF ?_⟩
    have k09 := k08.trans k9
    -- a hold of just so many
    refine ⟨_, rfl, _, rfl, _, rfl, _, rfl, x, .ref oL, ns, tbl, y, of, cn, rfl, (U.same k09).ask, hb, fun H10 k10 => ⟨_, rfl, iteF (fin H10 (k09.trans k10))⟩⟩
end
end L2.TB
/-! the law: a turn from the weights on -/
namespace L2.TB
open PySem PySem.Spec PyProof.Rows
section
variable {P : Program} {w : World} {K : PySem.W.Frag} {mg : Str → Option Value} {base : Heap} {f CT CQ CK CN : Addr} {cdv : Value} {A : Around} {outer : List Env} {s : Shared} {H : Hp} {E : XK}
theorem lw_mid (L : LawQ P w K mg base CT CQ CK CN) (hr : Room 46 (A.deeper (envOfC "law" (defScope sLaw) s.heap.objs.size f cdv))) :
    ∃ t, PSs (cxOf CX0 P w K mg base NLw "law" (defScope sLaw) f cdv A outer s H E).nox (bodyL.drop 5) t ∧ ∀ (D : Ends) (H0 : Hp) (x nm l ls rr oL : Addr) (ns : List Str) (as : List Addr) (tbl : List (List Int)) (y : Str) (of : List Str) (N : Int) (s0 s2 s8 s9 s10 s11 s12 s13 : Option V),
      TurnS H0 CT x nm l ls rr oL ns as tbl y of → Strm H0 l ls N → N ≤ 700000 →
      (∀ H' s8 s9 s10 s11 s12 s13, Strm H' l ls (N + 12) → D.nx [s0, some (.ref l), s2, some (.ref rr), some (.ref x), some (.ref nm), some (.str y), some (.ref oL), s8, s9, s10, s11, s12, s13, none, none, none] H') →
      t D [s0, some (.ref l), s2, some (.ref rr), some (.ref x), some (.ref nm), some (.str y), some (.ref oL), s8, s9, s10, s11, s12, s13, none, none, none] H0 := by
  obtain ⟨fD, fdD, gD, kD, GD, bD⟩ := L.draw
  obtain ⟨fP, fdP, gP, kP, GP, bP⟩ := L.pick
  obtain ⟨fE, fdE, gE, kE, GE, bE⟩ := L.least
  obtain ⟨fR, fdR, gR, kR, GR, bR⟩ := L.dr
  obtain ⟨fF, fdF, gF, kF, GF, bF, _⟩ := L.C.few
  obtain ⟨fM, fdM, gM, kM, GM, bM, _⟩ := L.C.mean
  obtain ⟨t11, p11, r11⟩ := lw_end (P := P) (w := w) (outer := outer) (H := H) (E := E) L hr
  have nd := scLaw.nd
  have T0' : ∀ {X : Cx} (σ : L2.St), PassesAt (L2.CX X.prog X.w) X σ (WE (fun _ _ _ _ => False) σ) := fun σ => passAt LamX.takes0 σ
  refine ⟨_, pss_cons (ps_setLc (i := 8) (own := [("row", 15)]) (g := gName 15) (tt := tYes) (te := tOp (rI0 fun i j => .int (i + j)) (tC (.int 1)) (tCall spDraw [] E0 (tCons (tVar 1) (tCons (tC (.int 5)) tNil)))) rfl nd rfl rfl (sw_true rfl rfl rfl rfl) (pi_list (pv 3)) (blkOk_by (N := NLw) (sc := defScope sLaw) (by decide +kernel)) (fun _ _ _ _ _ => pg_name (i := 15) nd rfl (Or.inl rfl)) (fun _ _ _ _ _ => pts_nil) (fun _ _ _ _ _ => pe_op op_add pe_int (pe_call GD (hr.mono (by decide)) rfl gD kD bD .nil pass0 (pa_cons (pv 1) (pa_cons pe_int pa_nil)))))
    (pss_cons (ps_set (i := 9) nd rfl (Or.inl rfl) (pe_listEn rfl rfl L.nL rfl L.nE (pv 3)))
    (pss_cons (ps_par (i := 10) (j := 11) rfl nd rfl rfl (by decide) rfl rfl (pa_cons (pe_call GE (hr.mono (by decide)) rfl gE kE bE .nil pass0 (pa_cons (pv 9) (pa_cons (pv 6) (pa_cons (pv 7) (pa_cons (pe_lst pa_nil) pa_nil))))) (pa_cons (pe_call GE (hr.mono (by decide)) rfl gE kE bE .nil pass0 (pa_cons (pv 9) (pa_cons (pv 6) (pa_cons (pv 7) (pa_cons (pv 8) pa_nil))))) pa_nil)) (by rfl))
    (pss_cons (ps_if (pt_not (pt_val (pe_call GR (hr.mono (by decide)) rfl gR kR bR .nil pass0 (pa_cons (pv 4) (pa_cons (pv 6) (pa_cons (pv 5) (pa_cons (pv 8) pa_nil))))))) (pss_one ps_never) pss_nil)
    (pss_cons (ps_set (i := 12) nd rfl (Or.inl rfl) (pe_callS GF (hr.mono (by decide)) rfl gF kF bF T0' (pa_cons (pv 4) (pa_cons (pv 6) (pa_cons (pv 7) pa_nil)))))
    (pss_cons (ps_set (i := 13) nd rfl (Or.inl rfl) (pe_callS GM (hr.mono (by decide)) rfl gM kM bM T0' (pa_cons (pv 4) (pa_cons (pe_call GP (hr.mono (by decide)) rfl gP kP bP .nil pass0 (pa_cons (pv 1) (pa_cons (pe_lst (pa_cons (pv 8) (pa_cons (pe_callTy call_tuple_of rfl L.nT boot_tuple' (pa_cons (pv 8) pa_nil)) pa_nil))) pa_nil))) (pa_cons (pv 6) (pa_cons (pv 7) pa_nil)))))) p11))))), ?_⟩
  intro D H0 x nm l ls rr oL ns as tbl y of N s0 s2 s8 s9 s10 s11 s12 s13 U0 S0 hN fin
  have las : as.length = tbl.length := Paired.length U0.R
  have few := U0.B.few
  have pos := U0.B.pos
  have nsh := U0.B.sh
  have lof := U0.lof
  -- the weights
  refine ⟨_, rfl, rr, rfl, ⟨_, SqL.of U0.orr⟩, fun wp nwp => ?_⟩
  have aw := S0.apart (Same.refl _) nwp
  refine lc_it walk_list (fun j H' => ∃ cs : List Int, H' wp = some (.lst (cs.map V.int)) ∧ cs.length = j ∧ (∀ z ∈ cs, 0 < z ∧ z ≤ 100) ∧ Strm H' l ls (N + j) ∧ But l ls H0 H')
    ⟨[], upd_same, rfl, fun z hz => by simp at hz, by simpa using S0.same (same_new nwp), But.of (same_new nwp)⟩ (fun j H' _ h => SqL.of (h.elim fun _ h => h.2.2.2.2 _ _ U0.rl.1 U0.rl.2 U0.orr)) ?_ ?_
  · rintro j yv H4 H5 lj ⟨cs, oD, lc, cok, S3, B3⟩ ⟨rfl, ey⟩
    rw [List.length_map] at lj
    refine ⟨rfl, ?_⟩
    refine ⟨_, rfl, l, ls, 5, _, rfl, S3, by omega, by decide, by decide, fun H6 r r0 r1 S4 B4 => ?_⟩
    have oD4 := B4 _ _ aw.1 aw.2 oD
    refine ⟨1, r, rfl, rfl, _, oD4, (by rw [sizeLine_eq, List.length_map]; omega), cs ++ [1 + r], by rw [upd_same]; simp, by simp [lc], ?_, ?_, ?_⟩
    · intro d hd
      rcases List.mem_append.mp hd with h | h
      · exact cok d h
      · obtain rfl : d = 1 + r := by simpa using h
        omega
    · obtain ⟨cs', g, k, m, S⟩ := S4
      exact Strm.mono ⟨cs', g, k, m, by rw [upd_ne (Ne.symm aw.1)]; exact S.o, by rw [upd_ne (Ne.symm aw.2)]; exact S.c, S.ne, S.g0, S.k0, S.k1, S.m0, S.m1, S.sz⟩ (by omega)
    · intro b o h1 h2 e
      have nb : b ≠ wp := ne_of_none e nwp
      rw [upd_ne nb]
      exact B4 _ _ h1 h2 (B3 _ _ h1 h2 e)
  rintro H1 ⟨wl, ow, lw, hw, S1, B1⟩
  rw [List.length_map, las] at lw S1
  have U1 := U0.but S0 B1
  -- the rows with their places
  refine ⟨_, rfl, rr, _, rfl, SqL.of U1.orr, fun H2 q ts k2 nq oq lts at2 => ?_⟩
  rw [List.length_map] at lts
  have U2 := U1.same k2
  have own : OwnAt H2 as q (allP tbl) := by
    refine ⟨ts, oq, paired_of _ _ (by show ts.length = (List.range tbl.length).length; rw [List.length_range]; omega) fun i t k e1 e2 => ?_⟩
    have lt : i < tbl.length := by
      have := (List.getElem?_eq_some_iff.mp e1).1
      omega
    have e2 : (List.range tbl.length)[i]? = some k := e2
    rw [List.getElem?_range lt] at e2
    obtain rfl := Option.some.inj e2
    have ea : (as.map V.ref)[i]? = some (.ref (as.getD i 0)) := by
      rw [List.getElem?_map, List.getD_eq_getElem?_getD, List.getElem?_eq_getElem (show i < as.length by omega)]
      rfl
    exact (at2 i t _ e1 ea).2
  have below : ∀ i ∈ allP tbl, i < tbl.length := fun i hi => List.mem_range.mp hi
  have lenA : (allP tbl).length = tbl.length := List.length_range
  -- the least by going through all choices
  refine ⟨_, rfl, _, rfl, _, rfl, (by show 0 ≤ sizeLine; omega), fun q0 nq0 => ?_⟩
  have k3 := same_new (o := .lst []) nq0
  have oq0 : upd H2 q0 (.lst []) q0 = some (.lst []) := upd_same
  generalize upd H2 q0 (.lst []) = H3 at k3 oq0 ⊢
  have U3 := U2.same k3
  refine ⟨none, q, oL, q0, as, ns, tbl, y, of, allP tbl, rfl, own.same k3, U3.d, U3.B.nd, below, by omega, by omega, by omega, U3.B.yin, U3.oo, U3.sub, by omega, oq0, (fun _ e => by cases e), fun H4 k4 => ?_⟩
  have U4 := U3.same k4
  have ow4 := k4 _ _ (k3 _ _ (k2 _ _ ow))
  refine ⟨_, rfl, _, rfl, _, rfl, _, rfl, some wl, q, oL, wp, as, ns, tbl, y, of, allP tbl, rfl, (own.same k3).same k4, U4.d, U4.B.nd, below, by omega, by omega, by omega, U4.B.yin, U4.oo, U4.sub, by omega, ow4, (fun _ e => by cases e; exact lw), fun H5 k5 => ⟨_, _, rfl, ?_⟩⟩
  have U5 := U4.same k5
  have k15 := ((k2.trans k3).trans k4).trans k5
  -- what is put in
  have wts : ∀ {H' : Hp} {v : Addr}, SqA K H' v (wl.map V.int) → WtsAt K H' (.ref v) wl tbl.length := fun h => ⟨⟨_, rfl, h⟩, lw, fun z hz => (hw z hz).1, fun z hz => (hw z hz).2⟩
  refine ⟨_, rfl, _, rfl, _, rfl, _, rfl, x, nm, wp, ns, tbl, y, wl, rfl, U5.askD, U5.B.o, wts (.inl (k5 _ _ ow4)), fun H6 k6 => ⟨_, rfl, iteF ?_⟩⟩
  have U6 := U5.same k6
  have k16 := k15.trans k6
  have S6 := S1.same k16
  have ow6 := k16 _ _ ow
  -- fewest
  refine ⟨_, rfl, _, rfl, _, rfl, ?_⟩
  dsimp only [tNil, tVar, tC, start]
  refine few_go (of := of) U6.ask fun H7 v7 k7 r7 => ?_
  have S7 := S6.same k7
  have ow7 := k7 _ _ ow6
  have r7' : FewR (fun b => b ≠ l ∧ b ≠ ls) (says ns tbl) y of (allP tbl) H7 v7 := r7.keep (fun b n => S6.apart (Same.refl _) n) fun b o _ e _ => e
  have U7 := U6.same k7
  -- mean_fewest
  refine ⟨_, rfl, _, rfl, _, rfl, _, rfl, wp, _, rfl, .inl ⟨SqL.of ow7, fun wt nwt => ⟨(by show 2 ≤ sizeLine; decide), fun c nc => ?_⟩⟩⟩
  have kt := same_new (o := .tup (wl.map V.int)) nwt
  have owt : upd H7 wt (.tup (wl.map V.int)) wt = some (.tup (wl.map V.int)) := upd_same
  have awt := S7.apart (Same.refl _) nwt
  generalize upd H7 wt (.tup (wl.map V.int)) = H8 at kt owt nc ⊢
  have kc := same_new (o := .lst [.ref wp, .ref wt]) nc
  have oc : upd H8 c (.lst [.ref wp, .ref wt]) c = some (.lst [.ref wp, .ref wt]) := upd_same
  have ac := S7.apart kt nc
  generalize upd H8 c (.lst [.ref wp, .ref wt]) = H9 at kc oc ⊢
  have k79 := kt.trans kc
  have S9 := S7.same k79
  refine ⟨l, ls, c, _, _, rfl, S9, by omega, ac.1, ac.2, oc, by simp, by simp, fun H10 yv hy S10 B10 => ?_⟩
  have B7 : But l ls H7 H10 := (But.of k79).trans B10
  have U10 := U7.but S7 B7
  have ow10 := B7 _ _ aw.1 aw.2 ow7
  have owt10 := B10 _ _ awt.1 awt.2 (kc _ _ owt)
  have r10 : FewR (fun _ => True) (says ns tbl) y of (allP tbl) H10 v7 := r7'.keep (fun _ _ => trivial) fun b o n e _ => B7 b o n.1 n.2 e
  have wv : WtsAt K H10 yv wl tbl.length := by
    simp only [List.mem_cons, List.not_mem_nil, or_false] at hy
    rcases hy with rfl | rfl
    · exact wts (.inl ow10)
    · exact wts (.inr owt10)
  refine ⟨_, rfl, _, rfl, ?_⟩
  dsimp only [tNil, tVar, tC, start]
  refine mean_go (of := of) U10.ask wv fun H11 v11 k11 r11' => ?_
  refine r11 _ _ x nm l ls rr oL wp ns as tbl y of wl N v7 v11 _ _ _ (U10.same k11) (k11 _ _ ow10) lw hw (r10.keep (fun _ h => h) fun b o _ e _ => k11 b o e) (r11'.keep (fun _ _ => trivial) fun b o _ e _ => e) fun H12 k12 => ?_
  exact fin H12 _ _ _ _ _ _ ((S10.same (k11.trans k12)).mono (by omega))
end
end L2.TB
/-! the law -/
namespace L2.TB
open PySem PySem.Spec PyProof.Rows
/-- what the law reads -/
structure LawR (P : Program) (w : World) (K : PySem.W.Frag) (mg : Str → Option Value) (base : Heap) (C CQ CK CN fIn : Addr) : Prop where
  Q : LawQ P w K mg base C CQ CK CN
  start : ∃ f fd, mg "_law_start" = some (.ref f) ∧ Fun K "_law_start" "_law_start" sStart f fd
  rows : ∃ f fd, mg "_law_t_rows" = some (.ref f) ∧ Fun K "_law_t_rows" "_law_t_rows" sRows f fd ∧ FnOk P w K mg base CX0 4 f fd ["stream", "many", "rows", "values"] spRows
  pick : ∃ f fd, mg "_law_pick" = some (.ref f) ∧ Fun K "_law_pick" "_law_pick" sPick f fd ∧ FnOk P w K mg base CX0 2 f fd ["stream", "some"] (spPick K)
  someN : ∃ f fd, mg "_law_t_some" = some (.ref f) ∧ Fun K "_law_t_some" "_law_t_some" sSome f fd ∧ FnOk P w K mg base CX0 3 f fd ["stream", "names"] (spSome K)
  made : Mk K C fIn
  init : ∃ fd, Fun K "__init__" "Table.__init__" sInit fIn fd ∧ FnOk P w K mg base CX0 3 fIn fd ["self", "rows"] (spInit C)
  gC : mg "Table" = some (.ref C)
  nR : mg "range" = none
  nL : mg "list" = none
def spLawT (K : PySem.W.Frag) : Sp := fun vs H Q _ => ∃ (a : Addr) (ns : List Int), vs = [.ref a] ∧ SqL K H a (ns.map V.int) ∧ ns.length ≤ 63 ∧ ∀ H', Q (.bl true) H'
section
variable {P : Program} {w : World} {K : PySem.W.Frag} {mg : Str → Option Value} {base : Heap} {f C CQ CK CN fIn : Addr} {fd : FuncData}
theorem ok_law (F : Fun K "law" "law" sLaw f fd) (L : LawR P w K mg base C CQ CK CN fIn) : FnOk P w K mg base CX0 47 f fd ["script"] (spLawT K) := by
  obtain ⟨fS, fdS, gS, FS⟩ := L.start
  have GS : FnOk P w K mg base CX0 1 fS fdS ["script"] (spStart K) := ok_start FS L.nL
  have bS := FS.binds (ps := ["script"]) fun _ _ _ _ _ _ us hl => match us, hl with | [_], _ => rfl
  obtain ⟨fR, fdR, gR, FR, GR⟩ := L.rows
  obtain ⟨fdI, FI, GI⟩ := L.init
  obtain ⟨fP, fdP, gP, FP, GP⟩ := L.pick
  obtain ⟨fO, fdO, gO, FO, GO⟩ := L.someN
  obtain ⟨fD, fdD, gD, kD, GD, bD⟩ := L.Q.draw
  have bR := FR.binds (ps := ["stream", "many", "rows", "values"]) fun _ _ _ _ _ _ us hl => match us, hl with | [_, _, _, _], _ => rfl
  have bI := FI.binds (ps := ["self", "rows"]) fun _ _ _ _ _ _ us hl => match us, hl with | [_, _], _ => rfl
  have bP := FP.binds (ps := ["stream", "some"]) fun _ _ _ _ _ _ us hl => match us, hl with | [_, _], _ => rfl
  have bO := FO.binds (ps := ["stream", "names"]) fun _ _ _ _ _ _ us hl => match us, hl with | [_, _], _ => rfl
  refine F.ok scLaw (fun vs H Q E h => by obtain ⟨a, ns, e, _⟩ := h; rw [e]; rfl) fun cdv A outer s H vs Q E hr hsp => ?_
  obtain ⟨a, cs, rfl, hS, hn, hq⟩ := hsp
  have nd := scLaw.nd
  obtain ⟨t5, p5, r5⟩ := lw_mid (P := P) (w := w) (outer := outer) (H := H) (E := E) L.Q hr
  refine ⟨_, PSs.nox (st := defBody sLaw) (pss_cons (ps_set (i := 1) nd rfl (Or.inr rfl) (pe_call GS (hr.mono (by decide)) rfl gS FS.kp bS .nil pass0 (pa_cons (pv 0) pa_nil)))
    (pss_cons (ps_for PassesOwn.never rfl (pi_range1 rfl L.nR (pa_cons pe_int pa_nil)) (pg_name (i := 2) nd rfl (Or.inl rfl))
      (pss_cons (ps_set (i := 3) nd rfl (Or.inl rfl) (pe_call GR (hr.mono (by decide)) rfl gR FR.kp bR .nil pass0 (pa_cons (pv 1) (pa_cons pe_int (pa_cons pe_int (pa_cons pe_int pa_nil))))))
      (pss_cons (ps_asg (pe_tup (pa_cons (pe_make L.made GI (hr.mono (by decide)) rfl L.gC bI .nil pass0 (pa_cons (pv 3) pa_nil)) (pa_cons (pe_callTy (call_listD rfl) rfl L.nL boot_list' (pa_cons (pe_ix ix_list (pv 3) pe_int (fun _ _ => rfl)) pa_nil)) pa_nil))) (pg_tup rfl (pgs_cons (pg_name (i := 4) nd rfl (Or.inr rfl)) (pgs_cons (pg_name (i := 5) nd rfl (Or.inl rfl)) pgs_nil))))
      (pss_cons (ps_set (i := 6) nd rfl (Or.inr rfl) (pe_call GP (hr.mono (by decide)) rfl gP FP.kp bP .nil pass0 (pa_cons (pv 1) (pa_cons (pv 5) pa_nil))))
      (pss_cons (ps_set (i := 7) nd rfl (Or.inr rfl) (pe_call GO (hr.mono (by decide)) rfl gO FO.kp bO .nil pass0 (pa_cons (pv 1) (pa_cons (pv 5) pa_nil))))
      (pss_cons (ps_if (pt_cmpR op_gt (pe_call GD (hr.mono (by decide)) rfl gD kD bD .nil pass0 (pa_cons (pv 1) (pa_cons pe_int pa_nil))) pe_int (nomark _))
        (pss_one (ps_set (i := 7) nd rfl (Or.inr rfl) (pe_lc (own := [("name", 14)]) (g := gName 14) (te := tVar 14) (tt := tTest (tOp rNe (tVar 14) (tVar 6))) rfl nd (pi_seq (pv 7)) (blkOk_by (N := NLw) (sc := defScope sLaw) (by decide +kernel)) (fun _ _ _ _ _ => pg_name (i := 14) nd rfl (Or.inl rfl)) (fun _ _ _ _ _ => pts_one (pt_cmpR op_ne (pv 14) (pv 6) (nomark _))) (fun _ _ _ _ _ => pv 14)))) pss_nil)
      p5))))))
    (pss_one (ps_ret pe_bl)))), ?_⟩
  refine ⟨_, rfl, a, cs, rfl, hS, by omega, fun H1 l ls nl k1 S1 nls => ?_⟩
  refine ⟨3, rfl, by decide, by decide, for_range (n := 3) (fun i σ H' => Strm H' l ls (3000 * (i : Int)) ∧ ∃ s2 s3 s4 s5 s6 s7 s8 s9 s10 s11 s12 s13, σ = [some (.ref a), some (.ref l), s2, s3, s4, s5, s6, s7, s8, s9, s10, s11, s12, s13, none, none, none])
    ⟨by simpa using S1, _, _, _, _, _, _, _, _, _, _, _, _, rfl⟩ ?_ ?_⟩
  · rintro i σ H2 hi ⟨S2, s2, s3, s4, s5, s6, s7, s8, s9, s10, s11, s12, s13, rfl⟩
    refine ⟨_, rfl, l, ls, 6, 8, 3, 3000 * (i : Int), rfl, S2, by omega, by decide, by decide, by decide, by decide, by decide, by decide, fun H3 rr as ns tbl lns nn nnd nms ltbl tn bv nrr rl rls orr RA S3 B3 => ?_⟩
    have nok : ∀ x ∈ ns, NmOk x := fun x hx => (nms x hx).1
    have D1 : DRows H3 ns as tbl := Paired.mapP RA fun a vs h => ⟨h.1, h.2.1⟩
    refine ⟨_, rfl, fun x dx nx ndx nex => ?_⟩
    have k1 : Same H3 (upd (upd H3 dx (.own x)) x (.ins C dx [])) := fun b o e => by rw [upd_ne (ne_of_none e nx), upd_ne (ne_of_none e ndx)]; exact e
    refine ⟨x, dx, rr, as, ns, tbl, rfl, upd_same, k1 _ _ orr, D1.same k1, tn, by omega, nn, nnd, nok, by omega, fun H4 tab fr => ⟨rfl, ?_⟩⟩
    have k2 : Same H3 H4 := fun b o e => fr b o (ne_of_none e nx) (k1 _ _ e)
    have pos : 0 < tbl.length := List.length_pos_iff.mpr tn
    have las : as.length = tbl.length := Paired.length D1
    obtain ⟨a0, ea0⟩ : ∃ a0, as[0]? = some a0 := ⟨as[0]'(by omega), List.getElem?_eq_getElem _⟩
    obtain ⟨vs0, ev0, oa0, lv0⟩ := paired_get (D1.same k2) ea0
    have at0' : atI (as.map V.ref) ((0 : Nat) : Int) = some (.ref a0) := atI_nat (by rw [List.getElem?_map, ea0]; rfl)
    have ekeys : ((dk ns vs0).map fun kv => kV kv.1) = ns.map V.str := by
      have z := congrArg (List.map kV) (dk_keys lv0.symm)
      rw [List.map_map, List.map_map] at z
      exact z
    refine ⟨_, rfl, _, _, _, _, rfl, rfl, SqL.of (k2 _ _ orr), at0', a0, _, rfl, .inl oa0, fun n nn1 => ?_⟩
    rw [ekeys]
    have k3 := same_new (o := .lst (ns.map V.str)) nn1
    have on4 := upd_same (H := H4) (a := n) (o := .lst (ns.map V.str))
    have an := S3.apart k2 nn1
    generalize upd H4 n (.lst (ns.map V.str)) = H5' at k3 on4 ⊢
    refine ⟨(by show 2 ≤ sizeLine; decide), fun pt npt => ⟨pt, _, rfl, SqT.of upd_same, rfl, _, _, rfl, _, _, rfl, rfl, ?_⟩⟩
    replace k3 := k3.trans (same_new (o := .tup [.ref x, .ref n]) npt)
    replace on4 := same_new (o := .tup [.ref x, .ref n]) npt _ _ on4
    generalize upd H5' pt (.tup [.ref x, .ref n]) = H5 at k3 on4
    have k35 := k2.trans k3
    have lpos : 0 < ns.length := List.length_pos_iff.mpr nn
    -- asked
    refine ⟨_, rfl, _, rfl, l, ls, n, _, _, rfl, S3.same k35, by omega, an.1, an.2, on4, by rw [List.length_map]; exact lpos, by rw [List.length_map]; omega, fun H6 yv hy S6 B6 => ?_⟩
    obtain ⟨y, yin, rfl⟩ := List.mem_map.mp hy
    -- of
    refine ⟨_, rfl, _, rfl, l, ls, n, _, _, rfl, S6, by omega, B6 _ _ an.1 an.2 on4, an.1, an.2, by rw [List.length_map]; omega, fun H7 oL ys zs pm noL ooL S7 B7 => ?_⟩
    obtain ⟨of, rfl, ofnd, ofsub⟩ := some_strs pm nnd
    have aO := S6.apart (Same.refl _) noL
    have B37 : But l ls H5 H7 := B6.trans B7
    have tab5 := tab.same k3
    have U7 : TurnS H7 C x n l ls rr oL ns as tbl y of := ⟨⟨tab5.but (S3.same k35) B37 nn pos, B37 _ _ an.1 an.2 on4, nnd, lns, pos, by omega, nok, yin⟩, an, B37 _ _ rl rls (k35 _ _ orr), ⟨rl, rls⟩, (RA.but (But.of k35)).but B37, ooL, aO, ofnd, ofsub, nms⟩
    -- whether asked is left out
    refine ⟨_, rfl, l, ls, 3, _, rfl, S7, by omega, by decide, by decide, fun H8 r r0 r1 S8 B8 => ?_⟩
    have U8 := U7.but S7 B8
    refine ⟨_, _, rfl, rfl, _, rfl, ?_⟩
    by_cases hpos : 0 < r
    · rw [decide_eq_true hpos]
      refine iteT ?_
      have := U8.lof
      refine ⟨_, rfl, lc_seq (.inl rfl) U8.oo (by rw [List.length_map]; omega) (isStr fun z => decide (z ≠ y)) id ?_ ?_⟩
      · intro j v H9 Cn Nn ev s9' yes no
        rw [List.getElem?_map] at ev
        obtain ⟨z, ez, rfl⟩ := Option.map_eq_some_iff.mp ev
        refine ⟨rfl, _, rfl, _, rfl, rfl, ?_⟩
        by_cases h : z = y
        · exact ⟨false, congrArg V.bl (by rw [h]; simp), iteF (no (decide_eq_false fun c => c h) H9 (Same.refl _))⟩
        · exact ⟨true, congrArg V.bl (by rw [decide_eq_false (fun c => h (V.str.inj c))]; rfl), iteT ⟨_, rfl, yes (decide_eq_true h) H9 (Same.refl _)⟩⟩
      · intro H9 q nq oq s9'
        rw [filter_strs] at oq
        have U9 : TurnS H9 C x n l ls rr q ns as tbl y (of.filter fun z => decide (z ≠ y)) := ⟨U8.B.same s9', an, s9' _ _ U8.orr, U8.rl, U8.R.but (.of s9'), oq, S8.apart (Same.refl _) nq, ofnd.filter _, fun z hz => ofsub z (List.mem_filter.mp hz).1, nms⟩
        exact r5 _ _ x n l ls rr q ns as tbl y _ _ _ _ _ _ _ _ _ _ U9 (S8.same s9') (by omega) fun H10 s8 s9 s10 s11 s12 s13 S10 => ⟨S10.mono (by omega), _, _, _, _, _, _, _, _, _, _, _, _, rfl⟩
    · rw [decide_eq_false hpos]
      refine iteF ?_
      exact r5 _ _ x n l ls rr oL ns as tbl y of _ _ _ _ _ _ _ _ _ U8 S8 (by omega) fun H9 s8 s9 s10 s11 s12 s13 S9 => ⟨S9.mono (by omega), _, _, _, _, _, _, _, _, _, _, _, _, rfl⟩
  · rintro σ H2 ⟨S2, s2, s3, s4, s5, s6, s7, s8, s9, s10, s11, s12, s13, rfl⟩
    exact hq H2
end
end L2.TB
namespace L2.TB
open PySem PySem.Spec PyProof.Rows
section
variable {K : PySem.W.Frag} {h : Heap} {mg : Str → Option Value}
theorem fun_ofD {x q : Str} {st : Stmt} {f : Addr} {fd : FuncData} (F : FunD K x q (defArgs st) (defBody st) (defScope st) [] [] f fd) : Fun K x q st f fd := by
  obtain ⟨⟨oc, od, dV, kV, doc, pm, an, cdv, ct, osl, e, lk, hc, hd, hk⟩, kp⟩ := F
  obtain rfl : dV = .none := hd.elim (fun z => z.2) fun z => absurd rfl z.1
  exact ⟨⟨oc, od, kV, doc, pm, an, cdv, ct, osl, e, lk, hc⟩, kp⟩
theorem def_at (c : He.SaysD faT fnT K) (X : K.In h) (G : h.Ns mainGlobals mg) (i k : Nat) {x : Str} {st : Stmt} (ei : faT[i]? = some (.glo x)) (ek : fnT[k]? = some (dd (x, none) x x st [])) :
    mg x = some (.ref (He.ga K x)) ∧ ∃ fd, Fun K x x st (He.ga K x) fd := by
  obtain ⟨fd, F⟩ := c.def_ k ek
  exact ⟨He.glo_ok X G (c.fact i ei), fd, fun_ofD F⟩
theorem meth_at (c : He.SaysD faT fnT K) (i k : Nat) {m q : Str} {st : Stmt} (ei : faT[i]? = some (.meth "Table" m)) (ek : fnT[k]? = some (dd ("Table", some m) m q st [])) :
    Meth K (He.ga K "Table") m (He.ma K (He.ga K "Table") m) ∧ ∃ fd, Fun K m q st (He.ma K (He.ga K "Table") m) fd := by
  obtain ⟨fd, F⟩ := c.def_ k ek
  exact ⟨He.meth_ok (c.fact i ei), fd, fun_ofD F⟩
theorem defF_at (c : He.SaysD faT fnT K) (X : K.In h) (G : h.Ns mainGlobals mg) (i k : Nat) {x : Str} {st : Stmt} (ei : faT[i]? = some (.glo x)) (ek : fnT[k]? = some (dd (x, none) x x st [.non])) :
    mg x = some (.ref (He.ga K x)) ∧ ∃ fd, FunF K x st (He.ga K x) fd := by
  obtain ⟨fd, F⟩ := c.def_ k ek
  exact ⟨He.glo_ok X G (c.fact i ei), fd, F⟩
theorem smeth_at (c : He.SaysD faT fnT K) (i k : Nat) {m q : Str} {st : Stmt} (ei : faT[i]? = some (.meth "Search" m)) (ek : fnT[k]? = some (dd ("Search", some m) m q st [])) :
    Meth K (He.ga K "Search") m (He.ma K (He.ga K "Search") m) ∧ ∃ fd, Fun K m q st (He.ma K (He.ga K "Search") m) fd := by
  obtain ⟨fd, F⟩ := c.def_ k ek
  exact ⟨He.meth_ok (c.fact i ei), fd, fun_ofD F⟩
theorem init_at (c : He.SaysD faT fnT K) (k : Nat) {C q : Str} {st : Stmt} (ek : fnT[k]? = some (dd (C, some "__init__") "__init__" q st [])) : ∃ fd, Fun K "__init__" q st (He.ma K (He.ga K C) "__init__") fd := by
  obtain ⟨fd, F⟩ := c.def_ k ek
  exact ⟨fd, fun_ofD F⟩
theorem bindsN {x : Str} {st : Stmt} {f : Addr} {fd : FuncData} {ps : List Str} (F : FunF K x st f fd) (h : ∀ (T : Addr) (kV doc pm : Value) (an : Option Addr) (cdv ct : Value) (us its : List Value), us.length = ps.length → its.length = [V.non].length → ∃ k, bindArgs (PySem.W.fnOf x x (defArgs st) (defBody st) (defScope st) (.ref T) kV doc pm an cdv ct) ⟨us, []⟩ = seqItems? (.ref T) >>= k ∧ k (some its.toArray) = pure (ps.zip (us ++ its.drop 1))) :
    Binds K fd ps [] := by
  obtain ⟨ds, r, b⟩ := F.binds1 (ps := ps) ps.length 1 (by simp) (by simp) h
  cases r
  exact b
theorem code_of {x : Str} {st : Stmt} {fd : FuncData} (F : Fun K x x st (He.ga K x) fd) : fd.code = .ref (He.cT K (x, none)).1 := by
  obtain ⟨⟨oc, od, kV, doc, pm, an, cdv, ct, osl, e, lk, hc⟩, kp⟩ := F
  obtain ⟨c, e2⟩ := He.codeIn_ref hc
  have e3 : fd.code = .ref c := by rw [e]; exact e2
  have lk2 : K.lookup (He.fAd K (x, none)) = some ⟨oc, od, .func fd, osl⟩ := lk
  rw [e3]
  exact congrArg Value.ref (He.codeOf_eq lk2 e3).symm
/-- an error's class -/
theorem err_at {P : Program} {w : World} {base : Heap} (c : SaysK h K) (X : K.In h) (G : h.Ns mainGlobals mg) (i k : Nat) {x fld q : Str} {st : Stmt} {p0 p1 p2 p3 : Pos} (ei : faT[i]? = some (.glo x)) (ek : fnT[k]? = some (dd (x, some "__init__") "__init__" q st [])) (he : (x, fld) ∈ erT)
    (S : FnScope ["self", fld] ["self", fld] (defScope st)) (hb : defBody st = [.Assign [.Attribute (.Name "self" p0) fld p1] (.Name fld p2) p3]) (hv0 : Vis (defScope st) "self") (hv1 : Vis (defScope st) fld) (hdy : (fld == ("__debug__" : Str)) = false) (hcy : (fld == ("__classdict__" : Str)) = false)
    (bd : ∀ (kV doc pm : Value) (an : Option Addr) (cdv ct : Value) (us : List Value), us.length = 2 → bindArgs (PySem.W.fnOf "__init__" q (defArgs st) (defBody st) (defScope st) .none kV doc pm an cdv ct) ⟨us, []⟩ = pure ((["self", fld] : List Str).zip us)) : ErrF P w K mg base x (He.ga K x) fld := by
  obtain ⟨fd, F⟩ := c.d.def_ k ek
  have F' : Fun K "__init__" q st (He.ma K (He.ga K x) "__init__") fd := fun_ofD F
  exact ⟨He.glo_ok X G (c.d.fact i ei), _, fd, fld, errB_ok (c.er _ he), ok_errInit F' S hb hv0 hv1 hdy hcy, F'.binds bd⟩
end
theorem facts {P : Program} {w : World} {K : PySem.W.Frag} {h : Heap} {mg : Str → Option Value} {f : Addr} (X : K.In h) (G : h.Ns mainGlobals mg) (hfa : mg ("law" : Str) = some (.ref f)) (cc : SaysK h K) :
    ∃ fd : FuncData, (∀ (s : Shared) (v : Value), BindsTo s fd ⟨[v], []⟩ [("script", v)]) ∧ ∀ base : Heap, K.In base → base.Ns mainGlobals mg → (∀ p ∈ csL K, LamX.TabB base mg p.1 p.2) → FnOk P w K mg base CX0 47 f fd ["script"] (spLawT K) := by
  have c := cc.d
  obtain ⟨gStart, dStart, FStart⟩ := def_at c X G 0 0 (x := "_law_start") (st := sStart) rfl rfl
  obtain ⟨gDraw, dDraw, FDraw⟩ := def_at c X G 1 1 (x := "_law_draw") (st := sDraw) rfl rfl
  obtain ⟨gPick, dPick, FPick⟩ := def_at c X G 2 2 (x := "_law_pick") (st := sPick) rfl rfl
  obtain ⟨gMixed, dMixed, FMixed⟩ := def_at c X G 3 3 (x := "_law_mixed") (st := sMixed) rfl rfl
  obtain ⟨gNames, dNames, FNames⟩ := def_at c X G 4 4 (x := "_law_t_names") (st := sNames) rfl rfl
  obtain ⟨gRows, dRows, FRows⟩ := def_at c X G 5 5 (x := "_law_t_rows") (st := sRows) rfl rfl
  obtain ⟨gSome, dSome, FSome⟩ := def_at c X G 6 6 (x := "_law_t_some") (st := sSome) rfl rfl
  obtain ⟨gSame, dSame, FSame⟩ := def_at c X G 7 7 (x := "_law_same") (st := sSame) rfl rfl
  obtain ⟨gParts, dParts, FParts⟩ := def_at c X G 8 8 (x := "_law_parts") (st := sParts) rfl rfl
  obtain ⟨gLeastL, dLeastL, FLeastL⟩ := def_at c X G 9 9 (x := "_law_least") (st := sLeastL) rfl rfl
  obtain ⟨gFinds, dFinds, FFinds⟩ := def_at c X G 10 10 (x := "_law_finds") (st := sFinds) rfl rfl
  obtain ⟨gCostL, dCostL, FCostL⟩ := def_at c X G 11 11 (x := "_law_cost") (st := sCostL) rfl rfl
  obtain ⟨gLowest, dLowest, FLowest⟩ := def_at c X G 12 12 (x := "_law_lowest") (st := sLowest) rfl rfl
  obtain ⟨gHoldsR, dHoldsR, FHoldsR⟩ := def_at c X G 13 13 (x := "_law_holds_right") (st := sHoldsR) rfl rfl
  obtain ⟨gDefR, dDefR, FDefR⟩ := def_at c X G 14 14 (x := "_law_defaults_right") (st := sDefR) rfl rfl
  obtain ⟨gLaw, dLaw, FLaw⟩ := def_at c X G 15 15 (x := "law") (st := sLaw) rfl rfl
  obtain ⟨gIsInt, dIsInt, FIsInt⟩ := def_at c X G 16 16 (x := "is_integer") (st := sIsInt) rfl rfl
  obtain ⟨gIsList, dIsList, FIsList⟩ := def_at c X G 17 17 (x := "is_list") (st := sIsList) rfl rfl
  obtain ⟨gIsPair, dIsPair, FIsPair⟩ := def_at c X G 18 18 (x := "is_pair") (st := sIsPair) rfl rfl
  obtain ⟨gIsCount, dIsCount, FIsCount⟩ := def_at c X G 19 19 (x := "is_count") (st := sIsCount) rfl rfl
  obtain ⟨gIsName, dIsName, FIsName⟩ := def_at c X G 20 20 (x := "is_name") (st := sIsName) rfl rfl
  obtain ⟨gIsOne, dIsOne, FIsOne⟩ := def_at c X G 21 21 (x := "is_one_of") (st := sIsOne) rfl rfl
  obtain ⟨gHasJust, dHasJust, FHasJust⟩ := def_at c X G 22 22 (x := "has_just") (st := sHasJust) rfl rfl
  obtain ⟨gFirst, dFirst, FFirst⟩ := def_at c X G 23 23 (x := "first_bad") (st := sFirst) rfl rfl
  obtain ⟨gCkK, dCkK, FCkK⟩ := def_at c X G 24 24 (x := "check_known") (st := sCkK) rfl rfl
  obtain ⟨gCkA, dCkA, FCkA⟩ := def_at c X G 25 25 (x := "check_asked") (st := sCkA) rfl rfl
  obtain ⟨gCkB, dCkB, FCkB⟩ := def_at c X G 26 26 (x := "check_both") (st := sCkB) rfl rfl
  obtain ⟨gCkLack, dCkLack, FCkLack⟩ := def_at c X G 27 27 (x := "check_lacking") (st := sCkLack) rfl rfl
  obtain ⟨gCkW, dCkW, FCkW⟩ := def_at c X G 28 28 (x := "check_weights") (st := sCkW) rfl rfl
  obtain ⟨gAskF, dAskF, FAskF⟩ := def_at c X G 29 29 (x := "asked_files") (st := sAskF) rfl rfl
  obtain ⟨gFewest, dFewest, FFewest⟩ := defF_at c X G 30 30 (x := "fewest") (st := sFewest) rfl rfl
  obtain ⟨gMeanF, dMeanF, FMeanF⟩ := defF_at c X G 31 31 (x := "mean_fewest") (st := sMeanF) rfl rfl
  obtain ⟨gHoldF, dHoldF, FHoldF⟩ := defF_at c X G 32 32 (x := "hold") (st := sHoldF) rfl rfl
  obtain ⟨gIsHold, dIsHold, FIsHold⟩ := defF_at c X G 33 33 (x := "is_hold") (st := sIsHold) rfl rfl
  obtain ⟨gIsTree, dIsTree, FIsTree⟩ := defF_at c X G 34 34 (x := "is_tree") (st := sIsTree) rfl rfl
  obtain ⟨gDepthOf, dDepthOf, FDepthOf⟩ := defF_at c X G 35 35 (x := "depth_of") (st := sDepthOf) rfl rfl
  obtain ⟨gHasInts, dHasInts, FHasInts⟩ := def_at c X G 36 36 (x := "_has_integers") (st := sHasInts) rfl rfl
  obtain ⟨gAreInts, dAreInts, FAreInts⟩ := def_at c X G 37 37 (x := "_are_integers") (st := sAreInts) rfl rfl
  obtain ⟨gBadRow, dBadRow, FBadRow⟩ := def_at c X G 38 38 (x := "_first_bad_row") (st := sBadRow) rfl rfl
  obtain ⟨dInit, FInit⟩ := init_at c 39 (C := "Table") (q := "Table.__init__") (st := sInit) rfl
  obtain ⟨mLenM, dLenM, FLenM⟩ := meth_at c 65 40 (m := "__len__") (q := "Table.__len__") (st := sLenM) rfl rfl
  obtain ⟨mQs, dQs, FQs⟩ := meth_at c 66 41 (m := "questions") (q := "Table.questions") (st := sQs) rfl rfl
  obtain ⟨mRowsM, dRowsM, FRowsM⟩ := meth_at c 67 42 (m := "rows") (q := "Table.rows") (st := sRowsM) rfl rfl
  obtain ⟨mDictOf, dDictOf, FDictOf⟩ := meth_at c 68 43 (m := "_dict_of") (q := "Table._dict_of") (st := sDictOf) rfl rfl
  obtain ⟨mIsTold, dIsTold, FIsTold⟩ := meth_at c 69 44 (m := "is_told") (q := "Table.is_told") (st := sIsTold) rfl rfl
  obtain ⟨mPlaces, dPlaces, FPlaces⟩ := meth_at c 82 57 (m := "_places") (q := "Table._places") (st := sPlaces) rfl rfl
  obtain ⟨mParting, dParting, FParting⟩ := meth_at c 83 58 (m := "_parting_rows") (q := "Table._parting_rows") (st := sParting) rfl rfl
  obtain ⟨dSInit, FSInit⟩ := init_at c 60 (C := "Search") (q := "Search.__init__") (st := sSInit) rfl
  obtain ⟨mWhole, dWhole, FWhole⟩ := smeth_at c 91 61 (m := "whole") (q := "Search.whole") (st := sWhole) rfl rfl
  obtain ⟨mPartsOf, dPartsOf, FPartsOf⟩ := smeth_at c 92 62 (m := "parts_of") (q := "Search.parts_of") (st := sPartsOf) rfl rfl
  obtain ⟨mCost, dCost, FCost⟩ := smeth_at c 93 63 (m := "cost") (q := "Search.cost") (st := sCost) rfl rfl
  obtain ⟨mTreeM, dTreeM, FTreeM⟩ := smeth_at c 94 64 (m := "tree") (q := "Search.tree") (st := sTreeM) rfl rfl
  obtain ⟨mHoldM, dHoldM, FHoldM⟩ := smeth_at c 95 65 (m := "hold") (q := "Search.hold") (st := sHoldM) rfl rfl
  obtain ⟨mIsHard, dIsHard, FIsHard⟩ := smeth_at c 96 66 (m := "is_hard") (q := "Search.is_hard") (st := sIsHard) rfl rfl
  obtain ⟨mBest, dBest, FBest⟩ := smeth_at c 97 67 (m := "_best") (q := "Search._best") (st := sBest) rfl rfl
  obtain ⟨mBestQ, dBestQ, FBestQ⟩ := smeth_at c 98 68 (m := "_best_question") (q := "Search._best_question") (st := sBestQ) rfl rfl
  obtain ⟨mCostOf, dCostOf, FCostOf⟩ := smeth_at c 99 69 (m := "_cost_of") (q := "Search._cost_of") (st := sCostOf) rfl rfl
  have n_list : mg "list" = none := He.free_ok X G (c.fact 41 rfl)
  have n_len : mg "len" = none := He.free_ok X G (c.fact 42 rfl)
  have n_int : mg "int" = none := He.free_ok X G (c.fact 43 rfl)
  have n_range : mg "range" = none := He.free_ok X G (c.fact 44 rfl)
  have n_dict : mg "dict" = none := He.free_ok X G (c.fact 45 rfl)
  have n_tuple : mg "tuple" = none := He.free_ok X G (c.fact 46 rfl)
  have n_str : mg "str" = none := He.free_ok X G (c.fact 47 rfl)
  have n_bool : mg "bool" = none := He.free_ok X G (c.fact 48 rfl)
  have n_isinstance : mg "isinstance" = none := He.free_ok X G (c.fact 49 rfl)
  have n_all : mg "all" = none := He.free_ok X G (c.fact 50 rfl)
  have n_any : mg "any" = none := He.free_ok X G (c.fact 51 rfl)
  have n_enumerate : mg "enumerate" = none := He.free_ok X G (c.fact 52 rfl)
  have n_zip : mg "zip" = none := He.free_ok X G (c.fact 53 rfl)
  have n_set : mg "set" = none := He.free_ok X G (c.fact 54 rfl)
  have n_max : mg "max" = none := He.free_ok X G (c.fact 55 rfl)
  have n_sorted : mg "sorted" = none := He.free_ok X G (c.fact 56 rfl)
  have n_sum : mg "sum" = none := He.free_ok X G (c.fact 57 rfl)
  have n_min : mg "min" = none := He.free_ok X G (c.fact 58 rfl)
  have n_abs : mg "abs" = none := He.free_ok X G (c.fact 59 rfl)
  have gC : mg "Table" = some (.ref (He.ga K "Table")) := He.glo_ok X G (c.fact 39 rfl)
  have gSe : mg "Search" = some (.ref (He.ga K "Search")) := He.glo_ok X G (c.fact 40 rfl)
  have gLo := He.int_ok X G (c.fact (f := .int "LONGEST" 40) 60 rfl)
  have gSg := He.str_ok X G (c.fact (f := .str "SIGNS" "abcdefghijklmnopqrstuvwxyz0123456789.") 61 rfl)
  have T0 : TabC K (He.ga K "Table") := ⟨He.cls_ok (c.fact 62 rfl), He.noat_ok (c.fact 63 rfl), He.noat_ok (c.fact 64 rfl)⟩
  have S0 : SeaC K (He.ga K "Search") := ⟨He.cls_ok (c.fact 85 rfl), He.noat_ok (c.fact 86 rfl), He.noat_ok (c.fact 87 rfl), He.noat_ok (c.fact 88 rfl), He.noat_ok (c.fact 89 rfl), He.noat_ok (c.fact 90 rfl)⟩
  have Ck : Chk K mg _ _ _ _ _ _ := ⟨⟨_, FFirst⟩, ⟨_, FIsList⟩, ⟨_, FIsOne⟩, ⟨_, FCkK⟩, ⟨_, FCkA⟩, ⟨_, FCkB⟩, gFirst, gIsList, gIsOne, gCkK, gCkA, gCkB, n_isinstance, n_list, n_tuple, n_str, n_enumerate⟩
  have M : Sm mg := ⟨n_isinstance, n_list, n_tuple, n_int, n_bool, n_len, n_all, n_zip⟩
  have gcd_ : mg "gcd" = some (.builtin "math.gcd") := PySem.W.mg_of X G (He.eqO_ok cc.mo)
  have MkT := He.mkr_ok (c.fact (f := .mkr "Table") 101 rfl)
  have MkS := He.mkr_ok (c.fact (f := .mkr "Search") 103 rfl)
  have e := hfa.symm.trans gLaw
  cases e
  obtain ⟨oc, od, kV, doc, pm, an, cdv, ct, osl, rfl, lk, hcd⟩ := id FLaw.ex
  refine ⟨PySem.W.fnOf "law" "law" (defArgs sLaw) (defBody sLaw) (defScope sLaw) .none kV doc pm an cdv ct, fun s v => .of_eq rfl, fun base _ _ _ => ?_⟩
  have EBadKnown : ErrF P w K mg base "BadKnown" (He.ga K "BadKnown") "index" := err_at cc X G 105 71 (q := "BadKnown.__init__") (st := sIBadKnown) rfl rfl (by simp [erT]) ⟨rfl, rfl, rfl, by decide +kernel, rfl, by decide +kernel, by decide +kernel⟩ rfl (by first | exact .inl rfl | exact .inr (.inl rfl)) (by first | exact .inl rfl | exact .inr (.inl rfl)) (by decide +kernel) (by decide +kernel) (fun _ _ _ _ _ _ us hl => match us, hl with | [_, _], _ => rfl)
  have ENoQuestion : ErrF P w K mg base "NoQuestion" (He.ga K "NoQuestion") "name" := err_at cc X G 106 72 (q := "NoQuestion.__init__") (st := sINoQuestion) rfl rfl (by simp [erT]) ⟨rfl, rfl, rfl, by decide +kernel, rfl, by decide +kernel, by decide +kernel⟩ rfl (by first | exact .inl rfl | exact .inr (.inl rfl)) (by first | exact .inl rfl | exact .inr (.inl rfl)) (by decide +kernel) (by decide +kernel) (fun _ _ _ _ _ _ us hl => match us, hl with | [_, _], _ => rfl)
  have EBadNumber : ErrF P w K mg base "BadNumber" (He.ga K "BadNumber") "thing" := err_at cc X G 107 73 (q := "BadNumber.__init__") (st := sIBadNumber) rfl rfl (by simp [erT]) ⟨rfl, rfl, rfl, by decide +kernel, rfl, by decide +kernel, by decide +kernel⟩ rfl (by first | exact .inl rfl | exact .inr (.inl rfl)) (by first | exact .inl rfl | exact .inr (.inl rfl)) (by decide +kernel) (by decide +kernel) (fun _ _ _ _ _ _ us hl => match us, hl with | [_, _], _ => rfl)
  have EBadWeight : ErrF P w K mg base "BadWeight" (He.ga K "BadWeight") "index" := err_at cc X G 108 74 (q := "BadWeight.__init__") (st := sIBadWeight) rfl rfl (by simp [erT]) ⟨rfl, rfl, rfl, by decide +kernel, rfl, by decide +kernel, by decide +kernel⟩ rfl (by first | exact .inl rfl | exact .inr (.inl rfl)) (by first | exact .inl rfl | exact .inr (.inl rfl)) (by decide +kernel) (by decide +kernel) (fun _ _ _ _ _ _ us hl => match us, hl with | [_, _], _ => rfl)
  have GRm := ok_rowsM (P := P) (w := w) (base := base) FRowsM T0 FDictOf mDictOf n_zip
  have SM : SeaM K mg (He.ga K "Search") _ _ _ _ _ := ⟨S0, ⟨_, FPartsOf⟩, mPartsOf, ⟨_, FCostOf⟩, mCostOf, ⟨_, FBestQ⟩, mBestQ, ⟨_, FBest⟩, mBest, ⟨_, FCost⟩, mCost, n_tuple, n_max, n_sum, n_len⟩
  have SP := ok_seaP (P := P) (w := w) (base := base) SM gSe MkS FSInit T0 FRowsM mRowsM GRm FWhole mWhole FIsHard mIsHard FHoldM mHoldM FAskF gAskF FQs mQs Ck EBadKnown ENoQuestion EBadNumber FIsCount gIsCount FIsInt gIsInt n_isinstance n_int n_bool n_list n_range
  have SW := ok_seaW (P := P) (w := w) (base := base) (fdW_ := He.ga K "Search") SM FWhole mWhole FTreeM mTreeM n_range
  have GPo : FnOk P w K mg base CX0 1 _ _ ["self", "part", "question"] (spPartsOf 0 none (He.ga K "Search")) := ok_partsOf FPartsOf S0 n_tuple
  have bPo := FPartsOf.binds (ps := ["self", "part", "question"]) fun _ _ _ _ _ _ us hl => match us, hl with | [_, _, _], _ => rfl
  have bLi := FIsList.binds (ps := ["thing"]) fun _ _ _ _ _ _ us hl => match us, hl with | [_], _ => rfl
  have GLi : FnOk P w K mg base CX0 1 _ _ ["thing"] (spIsListG K) := ok_isListG FIsList n_isinstance n_list n_tuple
  have bPr := FIsPair.binds (ps := ["thing"]) fun _ _ _ _ _ _ us hl => match us, hl with | [_], _ => rfl
  have bIt := FIsInt.binds (ps := ["thing"]) fun _ _ _ _ _ _ us hl => match us, hl with | [_], _ => rfl
  have GIt : FnOk P w K mg base CX0 1 _ _ ["thing"] (spIsIntG K) := ok_isIntG FIsInt n_isinstance n_int n_bool
  have GOn : FnOk P w K mg base CX0 1 _ _ ["names", "thing"] (spIsOne K) := ok_isOne FIsOne n_isinstance n_str
  have GHi : FnOk P w K mg base CX0 2 _ _ ["thing", "right"] spHasI := ok_hasI FHasInts FIsInt gIsInt GIt n_len n_all
  have HP : HoldP P w K mg base (He.ga K "Search") := { po := ⟨_, _, mPartsOf, GPo, bPo⟩, li := ⟨_, _, gIsList, FIsList.kp, GLi, bLi⟩, pr := ⟨_, _, gIsPair, FIsPair.kp, fun A => ok_isPair FIsPair FIsList gIsList n_isinstance n_list n_tuple n_len, bPr⟩, it := ⟨_, _, gIsInt, FIsInt.kp, GIt, bIt⟩, nI := n_isinstance, nD := n_dict, nN := n_len }
  have TP : TreeP P w K mg base (He.ga K "Search") := { po := ⟨_, _, mPartsOf, GPo, bPo⟩, pr := ⟨_, _, gIsPair, FIsPair.kp, ok_pairS FIsPair FIsList gIsList n_isinstance n_list n_tuple n_len, bPr⟩, it := ⟨_, _, gIsInt, FIsInt.kp, GIt, bIt⟩, on_ := ⟨_, _, gIsOne, FIsOne.kp, GOn, FIsOne.binds (ps := ["names", "thing"]) fun _ _ _ _ _ _ us hl => match us, hl with | [_, _], _ => rfl⟩, hi := ⟨_, _, gHasInts, FHasInts.kp, GHi, FHasInts.binds (ps := ["thing", "right"]) fun _ _ _ _ _ _ us hl => match us, hl with | [_, _], _ => rfl⟩, nI := n_isinstance, nD := n_dict, nN := n_len, nL := n_list }
  have GCt : FnOk P w K mg base CX0 2 _ _ ["thing"] (spIsCountG K) := ok_isCountG FIsCount FIsInt gIsInt n_isinstance n_int n_bool
  have GCW := ok_ckW (P := P) (w := w) (base := base) FCkW GLi gIsList FIsList GCt gIsCount FIsCount EBadWeight n_enumerate n_len
  have GHo := ok_holdF FHoldF SP
  have GIh := ok_isHoldF FIsHold SP HP
  have GFe := ok_fewT FFewest SP SW
  have GMe := ok_meanT FMeanF SP SW T0 FLenM mLenM FCkW gCkW GCW n_len n_list n_sum gcd_
  have GTr := ok_isTreeT FIsTree SP TP
  have bTr := bindsN (ps := ["table", "asked", "thing", "of"]) FIsTree fun T kV doc pm an cdv ct us its h1 h2 => match us, its, h1, h2 with | [_, _, _, _], [_], _, _ => ⟨_, rfl, rfl⟩
  have GDp := ok_depthT FDepthOf gIsTree FIsTree.kp GTr bTr gIsList FIsList.kp GLi bLi
  have CP : CallsP P w K mg base (He.ga K "Table") (He.ga K "NoQuestion") (He.ga K "BadKnown") (He.ga K "BadNumber") := { hold := ⟨_, _, gHoldF, FHoldF.kp, GHo, bindsN (ps := ["table", "asked", "n", "of"]) FHoldF fun T kV doc pm an cdv ct us its h1 h2 => match us, its, h1, h2 with | [_, _, _, _], [_], _, _ => ⟨_, rfl, rfl⟩, FHoldF.binds1 (ps := ["table", "asked", "n", "of"]) 3 0 (by simp) rfl fun T kV doc pm an cdv ct us its h1 h2 => match us, its, h1, h2 with | [_, _, _], [_], _, _ => ⟨_, rfl, rfl⟩⟩, isH := ⟨_, _, gIsHold, FIsHold.kp, GIh, bindsN (ps := ["table", "asked", "n", "thing", "of"]) FIsHold fun T kV doc pm an cdv ct us its h1 h2 => match us, its, h1, h2 with | [_, _, _, _, _], [_], _, _ => ⟨_, rfl, rfl⟩, FIsHold.binds1 (ps := ["table", "asked", "n", "thing", "of"]) 4 0 (by simp) rfl fun T kV doc pm an cdv ct us its h1 h2 => match us, its, h1, h2 with | [_, _, _, _], [_], _, _ => ⟨_, rfl, rfl⟩⟩, few := ⟨_, _, gFewest, FFewest.kp, GFe, bindsN (ps := ["table", "asked", "of"]) FFewest fun T kV doc pm an cdv ct us its h1 h2 => match us, its, h1, h2 with | [_, _, _], [_], _, _ => ⟨_, rfl, rfl⟩, FFewest.binds1 (ps := ["table", "asked", "of"]) 2 0 (by simp) rfl fun T kV doc pm an cdv ct us its h1 h2 => match us, its, h1, h2 with | [_, _], [_], _, _ => ⟨_, rfl, rfl⟩⟩, mean := ⟨_, _, gMeanF, FMeanF.kp, GMe, bindsN (ps := ["table", "weights", "asked", "of"]) FMeanF fun T kV doc pm an cdv ct us its h1 h2 => match us, its, h1, h2 with | [_, _, _, _], [_], _, _ => ⟨_, rfl, rfl⟩, FMeanF.binds1 (ps := ["table", "weights", "asked", "of"]) 3 0 (by simp) rfl fun T kV doc pm an cdv ct us its h1 h2 => match us, its, h1, h2 with | [_, _, _], [_], _, _ => ⟨_, rfl, rfl⟩⟩, tree := ⟨_, _, gIsTree, FIsTree.kp, GTr, bTr, FIsTree.binds1 (ps := ["table", "asked", "thing", "of"]) 3 0 (by simp) rfl fun T kV doc pm an cdv ct us its h1 h2 => match us, its, h1, h2 with | [_, _, _], [_], _, _ => ⟨_, rfl, rfl⟩⟩, depth := ⟨_, _, gDepthOf, FDepthOf.kp, GDp, FDepthOf.binds1 (ps := ["table", "asked", "tree", "of"]) 3 0 (by simp) rfl fun T kV doc pm an cdv ct us its h1 h2 => match us, its, h1, h2 with | [_, _, _], [_], _, _ => ⟨_, rfl, rfl⟩⟩ }
  have TM : TabM K (He.ga K "Table") _ _ _ _ := { toTabC := T0, Q := ⟨_, FQs⟩, I := ⟨_, FIsTold⟩, L := ⟨_, FPlaces⟩, R := ⟨_, FParting⟩, mQ := mQs, mI := mIsTold, mL := mPlaces, mR := mParting }
  have GTo := ok_isTold (P := P) (w := w) (base := base) FIsTold TM Ck
  have GDr : FnOk P w K mg base CX0 1 _ _ ["stream", "many"] spDraw := ok_draw FDraw n_int
  have GPi : FnOk P w K mg base CX0 2 _ _ ["stream", "some"] (spPick K) := ok_pick FPick FDraw gDraw n_int n_len
  have LQ : LawQ P w K mg base (He.ga K "Table") (He.ga K "NoQuestion") (He.ga K "BadKnown") (He.ga K "BadNumber") := { C := CP, T := T0, draw := ⟨_, _, gDraw, FDraw.kp, GDr, FDraw.binds (ps := ["stream", "many"]) fun _ _ _ _ _ _ us hl => match us, hl with | [_, _], _ => rfl⟩, pick := ⟨_, _, gPick, FPick.kp, GPi, FPick.binds (ps := ["stream", "some"]) fun _ _ _ _ _ _ us hl => match us, hl with | [_, _], _ => rfl⟩, least := ⟨_, _, gLeastL, FLeastL.kp, ok_leastA FLeastL gLeastL FParts gParts n_len n_set n_max n_sum n_list, FLeastL.binds (ps := ["rows", "asked", "of", "weights"]) fun _ _ _ _ _ _ us hl => match us, hl with | [_, _, _, _], _ => rfl⟩, finds := ⟨_, _, gFinds, FFinds.kp, ok_finds FFinds n_isinstance n_int, FFinds.binds (ps := ["rows", "asked", "tree"]) fun _ _ _ _ _ _ us hl => match us, hl with | [_, _, _], _ => rfl⟩, cost := ⟨_, _, gCostL, FCostL.kp, ok_cost_l FCostL n_isinstance n_int n_enumerate n_max, FCostL.binds (ps := ["rows", "tree", "weights"]) fun _ _ _ _ _ _ us hl => match us, hl with | [_, _, _], _ => rfl⟩, low := ⟨_, _, gLowest, FLowest.kp, ok_lowest FLowest n_int n_abs, FLowest.binds (ps := ["top", "bottom"]) fun _ _ _ _ _ _ us hl => match us, hl with | [_, _], _ => rfl⟩, same := ⟨_, _, gSame, FSame.kp, ok_sameF FSame gSame M 1, FSame.binds (ps := ["found", "due"]) fun _ _ _ _ _ _ us hl => match us, hl with | [_, _], _ => rfl⟩, hr := ⟨_, _, gHoldsR, FHoldsR.kp, ok_hr FHoldsR CP n_min, FHoldsR.binds (ps := ["table", "asked", "of", "due"]) fun _ _ _ _ _ _ us hl => match us, hl with | [_, _, _, _], _ => rfl⟩, dr := ⟨_, _, gDefR, FDefR.kp, ok_dr FDefR CP n_zip n_range, FDefR.binds (ps := ["table", "asked", "names", "weights"]) fun _ _ _ _ _ _ us hl => match us, hl with | [_, _, _, _], _ => rfl⟩, told := ⟨_, _, mIsTold, GTo, FIsTold.binds (ps := ["self", "known", "asked"]) fun _ _ _ _ _ _ us hl => match us, hl with | [_, _, _], _ => rfl⟩, nR := n_range, nA := n_all, nSm := n_sum, nT := n_tuple, nL := n_list, nE := n_enumerate }
  have GIn := ok_init (P := P) (w := w) (base := base) FInit T0 (ok_badRow FBadRow FIsList gIsList FIsInt gIsInt FIsName gIsName FHasJust gHasJust n_isinstance n_list n_tuple n_str n_enumerate n_len n_all n_dict n_int n_bool gLo gSg) FBadRow gBadRow n_list n_tuple
  exact ok_law FLaw { Q := LQ, start := ⟨_, _, gStart, FStart⟩, rows := ⟨_, _, gRows, FRows, ok_rows FRows FNames gNames FPick gPick FDraw gDraw n_int n_len n_range n_dict⟩, pick := ⟨_, _, gPick, FPick, GPi⟩, someN := ⟨_, _, gSome, FSome, ok_some FSome FMixed gMixed FDraw gDraw n_int n_len n_list n_range⟩, made := MkT, init := ⟨_, FInit, GIn⟩, gC := gC, nR := n_range, nL := n_list }
end L2.TB
open PySem PySem.W PySem.Calls PyProof.Rows
set_option maxHeartbeats 0 in
theorem PySem.Challenge.cw_twoworlds_k09_whole_fewest_questions_holds : PySem.Challenge.rw_twoworlds_k09_whole_fewest_questions.Holds := by
  w_on; o_law
  refine HandSHeadRun.head_imp (r := L2.TB.HdR.R) (q := L2.TB.HdR.qv) (H := L2.TB.hookK) (ob := L2.TB.obT) (M := 16000) (loose := L2.TB.HdR.names)
    (d := HandSHeadRun.topDef L2.TB.HdR.R.prog 60) (kwd := []) L2.TB.obT_eq L2.TB.HdR.run
    (by kernel_rfl) (by kernel_rfl) (by kernel_rfl) (by rfl)
    (by first | assumption | decide +kernel) (by decide +kernel) ⟨rfl, rfl, rfl, rfl, rfl, by decide +kernel⟩ ?hw ?hc
  case hw => w_witness2
  case hc =>
    refine LamX.walk_ofTsE (l := PySem.Challenge.rw_twoworlds_k09_whole_fewest_questions) (n := 63) (k := 47) (x := "script") (CX := fun _ => L2.CX0)
      rfl (by decide) (by kernel_rfl) ⟨rfl, by decide, by decide⟩ ?F (fun _ _ _ _ _ z => z)
    intro w mg fa h Y G hmg0
    obtain ⟨K, KX, c⟩ := Y
    have hmg : mg ("law" : PySem.Str) = some (.ref fa) := by
      have e : (HandSHeadRun.topDef L2.TB.HdR.R.prog 60).name = ("law" : PySem.Str) := by kernel_rfl
      rw [← e]; exact hmg0
    obtain ⟨fd, hb, hF⟩ := L2.TB.facts (P := PySem.Challenge.rw_twoworlds_k09_whole_fewest_questions.prog) (w := w) KX G hmg c
    exact ⟨K, KX, fd, L2.TB.csL K, L2.TB.spLawT K, fun p hp => c.emptyC hp, fun p hp => c.outC hp, fun p hp => PySem.W.codeHd_of_K KX (c.hdC hp), hb, fun H a ns hl _ hT hS => ⟨a, ns, rfl, hS, by omega, fun _ => rfl⟩, hF⟩
