import PyProof.Rows.All
import Wide.All
import OpenK.AllK
import Wide.FinOn
import HandS.ForMost
import HandS.Exc
import HandS.ExcInit
import HandS.IsInst
import HandS.Defaults
import HandS.Wide
import HandS.Conv
import HandS.Dict
import HandS.DictTup
import HandS.DictComp
import HandS.Flow
import HandS.Style
import HandS.TupSets
import HandS.NoneIn
import HandS.ForExc
import HandS.TryMany
import HandS.ExcField
import HandS.WordsExc
import HandS.HeadHook1
import HandS.HeadHook2
import HandS.Head0
import HandS.Head1
import HandS.Head2
import HandS.HeadEnd
import HandS.HeadHook4
import HandS.Nested
import HandS.Iter
import KE.GoesEnum
import HandS.More
import HandS.HotCalls
import HandS.ExcIs
import KE.KExcIs
import HandS.Codes
import HandS.Lambda
import KE.KEqNest
import KE.DatumMore
import KE.DataEq
import HandS.OwnEq
import PyProof.InstEq
import HandS.ListItems
import HandS.DictEq
import HandS.Walk
import HandS.WordsDict
import HandS.Zip
import HandS.ExcOwn
import PyProof.DictUpdate
import KE.KeyNested
import PyProof.DictFindH
import PyProof.DictTable
import HandS.TupLen
import KE.KDictWalk
import PyProof.TupleIter
import HandS.HeadWalk
import PySem.Challenge.RW_twoworlds_k31_whole_hidings
set_option Elab.async false
set_option linter.all false
set_option maxRecDepth 100000
set_option maxHeartbeats 40000000
namespace L2.TB
open PySem PySem.Spec PyProof.Rows
def topS (i : Nat) : Stmt := PySem.Challenge.pw_twoworlds_k31_whole_hidings.main.body.getD i (.Pass ⟨0, 0, 0, 0⟩)
abbrev sStart : Stmt := topS 43
abbrev sDraw : Stmt := topS 44
abbrev sPick : Stmt := topS 45
abbrev sMixed : Stmt := topS 46
abbrev sSame : Stmt := topS 47
abbrev sNameL : Stmt := topS 48
abbrev sNamesL : Stmt := topS 49
abbrev sArcsL : Stmt := topS 50
abbrev sLeads : Stmt := topS 51
abbrev sLiveL : Stmt := topS 52
abbrev sJoinedL : Stmt := topS 53
abbrev sNodesL : Stmt := topS 54
abbrev sIsOpen : Stmt := topS 55
abbrev sFewest : Stmt := topS 56
abbrev sAreLevL : Stmt := topS 57
abbrev sIsHidL : Stmt := topS 58
abbrev sHidsL : Stmt := topS 59
abbrev sLaw : Stmt := topS 60
abbrev sIsInt : Stmt := topS 12
abbrev sIsCount : Stmt := topS 13
abbrev sIsList : Stmt := topS 14
abbrev sIsPair : Stmt := topS 15
abbrev sIsName : Stmt := topS 16
abbrev sIsOne : Stmt := topS 17
abbrev sFirst : Stmt := topS 19
abbrev sCkK : Stmt := topS 20
abbrev sCkA : Stmt := topS 21
abbrev sCkB : Stmt := topS 22
abbrev sHasJust : Stmt := topS 18
abbrev sOnward : Stmt := topS 26
abbrev sBack : Stmt := topS 27
abbrev sEither : Stmt := topS 28
abbrev sReached : Stmt := topS 29
abbrev sJoined : Stmt := topS 30
abbrev sFree : Stmt := topS 34
abbrev sIsArc : Stmt := topS 35
abbrev sNodesOf : Stmt := topS 36
abbrev sHiding : Stmt := topS 38
abbrev sIsHiding : Stmt := topS 39
abbrev sLevelled : Stmt := topS 40
abbrev sAreLev : Stmt := topS 41
abbrev sTable : Stmt := topS 33
abbrev sInit : Stmt := inClass sTable 0
abbrev sQs : Stmt := inClass sTable 2
abbrev sArcs : Stmt := inClass sTable 11
abbrev sNodes : Stmt := inClass sTable 12
abbrev sLive : Stmt := inClass sTable 13
abbrev sIsLive : Stmt := inClass sTable 14
abbrev sIsTold : Stmt := inClass sTable 5
abbrev sIsGiven : Stmt := inClass sTable 15
abbrev sOthers : Stmt := inClass sTable 16
abbrev sIBadArc : Stmt := inClass (topS 8) 0
abbrev sIBadKnown : Stmt := inClass (topS 4) 0
abbrev sINoQuestion : Stmt := inClass (topS 5) 0
end L2.TB
/-! several except clauses, each with a name for the exception or without one -/
namespace TA
open PySem PySem.Spec PyProof.Rows L2
abbrev Cl := Value × Option Nat × (Addr → Value → Option Addr → TS)
/-- the ends of a suite whose name goes behind it -/
def goesE (i : Nat) (D : Ends) : Ends := { nx := fun σ H => D.nx (σ.set i none) H, rt := D.rt, bk := fun σ H => D.bk (σ.set i none) H, ct := fun σ H => D.ct (σ.set i none) H }
/-- what a clause does with the exception at a -/
def cl1 (k : Cl) (D : Ends) (a : Addr) (cls : Value) (d : Option Addr) (σ : L2.St) (H : Hp) : Prop := match k.2.1 with
  | none => k.2.2 a cls d D σ H
  | some i => k.2.2 a cls d (goesE i D) (σ.set i (some (.ref a))) H
def wCls (K : PySem.W.Frag) (Wout : WX) (D : Ends) : List Cl → WX
  | [] => Wout
  | k :: r => fun cls d σ H => ∃ b, PySem.W.exmOne K cls k.1 = some b ∧ (b = true → ∀ a, H a = none → cl1 k D a cls d σ H) ∧ (b = false → wCls K Wout D r cls d σ H)
/-- the name of a clause is a slot -/
def NamedAs (X : Cx) : Option Str → Option Nat → Prop
  | none, none => True
  | some n, some i => X.N[i]? = some n ∧ X.env.kindOf n = some .local
  | _, _ => False
inductive Cls (X : Cx) : List ExceptHandler → List Cl → Prop
  | nil : Cls X [] []
  | cons {x : Str} {on : Option Str} {k : Cl} {b₀ : Stmt} {suite : List Stmt} {np q : Pos} {hds : List ExceptHandler} {l : List Cl} (hn : NamedAs X on k.2.1) (hc : Names X x k.1)
      (hsu : ∀ (a : Addr) (oe : Obj) (cls : Value) (d : Option Addr) (pn : List (Addr × Obj)), Zc cls d oe → (∃ vs, oe.data = .fields vs) → PSs (X.suite a ((a, oe) :: pn)) (b₀ :: suite) (k.2.2 a cls d)) (r : Cls X hds l) :
      Cls X (.ExceptHandler (some (.Name x np)) on (b₀ :: suite) q :: hds) (k :: l)
section
variable {X : Cx} {body : List Stmt} {h₀ : ExceptHandler} {hds : List ExceptHandler} {l : List Cl} {pos : Pos} {tb : WX → TS} {Wout : WX}
theorem ps_try_cls (hs : X.stack = X.env :: X.outer) (hf : X.env.frame = some X.env.locals) (hN : X.N.Nodup) (tk : Takes X Wout)
    (hb : ∀ (W : WX) (pn : List (Addr × Obj)) (xe : Value → Shared → Prop), Takes (X.tr pn xe) W → PassesOwn (model X.prog X.w) X.A X.env xe → PSs (X.tr pn xe) body (tb W))
    (hh : Cls X (h₀ :: hds) l) : PS X (.Try body (h₀ :: hds) [] [] pos) (fun D σ H => tb (wCls X.K Wout D l) D σ H) := by
  refine ⟨fun pins s σ H D I reading => ?_⟩
  have okX := I.ok
  have frA : X.A.frames = some (X.env :: X.outer) := by rw [okX.frames, hs]
  refine wpAny_Try_except (wpAny_mono ((hb (wCls X.K Wout D l) (X.pn ++ pins) (fun e s1 => wpAny (model X.prog X.w) X.A (noteFrame e X.env)
    (fun _ s2 => wpAny (model X.prog X.w) X.A (setFlight e none) (fun _ s3 => wpAny (model X.prog X.w) X.A (handleBy e X.env (h₀ :: hds)) (SP X pins D) X.xe s3) X.xe s2) X.xe s1)
    (fun ev s1 caught => ?_) PassesOwn.looking).run [] s σ H D (I.toTry _) reading) (fun fl s1 done => ?_) (fun _ _ z => z))
  · obtain ⟨a, B, sI, pinsT, σ1, H1, cls, d, rfl, JT, nb, up1, sky, fresh, osE, bare, wish⟩ := caught
    have J : Inv X pins σ1 H1 sI := JT.ofTry okX
    show wpAny (model X.prog X.w) X.A (noteFrame (.ref a) X.env) _ _ _
    refine Sky.land Zc.steady frA hf (by rw [← hs]; exact sky) fun hL landed upL => ?_
    have JL : Inv X pins σ1 H1 { s1 with heap := hL } := J.landed nb landed.1 (up1.trans upL) osE bare
    obtain ⟨oL, vL, eL, zL, dL⟩ := landed.there
    have offFrames : a ∉ frs (X.env :: X.outer) := fun hm => by
      obtain ⟨_, o2, e2, no⟩ := landed.2.2.1.mem hm
      rw [eL] at e2
      cases e2
      exact no _ dL
    have offLocals : a ≠ X.env.locals := fun z => offFrames (List.mem_filterMap.mpr ⟨X.env, List.mem_cons_self, by rw [hf, z]⟩)
    have offFs : a ∉ X.fs := fun hm => by
      obtain ⟨e, he, q⟩ := List.mem_filterMap.mp hm
      exact offFrames (List.mem_filterMap.mpr ⟨e, List.mem_cons_of_mem _ he, q⟩)
    have SL := JL.suite eL dL fresh offLocals offFs
    have along : ∀ {hd2 : List ExceptHandler} {l2 : List Cl}, Cls X hd2 l2 → wCls X.K Wout D l2 cls d σ1 H1 → wpAny (model X.prog X.w) X.A (handleBy (.ref a) X.env hd2) (SP X pins D) X.xe { s1 with heap := hL } := by
      intro hd2 l2 hk
      induction hk with
      | nil =>
        intro w
        refine wpAny_handleBy_nil ?_
        obtain ⟨_, _, _, oe, vs, T, oT, _, he, _, hd, h1, _⟩ := id landed
        unfold PySem.passOn
        refine wpAny_bind (wpAny_field he hd h1 ?_)
        rw [if_neg (by simp)]
        have out : wpAny (model X.prog X.w) X.A (setFlight (.ref a) X.env.frame) (fun _ s4 => wpAny (model X.prog X.w) X.A (throw (.ref a) : Sem Flow) (SP X pins D) X.xe s4) X.xe { s1 with heap := hL } := by
          rw [hf]
          exact HandSPX.setFlight_upZ landed fun h4 up4 more => wpAny_throw (tk _ _ ⟨a, B, sI, pins, σ1, H1, cls, d, rfl, J, nb, (up1.trans upL).trans more, .inr (.inr (by rw [hs]; exact up4)), fresh, osE, bare, w⟩)
        first
          | exact wpAny_bind (wpAny_pure (wpAny_bind out))
          | exact wpAny_bind out
      | @cons x on k b₀ suite np q hds3 l3 hn hc hsu r ih =>
        intro w
        obtain ⟨b, isIt, yes, no⟩ := w
        refine wpAny_handleBy_cons (codeAny_handlers_test ?_) (fun z => by cases z)
        have seesClass : PySem.W.Looks (model X.prog X.w) hL (typeOf (.ref a)) cls := fun A Q E s2 kk go => wpAny_typeOf_ref (kk _ _ eL) (by rw [zL.1]; exact go)
        have matched := PySem.W.exm_one (M := model X.prog X.w) JL.kIn seesClass isIt
        have named : ∀ {Q E : Value → Shared → Prop}, Q k.1 { s1 with heap := hL } → wpAny (model X.prog X.w) (X.A.mark (some (.ref a))) (eval (.Name x np) X.env) Q E { s1 with heap := hL } := fun {Q E} go => by
          rcases hc with ⟨g1, g2, g3 | ⟨g3, g4, g5⟩⟩
          · exact ld_glob (X := X.suite a ((a, oL) :: (X.pn ++ pins))) SL g1 g3 go g2
          · exact ld_blt (X := X.suite a ((a, oL) :: (X.pn ++ pins))) SL g1 g3 g4 go g5 g2
        refine named (matched.here ?_)
        cases b with
        | false => exact ih (no rfl)
        | true =>
          obtain ⟨kc, oi, kt⟩ := k
          match on, oi, hn with
          | none, none, _ =>
            refine codeAny_handlers_suite (HandSPX.lands_againZ landed fun h4 l4 up4 => ?_)
            have J4 : Inv X pins σ1 H1 { s1 with heap := h4 } := J.landed nb l4.1 ((up1.trans upL).trans up4) osE bare
            obtain ⟨o4, v4, e4, z4, d4⟩ := l4.there
            have S4 := J4.suite e4 d4 fresh offLocals offFs
            refine wpAny_mono ((hsu a o4 cls d (X.pn ++ pins) z4 ⟨_, d4⟩).run [] _ σ1 H1 D S4 (yes rfl a fresh)) (fun f2 s6 hsp => ?_) (fun _ _ z => False.elim z)
            cases f2 with
            | ret u =>
              obtain ⟨v6, σ6, H6, S6, r6, q6⟩ := hsp
              exact ⟨v6, σ6, H6, S6.unsuite okX, r6, q6⟩
            | next => exact hsp.imp fun σ6 z => z.imp fun H6 z => ⟨z.1.unsuite okX, z.2⟩
            | brk => exact hsp.imp fun σ6 z => z.imp fun H6 z => ⟨z.1.unsuite okX, z.2⟩
            | cont => exact hsp.imp fun σ6 z => z.imp fun H6 z => ⟨z.1.unsuite okX, z.2⟩
          | some n, some i, hn =>
            refine codeAny_handlers_suite_as (HandSPX.lands_againZ landed fun h4 l4 up4 => ?_)
            have J4 : Inv X pins σ1 H1 { s1 with heap := h4 } := J.landed nb l4.1 ((up1.trans upL).trans up4) osE bare
            obtain ⟨o4, v4, e4, z4, d4⟩ := l4.there
            have S4 := J4.suite e4 d4 fresh offLocals offFs
            refine store_ok (X := X.suite a ((a, o4) :: (X.pn ++ pins))) (v := .ref a) S4 hN hn.1 (.inl hn.2) rfl (fun s5 S5 => ?_) (.inr hn.2)
            refine wpAny_mono ((hsu a o4 cls d (X.pn ++ pins) z4 ⟨_, d4⟩).run [] s5 _ H1 _ S5 (yes rfl a fresh)) (fun f2 s6 hsp => ?_) (fun _ _ z => False.elim z)
            have gone : ∀ {σ6 : L2.St} {H6 : Hp} {Q : Shared → Prop}, Inv (X.suite a ((a, o4) :: (X.pn ++ pins))) [] σ6 H6 s6 → (∀ s7, Inv X pins (σ6.set i none) H6 s7 → Q s7) →
                wpAny (model X.prog X.w) X.A (do bindName X.env n .none; unbindBehindTheSuite X.env n q) (fun _ s7 => Q s7) X.xe s6 := fun S6 go => gone_ok (S6.unsuite okX) hN hn.1 hn.2 go
            cases f2 with
            | ret u =>
              obtain ⟨v6, σ6, H6, S6, r6, q6⟩ := hsp
              exact gone S6 fun _ J7 => ⟨v6, _, H6, J7, r6, q6⟩
            | next => obtain ⟨σ6, H6, S6, q6⟩ := hsp; exact gone S6 fun _ J7 => ⟨_, H6, J7, q6⟩
            | brk => obtain ⟨σ6, H6, S6, q6⟩ := hsp; exact gone S6 fun _ J7 => ⟨_, H6, J7, q6⟩
            | cont => obtain ⟨σ6, H6, S6, q6⟩ := hsp; exact gone S6 fun _ J7 => ⟨_, H6, J7, q6⟩
    exact along hh wish
  · cases fl with
    | ret u =>
      obtain ⟨v, σ1, H1, J1, r, q⟩ := done
      exact ⟨v, σ1, H1, J1.ofTry okX, r, q⟩
    | next =>
      obtain ⟨σ1, H1, J1, q⟩ := done
      exact wpAny_execs_nil ⟨σ1, H1, J1.ofTry okX, q⟩
    | brk => exact done.imp fun σ1 z => z.imp fun H1 z => ⟨z.1.ofTry okX, z.2⟩
    | cont => exact done.imp fun σ1 z => z.imp fun H1 z => ⟨z.1.ofTry okX, z.2⟩
end
end TA
/-! classes of errors with an `__init__` of one parameter: what the top's end must say, how such an error is raised -/
namespace L2.TB
open PySem PySem.Spec PyProof.Rows
/-- the class at C: an error over ValueError whose own bases are classes -/
def ownB (K : PySem.W.Frag) (C : Addr) : Bool := match K.lookup C with
  | some ⟨.type "type", _, .cls cd, sl⟩ => (match cd.mro, sl.toList with
    | .ref C' :: bm, [_, _, _, _, some (.builtin n), _] => C' == C && (n == "ValueError.__new__" && (!cd.hasDel && (cd.hasDict && PySem.HandSPX.refsVE bm)))
    | _, _ => false)
  | _ => false
theorem ownB_ok {K : PySem.W.Frag} {C : Addr} (h : ownB K C = true) :
    ∃ nm q N bs bm sn sub ab col dd k0 k1 k2 k3 k5, K.lookup C = some (excClassObj nm q C N bs bm true sn sub ab col dd k0 k1 k2 k3 k5 "ValueError.__new__") ∧ PySem.HandSPX.refsVE bm = true := by
  unfold ownB at h
  split at h
  · rename_i dd cd sl lk
    split at h
    · rename_i C' bm k0 k1 k2 k3 n k5 em es
      simp only [Bool.and_eq_true, beq_iff_eq, Bool.not_eq_true'] at h
      obtain ⟨rfl, rfl, hd, hh, hr⟩ := h
      obtain ⟨nm, bs, mro, ns, qn, hdc, sn, sub, ab, col, del⟩ := cd
      dsimp only at em hd hh
      subst em hd hh
      have e : sl = #[k0, k1, k2, k3, some (.builtin "ValueError.__new__"), k5] := by
        obtain ⟨l⟩ := sl
        simp only at es
        rw [es]
      subst e
      exact ⟨nm, qn, ns, bs, bm, sn, sub, ab, col, dd, k0, k1, k2, k3, k5, lk, hr⟩
    · cases h
  · cases h
def errB (K : PySem.W.Frag) (x f : Str) : Bool := ownB K (He.ga K x) &&
  (He.eqO (PySem.W.findIn K (.ref (He.ga K x)) "__setattr__") (some (some (.builtin "object.__setattr__"))) &&
  (decide (PySem.W.subIn K (.ref (He.ga K x)) (.type "BaseException") = some true) && (decide (PySem.W.typeIn K (.ref (He.ga K x)) = some (.type "type")) && (PySem.W.keepIn K (.ref (He.ga K x)) &&
  (He.eqO (PySem.W.findIn K (.ref (He.ga K x)) f) (some none) && (He.eqO (PySem.W.findIn K (.ref (He.ga K x)) "__init__") (some (some (.ref (He.ma K (He.ga K x) "__init__")))) &&
  (decide (PySem.W.typeIn K (.ref (He.ma K (He.ga K x) "__init__")) = some (.type "function")) && xfB K (He.ga K x))))))))
/-- a class of errors at C, its `__init__` at fI, its one field fld -/
structure ErrC (K : PySem.W.Frag) (C fI : Addr) (fld : Str) : Prop where
  o : OexC K C
  no : PySem.W.findIn K (.ref C) fld = some none
  ini : PySem.W.findIn K (.ref C) "__init__" = some (some (.ref fI))
  fn : PySem.W.typeIn K (.ref fI) = some (.type "function")
  xf : XfC K C
theorem errB_ok {K : PySem.W.Frag} {x f : Str} (h : errB K x f = true) : ErrC K (He.ga K x) (He.ma K (He.ga K x) "__init__") f := by
  obtain ⟨h1, h⟩ := He.ba h
  obtain ⟨h2, h⟩ := He.ba h
  obtain ⟨h3, h⟩ := He.ba h
  obtain ⟨h4, h⟩ := He.ba h
  obtain ⟨h5, h⟩ := He.ba h
  obtain ⟨h6, h⟩ := He.ba h
  obtain ⟨h7, h⟩ := He.ba h
  obtain ⟨h8, h9⟩ := He.ba h
  exact ⟨⟨ownB_ok h1, He.eqO_ok h2, of_decide_eq_true h3, of_decide_eq_true h4, h5⟩, He.eqO_ok h6, He.eqO_ok h7, of_decide_eq_true h8, xfB_ok h9⟩
/-- self.fld = it -/
def spErr (K : PySem.W.Frag) (fld : Str) : Sp := fun vs H Q _ => ∃ (a C : Addr) (v : V), vs = [.ref a, v] ∧ OexC K C ∧ PySem.W.findIn K (.ref C) fld = some none ∧ H a = some (exo a C none) ∧
  ∀ dx, H dx = none → dx ≠ a → Q .non (upd (upd H dx (exd dx [(fld, v)])) a (exo a C (some dx)))
section
variable {P : Program} {w : World} {K : PySem.W.Frag} {mg : Str → Option Value} {base : Heap} {f : Addr} {fd : FuncData}
theorem ok_errInit {q y fld : Str} {st : Stmt} {p0 p1 p2 p3 : Pos} (F : Fun K "__init__" q st f fd) (S : FnScope ["self", y] ["self", y] (defScope st)) (hb : defBody st = [.Assign [.Attribute (.Name "self" p0) fld p1] (.Name y p2) p3])
    (hv0 : Vis (defScope st) "self") (hv1 : Vis (defScope st) y) (hdy : (y == ("__debug__" : Str)) = false) (hcy : (y == ("__classdict__" : Str)) = false) : FnOk P w K mg base CX0 1 f fd ["self", y] (spErr K fld) := by
  refine F.ok S (fun vs H Q E h => by obtain ⟨a, C, v, e, _⟩ := h; rw [e]; rfl) fun cdv A outer s H vs Q E hr hsp => ?_
  obtain ⟨a, C, v, rfl, T, no, ha, hq⟩ := hsp
  rw [hb]
  refine ⟨_, pss_one (ps_ost (pe_var (i := 0) rfl hv0 (by decide) (by decide)) (pe_var (i := 1) rfl hv1 hdy hcy) rfl), ?_⟩
  exact ⟨_, rfl, _, rfl, a, C, rfl, T, no, .inl ⟨ha, hq⟩⟩
end
/-- x(e), to be raised -/
theorem pmk_err {X : Cx} {x fld : Str} {C fI : Addr} {fd : FuncData} {y : Str} {e : Expr} {te : TE} {p pos : Pos} (E : ErrC X.K C fI fld) (F : FnOk X.prog X.w X.K X.mg X.base CX0 1 fI fd ["self", y] (spErr X.K fld)) (hb : Binds X.K fd ["self", y] [])
    (hr : Room 2 X.A) (hg : Gl X x) (hm : X.mg x = some (.ref C)) (he : PE X e te) (hdb : (x == ("__debug__" : Str)) = false := by decide) (hs : starEach [e] X.env = (false, eval e X.env) :: starEach [] X.env := by rfl) :
    PMk X (.Call (.Name x p) [e] [] pos) (tMkO C (spErr X.K fld) [] (tCons te tNil)) := pmk_oex (x := x) (es := []) (ta := tCons te tNil) (ds := []) (dvs := []) E.o E.ini E.fn F hr hb .nil pass0 hg hm (pa_cons he pa_nil (hs := hs)) hdb hs rfl
/-- what must hold where x(v) flies: d is its dict -/
theorem mk_rs {K : PySem.W.Frag} {fld : Str} {C fI : Addr} {v : V} {H1 : Hp} {Q : XK} (E : ErrC K C fI fld) (h : ∀ d, H1 d = none → Q (.ref C) (some d) (upd H1 d (.xd [(fld, v)]))) :
    [v].length ≤ 1000 ∧ ∀ a, H1 a = none → spErr K fld (.ref a :: ([v] ++ [])) (upd H1 a (exo a C none))
      (fun v H2 => v = .non ∧ ∃ (d : Addr) (fs : List (Str × V)), H2 a = some (exo a C (some d)) ∧ H2 d = some (exd d fs) ∧ H1 d = none ∧ Q (.ref C) (some d) (upd (del H2 a) d (.xd fs))) (fun _ _ _ => False) := by
  refine ⟨by show 1 ≤ 1000; omega, fun a ha => ⟨a, C, v, rfl, E.o, E.no, upd_same, fun dx hdx ne => ⟨rfl, dx, _, upd_same, by rw [upd_ne ne, upd_same], ?_, ?_⟩⟩⟩
  · rw [upd_ne ne] at hdx; exact hdx
  · have n1 : H1 dx = none := by rw [upd_ne ne] at hdx; exact hdx
    have e : upd (del (upd (upd (upd H1 a (exo a C none)) dx (exd dx [(fld, v)])) a (exo a C (some dx))) a) dx (.xd [(fld, v)]) = upd H1 dx (.xd [(fld, v)]) := by
      funext b
      by_cases h1 : b = dx
      · subst h1; rw [upd_same, upd_same]
      · rw [upd_ne h1, upd_ne h1]
        by_cases h2 : b = a
        · subst h2; rw [del_same, ha]
        · rw [del_ne h2, upd_ne h2, upd_ne h1, upd_ne h2]
    rw [e]
    exact h dx n1
/-- an error of the class at C flies from here, v in its field -/
def Flies (C : Addr) (fld : Str) (v : V) (H : Hp) (E : XK) : Prop := ∀ d H', Same H H' → H d = none → H' d = some (.xd [(fld, v)]) → E (.ref C) (some d) H'
theorem Flies.same {C : Addr} {fld : Str} {v : V} {H H' : Hp} {E : XK} (h : Flies C fld v H E) (s : Same H H') : Flies C fld v H' E := fun d H2 s2 n e => h d H2 (s.trans s2) (by
  cases q : H d with
  | none => rfl
  | some o => rw [s _ _ q] at n; cases n) e
theorem Flies.mk {K : PySem.W.Frag} {fld : Str} {C fI : Addr} {v : V} {H1 : Hp} {Q : XK} (E : ErrC K C fI fld) (h : Flies C fld v H1 Q) :
    [v].length ≤ 1000 ∧ ∀ a, H1 a = none → spErr K fld (.ref a :: ([v] ++ [])) (upd H1 a (exo a C none))
      (fun v H2 => v = .non ∧ ∃ (d : Addr) (fs : List (Str × V)), H2 a = some (exo a C (some d)) ∧ H2 d = some (exd d fs) ∧ H1 d = none ∧ Q (.ref C) (some d) (upd (del H2 a) d (.xd fs))) (fun _ _ _ => False) :=
  mk_rs E fun d n => h d _ (fun b o e => by rw [upd_ne (ne_of_none e n)]; exact e) n upd_same
end L2.TB
namespace L2.TB
open PySem PySem.Spec PyProof.Rows
/-! ### what the top leaves, by addresses -/
def asK : List Nat := ([3, 6, 4, 21, 31, 51, 70, 89, 108, 127, 146, 155, 162, 169, 176, 181, 188, 193, 200, 207, 214, 221, 226, 231, 236, 241, 248, 255, 262, 269, 396, 405, 412, 419, 424, 429, 434, 439, 446, 453] : List Nat) ++
  ([460, 465, 470, 475, 480, 487, 494, 499, 504, 511, 516, 521, 526, 531, 536, 543, 20, 30, 50, 69, 88, 107, 126, 145, 154, 161, 168, 175, 180, 187, 192, 199, 206, 213, 220, 225, 230, 235, 240, 247] : List Nat) ++
  ([254, 261, 268, 395, 404, 411, 418, 423, 428, 433, 438, 445, 452, 459, 464, 469, 474, 479, 486, 493, 498, 503, 510, 515, 520, 525, 530, 535, 542, 15, 16, 17, 18, 19, 29, 32, 48, 49, 67, 68] : List Nat) ++
  ([86, 87, 105, 106, 124, 125, 143, 144, 149, 150, 151, 152, 153, 156, 157, 158, 159, 160, 163, 164, 165, 166, 167, 170, 171, 172, 173, 174, 177, 178, 179, 182, 183, 184, 185, 186, 189, 190, 191, 194] : List Nat) ++
  ([195, 196, 197, 198, 201, 202, 203, 204, 205, 208, 209, 210, 211, 212, 215, 216, 217, 218, 219, 222, 223, 224, 227, 228, 229, 232, 233, 234, 237, 238, 239, 242, 243, 244, 245, 246, 249, 250, 251, 252] : List Nat) ++
  ([253, 256, 257, 258, 259, 260, 263, 264, 265, 266, 267, 281, 288, 295, 302, 307, 314, 319, 324, 329, 336, 343, 348, 355, 362, 369, 376, 381, 388, 393, 394, 397, 398, 401, 402, 403, 406, 407, 408, 409] : List Nat) ++
  ([410, 413, 414, 415, 416, 417, 420, 421, 422, 425, 426, 427, 430, 431, 432, 435, 436, 437, 440, 441, 442, 443, 444, 447, 448, 449, 450, 451, 454, 455, 456, 457, 458, 461, 462, 463, 466, 467, 468, 471] : List Nat) ++
  ([472, 473, 476, 477, 478, 481, 482, 483, 484, 485, 488, 489, 490, 491, 492, 495, 496, 497, 500, 501, 502, 505, 506, 507, 508, 509, 512, 513, 514, 517, 518, 519, 522, 523, 524, 527, 528, 529, 532, 533] : List Nat) ++
  ([534, 537, 538, 539, 540, 541, 47, 66, 85, 104, 123, 142, 280, 287, 294, 301, 306, 313, 318, 323, 328, 335, 342, 347, 354, 361, 368, 375, 380, 387, 392, 42, 43, 44, 45, 46, 61, 62, 63, 64] : List Nat) ++
  ([65, 80, 81, 82, 83, 84, 99, 100, 101, 102, 103, 118, 119, 120, 121, 122, 137, 138, 139, 140, 141, 277, 278, 279, 282, 283, 284, 285, 286, 289, 290, 291, 292, 293, 296, 297, 298, 299, 300, 303] : List Nat) ++
  ([304, 305, 308, 309, 310, 311, 312, 315, 316, 317, 320, 321, 322, 325, 326, 327, 330, 331, 332, 333, 334, 337, 338, 339, 340, 341, 344, 345, 346, 349, 350, 351, 352, 353, 356, 357, 358, 359, 360, 363] : List Nat) ++
  ([364, 365, 366, 367, 370, 371, 372, 373, 374, 377, 378, 379, 382, 383, 384, 385, 386, 389, 390, 391] : List Nat)
def dfd (p : Str × Option Str) (x q : Str) (st : Stmt) (dv : List He.Dv) : He.DefD := { at_ := p, name := x, qual := q, params := defArgs st, body := defBody st, scope := defScope st, dfl := dv }
def fnT : List He.DefD := ([dfd ("_law_start", none) "_law_start" "_law_start" sStart [], dfd ("_law_draw", none) "_law_draw" "_law_draw" sDraw [], dfd ("_law_pick", none) "_law_pick" "_law_pick" sPick [], dfd ("_law_mixed", none) "_law_mixed" "_law_mixed" sMixed [], dfd ("_law_same", none) "_law_same" "_law_same" sSame [], dfd ("_law_name", none) "_law_name" "_law_name" sNameL [], dfd ("_law_names", none) "_law_names" "_law_names" sNamesL [], dfd ("_law_c_arcs", none) "_law_c_arcs" "_law_c_arcs" sArcsL []] : List He.DefD) ++
  ([dfd ("_law_c_leads", none) "_law_c_leads" "_law_c_leads" sLeads [], dfd ("_law_c_live", none) "_law_c_live" "_law_c_live" sLiveL [], dfd ("_law_c_joined", none) "_law_c_joined" "_law_c_joined" sJoinedL [], dfd ("_law_c_nodes", none) "_law_c_nodes" "_law_c_nodes" sNodesL [], dfd ("_law_c_is_open", none) "_law_c_is_open" "_law_c_is_open" sIsOpen [], dfd ("_law_c_fewest", none) "_law_c_fewest" "_law_c_fewest" sFewest [], dfd ("_law_c_are_levels", none) "_law_c_are_levels" "_law_c_are_levels" sAreLevL [], dfd ("_law_c_is_hiding", none) "_law_c_is_hiding" "_law_c_is_hiding" sIsHidL []] : List He.DefD) ++
  ([dfd ("_law_c_hidings", none) "_law_c_hidings" "_law_c_hidings" sHidsL [], dfd ("law", none) "law" "law" sLaw [], dfd ("is_integer", none) "is_integer" "is_integer" sIsInt [], dfd ("is_count", none) "is_count" "is_count" sIsCount [], dfd ("is_list", none) "is_list" "is_list" sIsList [], dfd ("is_pair", none) "is_pair" "is_pair" sIsPair [], dfd ("is_name", none) "is_name" "is_name" sIsName [], dfd ("is_one_of", none) "is_one_of" "is_one_of" sIsOne []] : List He.DefD) ++
  ([dfd ("first_bad", none) "first_bad" "first_bad" sFirst [], dfd ("check_known", none) "check_known" "check_known" sCkK [], dfd ("check_asked", none) "check_asked" "check_asked" sCkA [], dfd ("check_both", none) "check_both" "check_both" sCkB [], dfd ("has_just", none) "has_just" "has_just" sHasJust [], dfd ("onward", none) "onward" "onward" sOnward [], dfd ("back", none) "back" "back" sBack [], dfd ("either_way", none) "either_way" "either_way" sEither []] : List He.DefD) ++
  ([dfd ("reached", none) "reached" "reached" sReached [], dfd ("is_joined", none) "is_joined" "is_joined" sJoined [], dfd ("free_arcs", none) "free_arcs" "free_arcs" sFree [], dfd ("_is_arc", none) "_is_arc" "_is_arc" sIsArc [], dfd ("_nodes_of", none) "_nodes_of" "_nodes_of" sNodesOf [], dfd ("hiding", none) "hiding" "hiding" sHiding [], dfd ("is_hiding", none) "is_hiding" "is_hiding" sIsHiding [], dfd ("_levelled", none) "_levelled" "_levelled" sLevelled []] : List He.DefD) ++
  ([dfd ("_are_levels", none) "_are_levels" "_are_levels" sAreLev [], dfd ("Net", some "__init__") "__init__" "Net.__init__" sInit [], dfd ("Net", some "questions") "questions" "Net.questions" sQs [], dfd ("Net", some "arcs") "arcs" "Net.arcs" sArcs [], dfd ("Net", some "nodes") "nodes" "Net.nodes" sNodes [], dfd ("Net", some "live") "live" "Net.live" sLive [], dfd ("Net", some "_is_live") "_is_live" "Net._is_live" sIsLive [], dfd ("Net", some "is_told") "is_told" "Net.is_told" sIsTold []] : List He.DefD) ++
  ([dfd ("Net", some "_is_given") "_is_given" "Net._is_given" sIsGiven [], dfd ("Net", some "_others") "_others" "Net._others" sOthers [], dfd ("BadArc", some "__init__") "__init__" "BadArc.__init__" sIBadArc [], dfd ("BadKnown", some "__init__") "__init__" "BadKnown.__init__" sIBadKnown [], dfd ("NoQuestion", some "__init__") "__init__" "NoQuestion.__init__" sINoQuestion []] : List He.DefD)
def faT : List He.Fa := ([.glo "_law_start", .glo "_law_draw", .glo "_law_pick", .glo "_law_mixed", .glo "_law_same", .glo "_law_name", .glo "_law_names", .glo "_law_c_arcs", .glo "_law_c_leads", .glo "_law_c_live", .glo "_law_c_joined", .glo "_law_c_nodes", .glo "_law_c_is_open", .glo "_law_c_fewest", .glo "_law_c_are_levels", .glo "_law_c_is_hiding"] : List He.Fa) ++
  ([.glo "_law_c_hidings", .glo "law", .glo "is_integer", .glo "is_count", .glo "is_list", .glo "is_pair", .glo "is_name", .glo "is_one_of", .glo "first_bad", .glo "check_known", .glo "check_asked", .glo "check_both", .glo "has_just", .glo "onward", .glo "back", .glo "either_way"] : List He.Fa) ++
  ([.glo "reached", .glo "is_joined", .glo "free_arcs", .glo "_is_arc", .glo "_nodes_of", .glo "hiding", .glo "is_hiding", .glo "_levelled", .glo "_are_levels", .glo "Net", .glo "WorldError", .free "list", .free "len", .free "int", .free "range", .free "dict"] : List He.Fa) ++
  ([.free "tuple", .free "str", .free "bool", .free "isinstance", .free "all", .free "any", .free "enumerate", .free "zip", .free "abs", .int "LONGEST" 40, .str "SIGNS" "abcdefghijklmnopqrstuvwxyz0123456789.", .cls "Net", .noat "Net" "_arcs", .noat "Net" "_nodes", .noat "Net" "_live", .meth "Net" "questions"] : List He.Fa) ++
  ([.meth "Net" "arcs", .meth "Net" "nodes", .meth "Net" "live", .meth "Net" "_is_live", .meth "Net" "is_told", .meth "Net" "_is_given", .meth "Net" "_others", .meth "Net" "__init__", .mkr "Net", .glo "BadArc", .glo "BadKnown", .glo "NoQuestion"] : List He.Fa)
/-- the defs that hold a def, a lambda -/
def tfT : List He.Defn := []
/-- the classes of errors, each with its field -/
def erT : List (Str × Str) := [("BadArc", "name"), ("BadKnown", "index"), ("NoQuestion", "name")]
/-- of the class besides -/
def clsB (K : PySem.W.Frag) (C : Addr) : Bool := He.eqO (PySem.W.findIn K (.ref C) "__class__") (some (some (.builtin "object.__class__"))) && (He.eqO (PySem.W.specialIn K (.builtin "object.__class__") "__get__") (some (some (.builtin "getset_descriptor.__get__"))) &&
  (decide (PySem.W.takesIn K (.builtin "object.__class__") = some true) && decide (PySem.W.mroIn K C (.type "object") = some true)))
def farB (K : PySem.W.Frag) (C : Addr) (t : Value) : Bool := PySem.W.notFirst K C t && decide (PySem.W.kitOne K t (.ref C) = some false)
/-- of a class of errors that isinstance is asked about -/
def excQ (K : PySem.W.Frag) (C : Addr) : Bool := clsB K C && ((PySem.W.clsIn K C).isSome && xfB K C)
def ownQ (K : PySem.W.Frag) (C : Addr) : Bool := clsB K C && (He.eqO (PySem.W.findIn K (.ref C) "__ne__") (some (some (.builtin "object.__ne__"))) && (["NoneType", "int", "dict", "list"].all fun t => farB K C (.type t)))
/-- the classes of _law_error, in their order -/
def ordT : List Str := ["BadKnown", "NoQuestion", "BadArc", "BadNames", "BadAmounts", "BadWorld", "BadPlan", "BadAnswers"]
def kitB2 (K : PySem.W.Frag) (x y : Str) : Bool := decide (PySem.W.kitOne K (.ref (He.ga K x)) (.ref (He.ga K y)) = some (decide (x = y)))
def moreT (K : PySem.W.Frag) : Bool := clsB K (He.ga K "Net") && true
def csL (K : PySem.W.Frag) : List (Addr × Addr) := tfT.map (He.cT K)
def diffT (K : PySem.W.Frag) : Bool := decide ((tfT.map fun p => (He.cT K p).2).Nodup) && ((erT.all fun p => errB K p.1 p.2) && moreT K)
def obsK (g : Addr → Option Obj) : He.AlD × Bool := (He.obsD faT fnT (He.frT g asK), diffT (He.frT g asK) && He.tabsB g tfT (He.frT g asK))
structure SaysK (h : Heap) (K : PySem.W.Frag) : Prop where
  d : He.SaysD faT fnT K
  np : (tfT.map fun p => (He.cT K p).2).Nodup
  er : ∀ p ∈ erT, errB K p.1 p.2 = true
  mo : moreT K = true
  hd : ∀ p ∈ tfT, PySem.W.codeHdIn K (He.cT K p).1 (He.cT K p).2 = true
  out : ∀ p ∈ tfT, K.lookup (He.cT K p).2 = none
  empty : ∀ p ∈ tfT, h.get? (He.cT K p).2 = some { cls := .none, data := .fields #[] }
theorem saysK_of {h : Heap} (e : obsK h.get? = (He.valD fnT, true)) : SaysK h (He.frT h.get? asK) := by
  have e1 : He.obsD faT fnT (He.frT h.get? asK) = He.valD fnT := congrArg (fun z : He.AlD × Bool => z.1) e
  have e2 : (diffT (He.frT h.get? asK) && He.tabsB h.get? tfT (He.frT h.get? asK)) = true := congrArg (fun z : He.AlD × Bool => z.2) e
  obtain ⟨h1, h2⟩ := He.ba e2
  have key : ∀ p ∈ tfT, PySem.W.codeHdIn (He.frT h.get? asK) (He.cT (He.frT h.get? asK) p).1 (He.cT (He.frT h.get? asK) p).2 = true ∧ ∃ o, h.get? (He.cT (He.frT h.get? asK) p).2 = some o ∧ He.emptyTab o = true := fun p hp => by
    obtain ⟨h3, h4⟩ := He.ba (List.all_eq_true.mp h2 p hp)
    refine ⟨h3, ?_⟩
    cases q : h.get? (He.cT (He.frT h.get? asK) p).2 with
    | none => rw [q] at h4; cases h4
    | some o => rw [q] at h4; exact ⟨o, rfl, h4⟩
  obtain ⟨h5, h6⟩ := He.ba h1
  obtain ⟨h6, h7⟩ := He.ba h6
  exact ⟨e1, of_decide_eq_true h5, fun p hp => List.all_eq_true.mp h6 p hp, h7, fun p hp => (key p hp).1, (fun p hp => by
    obtain ⟨_, o, q, z⟩ := key p hp
    exact He.frT_none q z), (fun p hp => by
    obtain ⟨_, o, q, z⟩ := key p hp
    rw [q, He.emptyTab_eq z])⟩
section
variable {h : Heap} {K : PySem.W.Frag}
theorem SaysK.hdC (c : SaysK h K) {p : Addr × Addr} (hp : p ∈ csL K) : PySem.W.codeHdIn K p.1 p.2 = true := by
  obtain ⟨q, hq, e⟩ := List.mem_map.mp hp
  rw [← e]
  exact c.hd q hq
theorem SaysK.outC (c : SaysK h K) {p : Addr × Addr} (hp : p ∈ csL K) : K.lookup p.2 = none := by
  obtain ⟨q, hq, e⟩ := List.mem_map.mp hp
  rw [← e]
  exact c.out q hq
theorem SaysK.emptyC (c : SaysK h K) {p : Addr × Addr} (hp : p ∈ csL K) : h.get? p.2 = some { cls := .none, data := .fields #[] } := by
  obtain ⟨q, hq, e⟩ := List.mem_map.mp hp
  rw [← e]
  exact c.empty q hq
end
def hookK : PySem.W.Hook where
  α := He.AlD × Bool
  obs := fun s => obsK s.heap.get?
  val := fun _ => (He.valD fnT, true)
  says := fun _ h => ∃ K : PySem.W.Frag, K.In h ∧ SaysK h K
  of := fun _ _ e => ⟨_, He.frT_in, saysK_of e⟩
  keeps := fun _ _ _ ⟨K, hK, c⟩ k => ⟨K, PySem.W.Frag.In.keeps hK k, ⟨c.d, c.np, c.er, c.mo, c.hd, c.out, fun p hp => k _ _ (c.empty p hp)⟩⟩
def obT (s : PySem.W.SharedT) : He.AlD × Bool := obsK (HandSHeadRun.getT s)
theorem obT_eq (s : PySem.W.SharedT) : obT s = hookK.obs s.abs := by
  have e : HandSHeadRun.getT s = s.abs.heap.get? := funext fun a => HandSHeadRun.getT_eq s a
  unfold obT
  rw [e] <;> rfl
namespace HdR
open PySem PySem.W PySem.Calls PyProof.Rows
abbrev R : OpenRow := OpenLaw.row PySem.Challenge.rw_twoworlds_k31_whole_hidings
abbrev qv : Program := view R.prog [60]
def names : List PySem.Str := (["_wall", "WorldError", "BadWorld", "BadKnown", "NoQuestion", "BadPlan", "BadAnswers", "BadArc", "is_integer", "is_count", "is_list", "is_pair", "is_name", "is_one_of", "has_just", "first_bad", "check_known", "check_asked", "check_both", "check_lacking", "check_counts", "onward", "back", "either_way", "reached", "is_joined", "inward", "Net", "free_arcs", "_is_arc"] : List PySem.Str) ++
  (["_nodes_of", "hiding", "is_hiding", "_levelled", "_are_levels", "_law_start", "_law_draw", "_law_pick", "_law_mixed", "_law_same", "_law_name", "_law_names", "_law_c_arcs", "_law_c_leads", "_law_c_live", "_law_c_joined", "_law_c_nodes", "_law_c_is_open", "_law_c_fewest", "_law_c_are_levels", "_law_c_is_hiding", "_law_c_hidings", "SIGNS", "LONGEST"] : List PySem.Str)
set_option maxHeartbeats 0 in
theorem run (w : World) : HandSHeadRun.RunEq R qv L2.TB.hookK L2.TB.obT 16000 names w := by
  intro os
  kernel_rfl
end HdR
end L2.TB
namespace L2.TB
open PySem PySem.Spec PyProof.Rows
/-! ### the spring of draws -/
structure StrmAt (H : Hp) (l ls : Addr) (cs : List Int) (g k m N : Int) : Prop where
  o : H l = some (.lst [.ref ls, .int g, .int k, .int m])
  c : H ls = some (.lst (cs.map V.int))
  ne : ls ≠ l
  g0 : 0 ≤ g
  k0 : 0 ≤ k
  k1 : k ≤ N
  m0 : 0 ≤ m
  m1 : m < 2147483647
  sz : cs.length ≤ 100
def Strm (H : Hp) (l ls : Addr) (N : Int) : Prop := ∃ cs g k m, StrmAt H l ls cs g k m N
/-- all but the spring is as it was -/
def But (l ls : Addr) (H H' : Hp) : Prop := ∀ b o, b ≠ l → b ≠ ls → H b = some o → H' b = some o
theorem But.refl (l ls : Addr) (H : Hp) : But l ls H H := fun _ _ _ _ e => e
theorem But.trans {l ls : Addr} {H H1 H2 : Hp} (a : But l ls H H1) (b : But l ls H1 H2) : But l ls H H2 := fun c o h1 h2 e => b c o h1 h2 (a c o h1 h2 e)
theorem But.of {l ls : Addr} {H H' : Hp} (a : Same H H') : But l ls H H' := fun c o _ _ e => a c o e
theorem But.upd {l ls a : Addr} {H : Hp} {o : HO} (h : a = l ∨ a = ls) : But l ls H (upd H a o) := fun b u h1 h2 e => by
  have ne : b ≠ a := by rcases h with h | h <;> (subst h; assumption)
  rw [upd_ne ne]; exact e
theorem dp_ints {K : PySem.W.Frag} {H : Hp} : ∀ cs : List Int, DpAll K H (cs.map V.int) (cs.map PyData.int)
  | [] => .nil
  | c :: cs => .cons (.int c) (dp_ints cs)
def spDraw : Sp := fun vs H Q _ => ∃ (l ls : Addr) (many N : Int), vs = [.ref l, .int many] ∧ Strm H l ls N ∧ N ≤ 1000000 ∧ 0 < many ∧ many < 1000000000 ∧
  ∀ H' r, 0 ≤ r → r < many → Strm H' l ls (N + 1) → But l ls H H' → Q (.int r) H'
theorem scDraw : FnScope ["stream", "many", "cell", "digit", "mixed"] ["stream", "many"] (defScope sDraw) := ⟨rfl, rfl, rfl, by decide +kernel, rfl, by decide +kernel, by decide +kernel⟩
theorem pow_nn (a : Int) (h : 0 ≤ a) : 0 ≤ a ^ (Int.toNat 5) := Int.pow_nonneg h
theorem at0 {a b c d : V} : atI [a, b, c, d] 0 = some a := rfl
theorem at1 {a b c d : V} : atI [a, b, c, d] 1 = some b := rfl
theorem at2 {a b c d : V} : atI [a, b, c, d] 2 = some c := rfl
theorem at3 {a b c d : V} : atI [a, b, c, d] 3 = some d := rfl
theorem draw_end {A B C many : Int} (h : 0 < many) : 0 ≤ A % B % many ∧ A % B % many < many :=
  ⟨Int.emod_nonneg _ (by omega), Int.emod_lt_of_pos _ h⟩
section
variable {P : Program} {w : World} {K : PySem.W.Frag} {mg : Str → Option Value} {base : Heap} {f : Addr} {fd : FuncData}
theorem ok_draw (F : Fun K "_law_draw" "_law_draw" sDraw f fd) (gI : mg "int" = none) : FnOk P w K mg base CX0 1 f fd ["stream", "many"] spDraw := by
  refine F.ok scDraw (fun vs H Q E h => by obtain ⟨l, ls, many, N, e, _⟩ := h; rw [e]; rfl) fun cdv A outer s H vs Q E hr hsp => ?_
  obtain ⟨l, ls, many, N, rfl, ⟨cs, g, k, m, S⟩, hN, h0, h1, hq⟩ := hsp
  have nd := scDraw.nd
  have hu := hu_of hr
  have hu64 := hr.units
  obtain ⟨tl, ptl, htl⟩ : ∃ t, PSs (cxOf CX0 P w K mg base ["stream", "many", "cell", "digit", "mixed"] "_law_draw" (defScope sDraw) f cdv A outer s H E).nox ((defBody sDraw).drop 2) t ∧
      ∀ (H1 : Hp) (c : Option V) (cs : List Int) (g k m : Int), StrmAt H1 l ls cs g k m (N + 1) → But l ls H H1 →
        t { nx := fun _ H' => Q .non H', rt := Q } [some (.ref l), some (.int many), c, none, none] H1 := by
    refine ⟨_, pss_cons (ps_if (pt_cmpR op_gt (pe_ix ix_list (pv 0) pe_int (fun _ _ => rfl)) pe_int (nomark _))
      (pss_cons (ps_set (i := 3) nd rfl (Or.inl rfl) (pe_op op_mod (pe_callTy call_int1 rfl gI boot_int (pa_cons (pe_ix ix_list (pv 0) pe_int (fun _ _ => rfl)) pa_nil)) (pv 1)))
      (pss_cons (ps_asg (pe_op op_fdiv (pe_ix ix_list (pv 0) pe_int (fun _ _ => rfl)) (pv 1)) (pg_sub (pv 0) pe_int set_list))
      (pss_one (ps_ret (pv 3)))))
      pss_nil)
    (pss_cons (ps_set (i := 4) nd rfl (Or.inl rfl) (pe_op op_mod (pe_callTy call_int1 rfl gI boot_int (pa_cons (pe_op op_pow (pe_op op_add (pe_op op_add (pe_ix ix_list (pv 0) pe_int (fun _ _ => rfl)) (pe_op op_mul pe_int (pe_ix ix_list (pv 0) pe_int (fun _ _ => rfl)))) pe_int) pe_int) pa_nil)) pe_int))
    (pss_one (ps_ret (pe_op op_mod (pe_op op_mod (pe_callTy call_int1 rfl gI boot_int (pa_cons (pe_op op_pow (pe_op op_add (pe_op op_add (pe_op op_mul (pv 4) pe_int) (pe_op op_mul pe_int (pe_ix ix_list (pv 0) pe_int (fun _ _ => rfl)))) pe_int) pe_int) pa_nil)) pe_int) (pv 1))))), fun H1 c cs g k m S hB => ?_⟩
    refine ⟨_, rfl, _, _, _, _, rfl, rfl, SqL.of S.o, at1, _, _, rfl, rfl, _, rfl, ite2 (fun e => ?_) (fun e => ?_)⟩
    · refine ⟨_, rfl, _, _, _, _, rfl, rfl, SqL.of S.o, at1, .inl ⟨_, rfl, ?_⟩⟩
      refine ⟨_, rfl, _, _, rfl, rfl, h0, ?_⟩
      refine ⟨_, rfl, _, _, _, _, rfl, rfl, SqL.of S.o, at1, _, rfl, _, _, rfl, rfl, ⟨h0, by omega⟩, ?_⟩
      refine ⟨_, rfl, _, _, _, _, rfl, rfl, S.o, rfl, ?_⟩
      refine ⟨_, rfl, ?_⟩
      refine hq _ _ (Int.emod_nonneg _ (by omega)) (Int.emod_lt_of_pos _ h0) ⟨cs, g / many, k, m, ⟨upd_same, ?_, S.ne, Int.ediv_nonneg S.g0 (by omega), S.k0, S.k1, S.m0, S.m1, S.sz⟩⟩ (hB.trans (But.upd (.inl rfl)))
      rw [upd_ne S.ne]; exact S.c
    · have hk := S.k1
      have hk0 := S.k0
      have hm := S.m0
      have hm1 := S.m1
      refine ⟨_, rfl, _, _, _, _, rfl, rfl, SqL.of S.o, at3, _, rfl, _, _, _, _, rfl, rfl, SqL.of S.o, at2, _, _, rfl, rfl, .inl ⟨by decide, by decide⟩, _, _, rfl, rfl, _, _, rfl, rfl, _, _, rfl, rfl, ⟨by decide, by decide, ?_⟩, ?_⟩
      · omega
      refine .inl ⟨_, rfl, _, _, rfl, rfl, (by show (0 : Int) < 2147483629; decide), ?_⟩
      have e1 := Int.emod_nonneg ((m + 7919 * k + 104729) ^ Int.toNat 5) (show (2147483629 : Int) ≠ 0 by decide)
      have e2 := Int.emod_lt_of_pos ((m + 7919 * k + 104729) ^ Int.toNat 5) (show (0 : Int) < 2147483629 by decide)
      generalize (m + 7919 * k + 104729) ^ Int.toNat 5 % 2147483629 = z at e1 e2 ⊢
      refine ⟨_, rfl, _, _, rfl, rfl, .inr ⟨by decide, by decide⟩, _, rfl, _, _, _, _, rfl, rfl, SqL.of S.o, at2, _, _, rfl, rfl, .inl ⟨by decide, by decide⟩, _, _, rfl, rfl, _, _, rfl, rfl, _, _, rfl, rfl, ⟨by decide, by decide, ?_⟩, ?_⟩
      · omega
      refine .inl ⟨_, rfl, _, _, rfl, rfl, (by show (0 : Int) < 1000000007; decide), _, rfl, _, _, rfl, rfl, h0, ?_⟩
      exact hq _ _ (Int.emod_nonneg _ (by omega)) (Int.emod_lt_of_pos _ h0) ⟨cs, g, k, m, S⟩ hB
  refine ⟨_, pss_cons (ps_asg (pe_op op_add (pe_ix ix_list (pv 0) pe_int (fun _ _ => rfl)) pe_int) (pg_sub (pv 0) pe_int set_list))
    (pss_cons (ps_if (PW.pt (pw_and (pt_cmpR op_eq (pe_ix ix_list (pv 0) pe_int (fun _ _ => rfl)) pe_int (nomark _))
        (pw_and1 (pt_cmpR (op_neD hu64) (pe_ix ix_list (pv 0) pe_int (fun _ _ => rfl)) (pe_lst pa_nil) (nomark _)))))
      (pss_cons (ps_set (i := 2) nd rfl (Or.inl rfl) (pe_bm PySem.F.plainAttrs_list PySem.F.slot_list_pop PySem.F.type_list_pop mt_popAt (pe_ix ix_list (pv 0) pe_int (fun _ _ => rfl)) (pa_cons pe_int pa_nil)))
      (pss_cons (ps_asg (pe_op op_mod (pe_callTy call_int1 rfl gI boot_int (pa_cons (pe_op op_add (pe_op op_add (pe_op op_mul (pe_ix ix_list (pv 0) pe_int (fun _ _ => rfl)) pe_int) (pv 2)) pe_int) pa_nil)) pe_int) (pg_sub (pv 0) pe_int set_list))
      (pss_one (ps_asg (pe_ifExp (pt_cmpR op_ge (pv 2) (pe_op op_pow pe_int pe_int) (nomark _)) (pv 2) pe_int) (pg_sub (pv 0) pe_int set_list)))))
      pss_nil) ptl), ?_⟩
  refine ⟨_, rfl, _, _, _, _, rfl, rfl, SqL.of S.o, at2, _, _, rfl, rfl, _, rfl, _, _, _, _, rfl, rfl, S.o, rfl, ?_⟩
  have S1 : StrmAt (upd H l (.lst [.ref ls, .int g, .int (k + 1), .int m])) l ls cs g (k + 1) m (N + 1) :=
    ⟨upd_same, by rw [upd_ne S.ne]; exact S.c, S.ne, S.g0, by have := S.k0; omega, by have := S.k1; omega, S.m0, S.m1, S.sz⟩
  have B1 : But l ls H (upd H l (.lst [.ref ls, .int g, .int (k + 1), .int m])) := But.upd (.inl rfl)
  refine ⟨_, rfl, _, _, _, _, rfl, rfl, SqL.of S1.o, at1, rfl, _, rfl, ite2 (fun e => ?_) (fun e => ?_)⟩
  · refine ⟨_, rfl, _, _, _, _, rfl, rfl, SqL.of S1.o, at0, Nat.zero_le _, fun q nq => ?_⟩
    have ql : q ≠ l := by
      intro z; rw [z, upd_same] at nq; cases nq
    have qs : q ≠ ls := by
      intro z; rw [z, upd_ne S.ne] at nq; rw [S.c] at nq; cases nq
    have S2 : StrmAt (upd (upd H l (.lst [.ref ls, .int g, .int (k + 1), .int m])) q (.lst [])) l ls cs g (k + 1) m (N + 1) :=
      ⟨by rw [upd_ne (Ne.symm ql)]; exact S1.o, by rw [upd_ne (Ne.symm qs)]; exact S1.c, S.ne, S1.g0, S1.k0, S1.k1, S1.m0, S1.m1, S1.sz⟩
    have B2 : But l ls H (upd (upd H l (.lst [.ref ls, .int g, .int (k + 1), .int m])) q (.lst [])) := B1.trans (But.of fun b o eb => by
      rw [upd_ne (ne_of_none eb nq)]; exact eb)
    refine ⟨.list (cs.map .int), .list [], .lst (SqL.of S2.c) (dp_ints cs), .lst (SqL.of upd_same) .nil, PySem.W.shaped_ints cs, by decide, ?_⟩
    cases cs with
    | nil =>
      refine ⟨_, rfl, iteF ?_⟩
      exact htl _ none [] g (k + 1) m S2 B2
    | cons c cs =>
      refine ⟨_, rfl, iteT ?_⟩
      refine ⟨_, rfl, _, _, _, _, rfl, rfl, SqL.of S2.o, at0, .inl ⟨rfl, _, SqL.of S2.c⟩, ?_⟩
      have ix0 : ixN ((c :: cs).map V.int).length 0 = some 0 := by
        simp [ixN]
      refine ⟨ls, _, 0, 0, .int c, rfl, rfl, S2.c, by decide, by decide, (ixN_seq ix0).1, rfl, ?_⟩
      have S3 : StrmAt (upd (upd (upd H l (.lst [.ref ls, .int g, .int (k + 1), .int m])) q (.lst [])) ls (.lst (cs.map V.int))) l ls cs g (k + 1) m (N + 1) :=
        ⟨by rw [upd_ne (Ne.symm S.ne)]; exact S2.o, upd_same, S.ne, S2.g0, S2.k0, S2.k1, S2.m0, S2.m1, by have := S2.sz; simp only [List.length_cons] at this; omega⟩
      have B3 := B2.trans (But.upd (l := l) (ls := ls) (a := ls) (H := upd (upd H l (.lst [.ref ls, .int g, .int (k + 1), .int m])) q (.lst [])) (o := .lst (cs.map V.int)) (.inr rfl))
      have hm0 := S.m0
      have hm1 := S.m1
      refine ⟨_, rfl, _, _, _, _, rfl, rfl, SqL.of S3.o, at3, _, _, rfl, rfl, .inl ⟨by omega, by omega⟩, _, rfl, _, _, rfl, rfl, _, _, rfl, rfl, .inl ⟨_, rfl, _, _, rfl, rfl, (by show (0 : Int) < 2147483647; decide), ?_⟩⟩
      refine ⟨_, rfl, _, _, _, _, rfl, rfl, S3.o, rfl, ?_⟩
      have S4 : StrmAt (upd (upd (upd (upd H l (.lst [.ref ls, .int g, .int (k + 1), .int m])) q (.lst [])) ls (.lst (cs.map V.int))) l (.lst [.ref ls, .int g, .int (k + 1), .int ((m * 8191 + c + 3) % 2147483647)])) l ls cs g (k + 1) ((m * 8191 + c + 3) % 2147483647) (N + 1) :=
        ⟨upd_same, by rw [upd_ne S.ne]; exact S3.c, S.ne, S3.g0, S3.k0, S3.k1, Int.emod_nonneg _ (by decide), Int.emod_lt_of_pos _ (by decide), S3.sz⟩
      have B4 := B3.trans (But.upd (l := l) (ls := ls) (a := l) (o := .lst [.ref ls, .int g, .int (k + 1), .int ((m * 8191 + c + 3) % 2147483647)]) (.inl rfl))
      refine ⟨_, rfl, _, _, rfl, rfl, ⟨by decide, by decide, by decide⟩, _, _, rfl, rfl, _, rfl, ite2 (fun e4 => ?_) (fun e4 => ?_)⟩
      · refine ⟨_, rfl, _, rfl, _, _, _, _, rfl, rfl, S4.o, rfl, ?_⟩
        have hc : (0 : Int) ≤ c := by
          have z := of_decide_eq_true e4
          have z2 : (0 : Int) ≤ 10 ^ (Int.toNat 18) := Int.pow_nonneg (by decide)
          omega
        exact htl _ (some (.int c)) cs c (k + 1) ((m * 8191 + c + 3) % 2147483647)
          ⟨upd_same, by rw [upd_ne S.ne]; exact S4.c, S.ne, hc, S4.k0, S4.k1, S4.m0, S4.m1, S4.sz⟩ (B4.trans (But.upd (.inl rfl)))
      · refine ⟨_, rfl, _, _, _, _, rfl, rfl, S4.o, rfl, ?_⟩
        exact htl _ (some (.int c)) cs 0 (k + 1) ((m * 8191 + c + 3) % 2147483647)
          ⟨upd_same, by rw [upd_ne S.ne]; exact S4.c, S.ne, by decide, S4.k0, S4.k1, S4.m0, S4.m1, S4.sz⟩ (B4.trans (But.upd (.inl rfl)))
  · refine iteF ?_
    exact htl _ none cs g (k + 1) m S1 B1
def spStart (K : PySem.W.Frag) : Sp := fun vs H Q _ => ∃ (a : Addr) (ns : List Int), vs = [.ref a] ∧ SqL K H a (ns.map V.int) ∧ ns.length ≤ 100 ∧
  ∀ H' l ls, H l = none → Same H H' → Strm H' l ls 0 → H ls = none → Q (.ref l) H'
theorem scStart : FnScope ["script"] ["script"] (defScope sStart) := ⟨rfl, rfl, rfl, by decide +kernel, rfl, by decide +kernel, by decide +kernel⟩
theorem ok_start (F : Fun K "_law_start" "_law_start" sStart f fd) (gL : mg "list" = none) : FnOk P w K mg base CX0 1 f fd ["script"] (spStart K) := by
  refine F.ok scStart (fun vs H Q E h => by obtain ⟨a, ns, e, _⟩ := h; rw [e]; rfl) fun cdv A outer s H vs Q E hr hsp => ?_
  obtain ⟨a, ns, rfl, hS, hn, hq⟩ := hsp
  refine ⟨_, pss_one (ps_ret (pe_lst (pa_cons (pe_callTy call_list_of rfl gL (by decide +kernel) (pa_cons (pv 0) pa_nil)) (pa_cons pe_int (pa_cons pe_int (pa_cons pe_int pa_nil)))))), ?_⟩
  refine ⟨_, rfl, _, _, rfl, .inl hS, fun ls hls => ⟨by rw [sizeLine_eq]; show 4 ≤ _; omega, fun l hl => ?_⟩⟩
  have ne : ls ≠ l := by
    intro z; rw [← z, upd_same] at hl; cases hl
  have hl2 : H l = none := by rw [upd_ne (Ne.symm ne)] at hl; exact hl
  exact hq _ l ls hl2 (fun b o e => by rw [upd_ne (ne_of_none e hl2), upd_ne (ne_of_none e hls)]; exact e)
    ⟨ns, 0, 0, 11, ⟨upd_same, by rw [upd_ne ne, upd_same], ne, by decide, by decide, by decide, by decide, by decide, hn⟩⟩ hls
def spPick (K : PySem.W.Frag) : Sp := fun vs H Q _ => ∃ (l ls c : Addr) (xs : List V) (N : Int), vs = [.ref l, .ref c] ∧ Strm H l ls N ∧ N ≤ 1000000 ∧
  c ≠ l ∧ c ≠ ls ∧ H c = some (.lst xs) ∧ 0 < xs.length ∧ xs.length < 1000 ∧
  ∀ H' x, x ∈ xs → Strm H' l ls (N + 1) → But l ls H H' → Q x H'
theorem scPick : FnScope ["stream", "some"] ["stream", "some"] (defScope sPick) := ⟨rfl, rfl, rfl, by decide +kernel, rfl, by decide +kernel, by decide +kernel⟩
theorem ok_pick {fD : Addr} {fdD : FuncData} (F : Fun K "_law_pick" "_law_pick" sPick f fd) (FD : Fun K "_law_draw" "_law_draw" sDraw fD fdD)
    (gD : mg "_law_draw" = some (.ref fD)) (gI : mg "int" = none) (gN : mg "len" = none) : FnOk P w K mg base CX0 2 f fd ["stream", "some"] (spPick K) := by
  have G : FnOk P w K mg base CX0 1 fD fdD ["stream", "many"] spDraw := ok_draw FD gI
  have b := FD.binds (ps := ["stream", "many"]) fun _ _ _ _ _ _ us hl => match us, hl with | [_, _], _ => rfl
  refine F.ok scPick (fun vs H Q E h => by obtain ⟨l, ls, c, xs, N, e, _⟩ := h; rw [e]; rfl) fun cdv A outer s H vs Q E hr hsp => ?_
  obtain ⟨l, ls, c, xs, N, rfl, hS, hN, n1, n2, hc, h0, h1, hq⟩ := hsp
  refine ⟨_, pss_one (ps_ret (pe_ix ix_list (pv 1) (pe_call G hr rfl gD FD.kp b .nil pass0 (pa_cons (pv 0) (pa_cons (pe_callB call_len rfl gN boot_len (pa_cons (pv 1) pa_nil)) pa_nil))) (fun _ _ => rfl))), ?_⟩
  refine ⟨_, rfl, _, rfl, _, rfl, _, xs.length, rfl, .inl ⟨_, SqL.of hc, rfl⟩, ?_⟩
  refine ⟨l, ls, _, N, rfl, hS, hN, by omega, by omega, fun H' r r0 r1 S' B' => ?_⟩
  have hr2 : r.toNat < xs.length := by omega
  refine ⟨_, _, _, xs[r.toNat], rfl, rfl, SqL.of (B' c _ n1 n2 hc), ?_, hq H' _ (List.getElem_mem _) S' B'⟩
  have e : ((r.toNat : Nat) : Int) = r := by omega
  have z := atI_nat (xs := xs) (j := r.toNat) (v := xs[r.toNat]) (by simp)
  rw [e] at z
  exact z
end
end L2.TB
namespace L2.TB
open PySem PySem.Spec PyProof.Rows
theorem same_new {H : Hp} {p : Addr} {o : HO} (n : H p = none) : Same H (upd H p o) := fun c u z => by rw [upd_ne (ne_of_none z n)]; exact z
theorem Strm.same {H H' : Hp} {l ls : Addr} {N : Int} (h : Strm H l ls N) (s : Same H H') : Strm H' l ls N := by
  obtain ⟨cs, g, k, m, S⟩ := h
  exact ⟨cs, g, k, m, s _ _ S.o, s _ _ S.c, S.ne, S.g0, S.k0, S.k1, S.m0, S.m1, S.sz⟩
theorem Strm.some {H : Hp} {l ls : Addr} {N : Int} (h : Strm H l ls N) : (∃ o, H l = some o) ∧ ∃ o, H ls = some o := by
  obtain ⟨cs, g, k, m, S⟩ := h
  exact ⟨⟨_, S.o⟩, ⟨_, S.c⟩⟩
/-- what was not there is not the spring -/
theorem Strm.apart {H H' : Hp} {l ls p : Addr} {N : Int} (h : Strm H l ls N) (s : Same H H') (n : H' p = none) : p ≠ l ∧ p ≠ ls := by
  obtain ⟨⟨o, e⟩, ⟨o', e'⟩⟩ := h.some
  exact ⟨(fun z => by rw [z, s _ _ e] at n; cases n), (fun z => by rw [z, s _ _ e'] at n; cases n)⟩
def spPickS : Sp := fun vs H Q _ => ∃ (l ls : Addr) (x : Str) (N : Int), vs = [.ref l, .str x] ∧ Strm H l ls N ∧ N ≤ 1000000 ∧ 0 < x.cps.size ∧ x.cps.size < 1000 ∧
  ∀ H' c, c ∈ x.cps.toList → Strm H' l ls (N + 1) → But l ls H H' → Q (.str ⟨#[c]⟩) H'
/-- a mixed list: what was in it, in some order -/
def spMixed (K : PySem.W.Frag) : Sp := fun vs H Q _ => ∃ (l ls c : Addr) (xs : List V) (N : Int), vs = [.ref l, .ref c] ∧ Strm H l ls N ∧ N ≤ 900000 ∧ SqL K H c xs ∧ xs.length < 1000 ∧
  ∀ H' q ys, ys.Perm xs → H q = none → H' q = some (.lst ys) → Strm H' l ls (N + xs.length) → But l ls H H' → Q (.ref q) H'
theorem scMixed : FnScope ["stream", "some", "left", "k"] ["stream", "some"] (defScope sMixed) := ⟨rfl, rfl, rfl, by decide +kernel, rfl, by decide +kernel, by decide +kernel⟩
theorem pop_perm : ∀ (l : List V) (k : Nat) (y : V), l[k]? = some y → (y :: l.eraseIdx k).Perm l
  | [], k, y, h => by simp at h
  | a :: l, 0, y, h => by
    obtain rfl : a = y := by simpa using h
    exact List.Perm.refl _
  | a :: l, k + 1, y, h => by
    have z := pop_perm l k y (by simpa using h)
    exact (List.Perm.swap a y _).trans (z.cons a)
section
variable {P : Program} {w : World} {K : PySem.W.Frag} {mg : Str → Option Value} {base : Heap} {f fD fP fM : Addr} {fd fdD fdP fdM : FuncData}
theorem ok_pickS (F : Fun K "_law_pick" "_law_pick" sPick f fd) (FD : Fun K "_law_draw" "_law_draw" sDraw fD fdD)
    (gD : mg "_law_draw" = some (.ref fD)) (gI : mg "int" = none) (gN : mg "len" = none) : FnOk P w K mg base CX0 2 f fd ["stream", "some"] spPickS := by
  have G : FnOk P w K mg base CX0 1 fD fdD ["stream", "many"] spDraw := ok_draw FD gI
  have b := FD.binds (ps := ["stream", "many"]) fun _ _ _ _ _ _ us hl => match us, hl with | [_, _], _ => rfl
  refine F.ok scPick (fun vs H Q E h => by obtain ⟨l, ls, x, N, e, _⟩ := h; rw [e]; rfl) fun cdv A outer s H vs Q E hr hsp => ?_
  obtain ⟨l, ls, x, N, rfl, hS, hN, h0, h1, hq⟩ := hsp
  refine ⟨_, pss_one (ps_ret (pe_ix ix_str (pv 1) (pe_call G hr rfl gD FD.kp b .nil pass0 (pa_cons (pv 0) (pa_cons (pe_callB call_len rfl gN boot_len (pa_cons (pv 1) pa_nil)) pa_nil))) (fun _ _ => rfl))), ?_⟩
  have hz : x.length ≤ sizeLine := by rw [sizeLine_eq]; show x.cps.size ≤ _; omega
  have hl : ((x.length : Nat) : Int) = (x.cps.size : Int) := rfl
  refine ⟨_, rfl, _, rfl, _, rfl, _, x.length, rfl, ⟨hz, rfl⟩, ?_⟩
  refine ⟨l, ls, _, N, rfl, hS, hN, by omega, by omega, fun H' r r0 r1 S' B' => ?_⟩
  have hr2 : r.toNat < x.cps.toList.length := by rw [Array.length_toList]; omega
  refine ⟨x, r, x.cps.toList[r.toNat], rfl, rfl, hz, ?_, hq H' _ (List.getElem_mem _) S' B'⟩
  have e : ((r.toNat : Nat) : Int) = r := by omega
  have z := atI_nat (xs := x.cps.toList) (j := r.toNat) (v := x.cps.toList[r.toNat]) (by simp)
  rw [e] at z
  exact z
theorem ok_mixed (F : Fun K "_law_mixed" "_law_mixed" sMixed f fd) (FD : Fun K "_law_draw" "_law_draw" sDraw fD fdD)
    (gD : mg "_law_draw" = some (.ref fD)) (gI : mg "int" = none) (gN : mg "len" = none) (gL : mg "list" = none) (gR : mg "range" = none) : FnOk P w K mg base CX0 2 f fd ["stream", "some"] (spMixed K) := by
  have G : FnOk P w K mg base CX0 1 fD fdD ["stream", "many"] spDraw := ok_draw FD gI
  have b := FD.binds (ps := ["stream", "many"]) fun _ _ _ _ _ _ us hl => match us, hl with | [_, _], _ => rfl
  refine F.ok scMixed (fun vs H Q E h => by obtain ⟨l, ls, c, xs, N, e, _⟩ := h; rw [e]; rfl) fun cdv A outer s H vs Q E hr hsp => ?_
  obtain ⟨l, ls, c, xs, N, rfl, hS, hN, hc, h1, hq⟩ := hsp
  have nd := scMixed.nd
  refine ⟨_, pss_cons (ps_set (i := 2) nd rfl (Or.inr rfl) (pe_callTy call_list_of rfl gL (by decide +kernel) (pa_cons (pv 1) pa_nil)))
    (pss_one (ps_ret (pe_lc (own := [("k", 3)]) (tt := tYes) (te := tBM K "list" rPopAt (tVar 2) (tCons (tCall spDraw [] E0 (tCons (tVar 0) (tCons (tCB (rLen K) (tCons (tVar 2) tNil)) tNil))) tNil)) rfl nd (pi_range1 rfl gR (pa_cons (pe_callB call_len rfl gN boot_len (pa_cons (pv 2) pa_nil)) pa_nil)) (blkOk_by (N := ["stream", "some", "left", "k"]) (sc := defScope sMixed) (by decide +kernel))
      (fun _ _ _ _ _ => pg_name (i := 3) nd rfl (Or.inl rfl)) (fun _ _ _ _ _ => pts_nil)
      (fun _ _ _ _ _ => pe_bm PySem.F.plainAttrs_list PySem.F.slot_list_pop PySem.F.type_list_pop mt_popAt (pv 2) (pa_cons (pe_call G hr rfl gD FD.kp b .nil pass0 (pa_cons (pv 0) (pa_cons (pe_callB call_len rfl gN boot_len (pa_cons (pv 2) pa_nil)) pa_nil))) pa_nil))))), ?_⟩
  refine ⟨_, rfl, c, xs, rfl, .inl hc, fun p np => ?_⟩
  have kp := same_new (o := .lst xs) np
  have ap := hS.apart (Same.refl _) np
  refine ⟨_, rfl, .ref p, xs.length, rfl, .inl ⟨_, SqL.of upd_same, rfl⟩, _, rfl, by omega, by omega, fun q nq => ?_⟩
  have aq := hS.apart kp nq
  have pq : p ≠ q := fun z => by rw [← z, upd_same] at nq; cases nq
  have nq0 : H q = none := Same.free kp nq
  refine lc_range (n := xs.length) (fun i H' => ∃ done rest, H' q = some (.lst done) ∧ H' p = some (.lst rest) ∧ done.length = i ∧ (done ++ rest).Perm xs ∧ Strm H' l ls (N + i) ∧ But l ls H H')
    ⟨[], xs, upd_same, by rw [upd_ne pq]; exact upd_same, rfl, List.Perm.refl _, by simpa using ((hS.same kp).same (same_new nq)), But.of (kp.trans (same_new nq))⟩ ?_ ?_
  · rintro i H3 hi ⟨done, rest, oq, op, ln, pm, S3, B3⟩
    have hlen : done.length + rest.length = xs.length := by rw [← pm.length_eq, List.length_append]
    refine ⟨rfl, ?_⟩
    refine ⟨_, rfl, .inl ⟨rfl, _, SqL.of op⟩, _, rfl, _, rfl, .ref p, rest.length, rfl, .inl ⟨_, SqL.of op, rfl⟩, ?_⟩
    refine ⟨l, ls, _, _, rfl, S3, by omega, by omega, by omega, fun H4 r r0 r1 S4 B4 => ?_⟩
    have hr2 : r.toNat < rest.length := by omega
    have er : ((r.toNat : Nat) : Int) = r := by omega
    have ix0 : ixN rest.length r = some r.toNat := by
      unfold ixN
      rw [if_pos r0, if_pos r1]
    refine ⟨p, rest, r, r.toNat, rest[r.toNat], rfl, rfl, B4 _ _ ap.1 ap.2 op, by omega, by omega, (ixN_seq ix0).1, by simp, done, ?_, (by rw [sizeLine_eq]; omega), done ++ [rest[r.toNat]], rest.eraseIdx r.toNat, upd_same, ?_, by simp [ln], ?_, ?_, ?_⟩
    · rw [upd_ne (Ne.symm pq)]; exact B4 _ _ aq.1 aq.2 oq
    · rw [upd_ne pq, upd_same]
    · have z := pop_perm rest r.toNat rest[r.toNat] (by simp)
      rw [List.append_assoc]
      exact (List.Perm.append_left done z).trans pm
    · obtain ⟨cs, g, k, m, S⟩ := S4
      have e1 : N + ((i + 1 : Nat) : Int) = N + (i : Int) + 1 := by omega
      rw [e1]
      exact ⟨cs, g, k, m, by rw [upd_ne (Ne.symm aq.1), upd_ne (Ne.symm ap.1)]; exact S.o, by rw [upd_ne (Ne.symm aq.2), upd_ne (Ne.symm ap.2)]; exact S.c, S.ne, S.g0, S.k0, S.k1, S.m0, S.m1, S.sz⟩
    · intro b o h1 h2 e
      have nb : b ≠ q := ne_of_none e nq0
      have nb2 : b ≠ p := ne_of_none e np
      rw [upd_ne nb, upd_ne nb2]
      exact B4 _ _ h1 h2 (B3 _ _ h1 h2 e)
  · rintro H3 ⟨done, rest, oq, op, ln, pm, S3, B3⟩
    have hlen : done.length + rest.length = xs.length := by rw [← pm.length_eq, List.length_append]
    have er : rest = [] := List.eq_nil_of_length_eq_zero (by omega)
    subst er
    rw [List.append_nil] at pm
    exact hq H3 q done pm nq0 oq S3 B3
end
end L2.TB
namespace L2.TB
open PySem PySem.Spec PyProof.Rows
theorem Strm.mono {H : Hp} {l ls : Addr} {N M : Int} (h : Strm H l ls N) (le : N ≤ M) : Strm H l ls M := by
  obtain ⟨cs, g, k, m, S⟩ := h
  exact ⟨cs, g, k, m, S.o, S.c, S.ne, S.g0, S.k0, by have := S.k1; omega, S.m0, S.m1, S.sz⟩
end L2.TB
namespace L2.TB
open PySem PySem.Spec PyProof.Rows
def signsL : List Nat := (Str.ofString "abcdefghijklmnopqrstuvwxyz0123456789.").cps.toList
/-- a name that is_name lets pass -/
def NmOk (x : Str) : Prop := 1 ≤ x.cps.toList.length ∧ x.cps.toList.length ≤ 40 ∧ ∀ c ∈ x.cps.toList, c ∈ signsL
def wordL : List Nat := (Str.ofString "abcdefghijklmnopqrstuvwxyz").cps.toList
def letL : List Nat := (Str.ofString "abcdefghijklmnop").cps.toList
/-- a name as the law draws it -/
def NmS (x : Str) : Prop := NmOk x ∧ x.cps.toList.length ≤ 8 ∧ ∀ c ∈ x.cps.toList, c ∈ wordL
theorem word_sub : ∀ c ∈ wordL, c ∈ signsL := by decide +kernel
theorem let_sub : ∀ c ∈ letL, c ∈ signsL := by decide +kernel
theorem join_flat : ∀ cs : List Nat, TL.joinL [] (cs.map fun c => [c]) = cs
  | [] => rfl
  | [c] => rfl
  | c :: d :: r => by
    show [c] ++ ([] ++ TL.joinL [] ((d :: r).map fun c => [c])) = _
    rw [join_flat (d :: r)]; rfl
theorem join_cps (cs : List Nat) : (Txt.join (Str.ofString "") (cs.map fun c => (⟨#[c]⟩ : Str))).cps.toList = cs := by
  rw [TL.join_eq]
  have e := TL.tl_join (Str.ofString "") (cs.map fun c => (⟨#[c]⟩ : Str))
  have e2 : (cs.map fun c => (⟨#[c]⟩ : Str)).map TL.tl = cs.map fun c => [c] := by rw [List.map_map]; rfl
  have e3 : TL.tl (Str.ofString "") = [] := by decide +kernel
  rw [e2, e3, join_flat] at e
  exact e
/-- the spare names: a letter, j and q -/
def spare (c : Nat) : Str := (⟨#[c]⟩ : Str) ++ Str.ofString "jq"
theorem spare_ok : ∀ c ∈ letL, NmS (spare c) := by
  unfold NmS NmOk
  decide +kernel
theorem spare_nd : (letL.map spare).Nodup := by decide +kernel
theorem str_inj (a b : Str) : eqV (.str a) (.str b) = decide (a = b) := by
  show (a == b) = _
  by_cases h : a = b
  · subst h; simp
  · rw [decide_eq_false h]; simpa using h
theorem inV_strs (x : Str) : ∀ xs : List Str, inV (.str x) (xs.map V.str) = decide (x ∈ xs)
  | [] => by simp [inV]
  | a :: xs => by
    have e := inV_strs x xs
    unfold inV at e ⊢
    rw [List.map_cons, List.any_cons, e, str_inj]
    by_cases h : a = x
    · subst h; simp
    · by_cases h2 : x ∈ xs
      · simp [h2]
      · simp [h, h2, Ne.symm h]
theorem flat_strs (xs : List Str) : (xs.map V.str).all flatV = true := by
  rw [List.all_map]; exact List.all_eq_true.mpr fun _ _ => rfl
/-- some spare name is not among the found ones -/
theorem spare_left (w : Str) (found : List Str) (h : found.length < 16) : ((w :: letL.map spare).filter fun x => decide (x ∉ found)) ≠ [] := by
  intro e
  have sub : ∀ x ∈ letL.map spare, x ∈ found := fun x hx => by
    by_cases h2 : x ∈ found
    · exact h2
    · have z : x ∈ (w :: letL.map spare).filter fun x => decide (x ∉ found) := List.mem_filter.mpr ⟨List.mem_cons_of_mem _ hx, by simp [h2]⟩
      rw [e] at z; cases z
  have le := List.Nodup.length_le_of_subset spare_nd (fun x hx => sub x hx)
  have e26 : (letL.map spare).length = 16 := by decide +kernel
  omega
def spNameL : Sp := fun vs H Q _ => ∃ (l ls : Addr) (N : Int), vs = [.ref l] ∧ Strm H l ls N ∧ N ≤ 990000 ∧ ∀ H' x, NmS x → Strm H' l ls (N + 9) → But l ls H H' → Q (.str x) H'
abbrev NNm : List Str := ["stream", "width", "k"]
theorem scNameL : FnScope NNm ["stream"] (defScope sNameL) := ⟨rfl, rfl, rfl, by decide +kernel, rfl, by decide +kernel, by decide +kernel⟩
theorem width_at {r : Int} (h0 : 0 ≤ r) (h1 : r < 6) : ∃ wd : Int, atI [V.int 1, .int 1, .int 2, .int 3, .int 5, .int 8] r = some (.int wd) ∧ 1 ≤ wd ∧ wd ≤ 8 := by
  have c : r = 0 ∨ r = 1 ∨ r = 2 ∨ r = 3 ∨ r = 4 ∨ r = 5 := by omega
  rcases c with rfl | rfl | rfl | rfl | rfl | rfl
  · exact ⟨1, rfl, by decide, by decide⟩
  · exact ⟨1, rfl, by decide, by decide⟩
  · exact ⟨2, rfl, by decide, by decide⟩
  · exact ⟨3, rfl, by decide, by decide⟩
  · exact ⟨5, rfl, by decide, by decide⟩
  · exact ⟨8, rfl, by decide, by decide⟩
section
variable {P : Program} {w : World} {K : PySem.W.Frag} {mg : Str → Option Value} {base : Heap} {f fD fP fM : Addr} {fd fdD fdP fdM : FuncData}
theorem ok_nameL (F : Fun K "_law_name" "_law_name" sNameL f fd) (FP : Fun K "_law_pick" "_law_pick" sPick fP fdP) (gP : mg "_law_pick" = some (.ref fP)) (FD : Fun K "_law_draw" "_law_draw" sDraw fD fdD)
    (gD : mg "_law_draw" = some (.ref fD)) (gI : mg "int" = none) (gN : mg "len" = none) (gR : mg "range" = none) : FnOk P w K mg base CX0 3 f fd ["stream"] spNameL := by
  have G : FnOk P w K mg base CX0 1 fD fdD ["stream", "many"] spDraw := ok_draw FD gI
  have b := FD.binds (ps := ["stream", "many"]) fun _ _ _ _ _ _ us hl => match us, hl with | [_, _], _ => rfl
  have GP : FnOk P w K mg base CX0 2 fP fdP ["stream", "some"] spPickS := ok_pickS FP FD gD gI gN
  have bP := FP.binds (ps := ["stream", "some"]) fun _ _ _ _ _ _ us hl => match us, hl with | [_, _], _ => rfl
  refine F.ok scNameL (fun vs H Q E h => by obtain ⟨l, ls, N, e, _⟩ := h; rw [e]; rfl) fun cdv A outer s H vs Q E hr hsp => ?_
  obtain ⟨l, ls, N, rfl, hS, hN, hq⟩ := hsp
  have nd := scNameL.nd
  refine ⟨_, pss_cons (ps_set (i := 1) nd rfl (Or.inl rfl) (pe_ix ix_list (pe_lst (pa_cons pe_int (pa_cons pe_int (pa_cons pe_int (pa_cons pe_int (pa_cons pe_int (pa_cons pe_int pa_nil))))))) (pe_call G (hr.mono (by decide)) rfl gD FD.kp b .nil pass0 (pa_cons (pv 0) (pa_cons pe_int pa_nil))) (fun _ _ => rfl)))
    (pss_one (ps_ret (pe_join pe_str (pe_lc (own := [("k", 2)]) (tt := tYes) rfl nd (pi_range1 rfl gR (pa_cons (pv 1) pa_nil)) (blkOk_by (N := NNm) (sc := defScope sNameL) (by decide +kernel)) (fun _ _ _ _ _ => pg_name (i := 2) nd rfl (Or.inl rfl)) (fun _ _ _ _ _ => pts_nil) (fun _ _ _ _ _ => pe_call GP hr rfl gP FP.kp bP .nil pass0 (pa_cons (pv 0) (pa_cons pe_str pa_nil))))))), ?_⟩
  refine ⟨(by show 6 ≤ sizeLine; decide), fun D1 n1 => ?_⟩
  have kd := same_new (o := .lst [.int 1, .int 1, .int 2, .int 3, .int 5, .int 8]) n1
  have od : upd H D1 (.lst [.int 1, .int 1, .int 2, .int 3, .int 5, .int 8]) D1 = _ := upd_same
  have ad := hS.apart (Same.refl _) n1
  generalize upd H D1 (.lst [.int 1, .int 1, .int 2, .int 3, .int 5, .int 8]) = H1 at kd od ⊢
  refine ⟨_, rfl, l, ls, 6, _, rfl, hS.same kd, by omega, by decide, by decide, fun H2 r r0 r1 S2 B2 => ?_⟩
  obtain ⟨wd, ew, w0, w1⟩ := width_at r0 r1
  refine ⟨D1, _, r, _, rfl, rfl, SqL.of (B2 _ _ ad.1 ad.2 od), ew, ?_⟩
  have B02 : But l ls H H2 := (But.of kd).trans B2
  refine ⟨⟨_, rfl⟩, _, rfl, wd, rfl, by omega, by omega, fun D nD => ?_⟩
  have aD := S2.apart (Same.refl _) nD
  refine lc_range (n := wd.toNat) (fun j H' => ∃ cs : List Nat, H' D = some (.lst (cs.map fun c => V.str ⟨#[c]⟩)) ∧ cs.length = j ∧ (∀ c ∈ cs, c ∈ wordL) ∧ Strm H' l ls (N + 1 + j) ∧ But l ls H2 H')
    ⟨[], upd_same, rfl, fun c hc => by simp at hc, by simpa using S2.same (same_new nD), But.of (same_new nD)⟩ ?_ ?_
  · rintro j H3 hj ⟨cs, oD, lc, cok, S3, B3⟩
    refine ⟨rfl, ?_⟩
    refine ⟨_, rfl, l, ls, _, _, rfl, S3, by omega, by decide +kernel, by decide +kernel, fun H4 c hc S4 B4 => ?_⟩
    have oD4 := B4 _ _ aD.1 aD.2 oD
    refine ⟨_, oD4, (by rw [sizeLine_eq, List.length_map]; omega), cs ++ [c], by rw [upd_same]; simp, by simp [lc], ?_, ?_, ?_⟩
    · intro d hd
      rcases List.mem_append.mp hd with h | h
      · exact cok d h
      · obtain rfl : d = c := by simpa using h
        exact hc
    · obtain ⟨cs', g, k, m, S⟩ := S4
      exact Strm.mono ⟨cs', g, k, m, by rw [upd_ne (Ne.symm aD.1)]; exact S.o, by rw [upd_ne (Ne.symm aD.2)]; exact S.c, S.ne, S.g0, S.k0, S.k1, S.m0, S.m1, S.sz⟩ (by omega)
    · intro b o h1 h2 e
      have nb : b ≠ D := ne_of_none e nD
      rw [upd_ne nb]
      exact B4 _ _ h1 h2 (B3 _ _ h1 h2 e)
  · rintro H3 ⟨cs, oD, lc, cok, S3, B3⟩
    have lc3 : 1 ≤ cs.length ∧ cs.length ≤ 8 := by omega
    have em : (cs.map fun c => V.str ⟨#[c]⟩) = (cs.map fun c => (⟨#[c]⟩ : Str)).map V.str := by rw [List.map_map]; rfl
    rw [em] at oD
    have sums : ∀ l : List Nat, ((l.map fun c => (⟨#[c]⟩ : Str)).map (·.length)).sum = l.length := fun l => by
      induction l with
      | nil => rfl
      | cons a l ih => rw [List.map_cons, List.map_cons, List.sum_cons, ih, List.length_cons]; show 1 + _ = _; omega
    refine ⟨_, D, _, rfl, rfl, .inl (SqL.of oD), ?_, ?_⟩
    · rw [sums, List.length_map]; show cs.length + cs.length * 0 ≤ _; omega
    have hw : (Txt.join (Str.ofString "") (cs.map fun c => (⟨#[c]⟩ : Str))).cps.toList = cs := join_cps cs
    generalize Txt.join (Str.ofString "") (cs.map fun c => (⟨#[c]⟩ : Str)) = wd at hw
    refine hq H3 wd ?_ (S3.mono (by omega)) (B02.trans B3)
    unfold NmS NmOk
    rw [hw]
    exact ⟨⟨lc3.1, by omega, fun c hc => word_sub c (cok c hc)⟩, by omega, cok⟩
end
end L2.TB
namespace L2.TB
open PySem PySem.Spec PyProof.Rows
def spNames : Sp := fun vs H Q _ => ∃ (l ls : Addr) (many N : Int), vs = [.ref l, .int many] ∧ Strm H l ls N ∧ N ≤ 900000 ∧ 0 ≤ many ∧ many ≤ 12 ∧
  ∀ H' q (ns : List Str), (ns.length : Int) = many → ns.Nodup → (∀ x ∈ ns, NmS x) → H q = none → H' q = some (.lst (ns.map V.str)) → Strm H' l ls (N + 9 * many) → But l ls H H' → Q (.ref q) H'
abbrev NN : List Str := ["stream", "many", "found", "k", "spare", "letter", "x"]
theorem scNames : FnScope NN ["stream", "many"] (defScope sNamesL) := ⟨rfl, rfl, rfl, by decide +kernel, rfl, by decide +kernel, by decide +kernel⟩
section
variable {P : Program} {w : World} {K : PySem.W.Frag} {mg : Str → Option Value} {base : Heap} {f fD fP fM fW : Addr} {fd fdD fdP fdM fdW : FuncData}
theorem ok_names (F : Fun K "_law_names" "_law_names" sNamesL f fd) (FW : Fun K "_law_name" "_law_name" sNameL fW fdW) (gW : mg "_law_name" = some (.ref fW)) (FP : Fun K "_law_pick" "_law_pick" sPick fP fdP) (gP : mg "_law_pick" = some (.ref fP)) (FD : Fun K "_law_draw" "_law_draw" sDraw fD fdD)
    (gD : mg "_law_draw" = some (.ref fD)) (gI : mg "int" = none) (gN : mg "len" = none) (gR : mg "range" = none) : FnOk P w K mg base CX0 4 f fd ["stream", "many"] spNames := by
  have GW : FnOk P w K mg base CX0 3 fW fdW ["stream"] spNameL := ok_nameL FW FP gP FD gD gI gN gR
  have bW := FW.binds (ps := ["stream"]) fun _ _ _ _ _ _ us hl => match us, hl with | [_], _ => rfl
  refine F.ok scNames (fun vs H Q E h => by obtain ⟨l, ls, many, N, e, _⟩ := h; rw [e]; rfl) fun cdv A outer s H vs Q E hr hsp => ?_
  obtain ⟨l, ls, many, N, rfl, hS, hN, h0, h1, hq⟩ := hsp
  have nd := scNames.nd
  refine ⟨_, pss_cons (ps_set (i := 2) nd rfl (Or.inr rfl) (pe_lst pa_nil))
    (pss_cons (ps_for PassesOwn.never rfl (pi_range1 rfl gR (pa_cons (pv 1) pa_nil)) (pg_name (i := 3) nd rfl (Or.inl rfl))
      (pss_cons (ps_set (i := 4) nd rfl (Or.inl rfl) (pe_op op_cat (pe_lst (pa_cons (pe_call GW hr rfl gW FW.kp bW .nil pass0 (pa_cons (pv 0) pa_nil)) pa_nil)) (pe_lc (own := [("letter", 5)]) (tt := tYes) rfl nd (pi_str pe_str) (blkOk_by (N := NN) (sc := defScope sNamesL) (by decide +kernel))
          (fun _ _ _ _ _ => pg_name (i := 5) nd rfl (Or.inl rfl)) (fun _ _ _ _ _ => pts_nil) (fun _ _ _ _ _ => pe_op op_add_str (pv 5) pe_str))))
      (pss_one (ps_expr (pe_bm PySem.F.plainAttrs_list PySem.F.slot_list_append PySem.F.type_list_append mt_append (pv 2) (pa_cons (pe_ix ix_list (pe_lc (own := [("x", 6)]) (tt := tTest (tOp (rIn K true) (tVar 6) (tVar 2))) rfl nd (pi_list (pv 4)) (blkOk_by (N := NN) (sc := defScope sNamesL) (by decide +kernel))
          (fun _ _ _ _ _ => pg_name (i := 6) nd rfl (Or.inl rfl)) (fun _ _ _ _ _ => pts_one (pt_cmpR op_notIn_seq (pv 6) (pv 2) rfl)) (fun _ _ _ _ _ => pv 6)) pe_int (fun _ _ => rfl)) pa_nil))))))
    (pss_one (ps_ret (pv 2)))), ?_⟩
  refine ⟨Nat.zero_le _, fun q nq => ?_⟩
  have aq := hS.apart (Same.refl _) nq
  refine ⟨_, rfl, many, rfl, by omega, by omega, for_range (n := many.toNat) (fun i σ H' => ∃ ns : List Str, H' q = some (.lst (ns.map V.str)) ∧ ns.length = i ∧ ns.Nodup ∧ (∀ x ∈ ns, NmS x) ∧ Strm H' l ls (N + 9 * i) ∧ But l ls H H' ∧
    ∃ s3 s4 s5 s6, σ = [some (.ref l), some (.int many), some (.ref q), s3, s4, s5, s6])
    ⟨[], upd_same, rfl, .nil, fun x hx => by simp at hx, by simpa using hS.same (same_new nq), But.of (same_new nq), _, _, _, _, rfl⟩ ?_ ?_⟩
  · rintro i σ H1 hi ⟨ns, oq, ln, nn, nok, S1, B1, s3, s4, s5, s6, rfl⟩
    have hi2 : (i : Int) < 12 := by omega
    -- the word
    refine ⟨_, rfl, l, ls, _, rfl, S1, by omega, fun H3 wd wok S3 B13 => ?_⟩
    have oq3 := B13 _ _ aq.1 aq.2 oq
    -- the spare names
    · refine ⟨(by rw [sizeLine_eq]; show 1 ≤ _; omega), fun a1 n1 => ?_⟩
      have k1 := same_new (o := .lst [.str wd]) n1
      have e26 : (Str.ofString "abcdefghijklmnop").cps.size = 16 := by decide +kernel
      have l26 : letL.length = 16 := by decide +kernel
      refine ⟨_, rfl, fun D2 nD2 => ⟨fun j m H' => m = 16 - j ∧ j ≤ 16 ∧ H' D2 = some (.lst ((letL.take j).map fun c => V.str (spare c))) ∧ Same (upd H3 a1 (.lst [.str wd])) H',
        ⟨16, rfl, by decide, upd_same, same_new nD2⟩, ?_⟩⟩
      rintro j m H4 ⟨rfl, hj, oD2, sm4⟩
      by_cases lt : j < 16
      · refine .inr ⟨(by show j < _; rw [e26]; exact lt), fun H' => H' D2 = some (.lst ((letL.take (j + 1)).map fun c => V.str (spare c))) ∧ Same (upd H3 a1 (.lst [.str wd])) H', fun H' h => ⟨16 - (j + 1), by omega, rfl, lt, h⟩, ?_⟩
        rintro v H' ⟨rfl, c, hc, rfl⟩
        have hc2 : letL[j]? = some c := by
          unfold letL
          rw [Array.getElem?_toList]; exact hc
        refine ⟨rfl, ?_⟩
        refine ⟨_, rfl, _, _, rfl, rfl, (by rw [sizeLine_eq]; show 1 + 2 ≤ _; omega), _, oD2, (by rw [sizeLine_eq, List.length_map, List.length_take]; omega), ?_, fun b o e => by rw [upd_ne (ne_of_none e nD2)]; exact sm4 b o e⟩
        rw [upd_same, List.take_succ, hc2]
        simp [spare]
      · have j26 : j = 16 := by omega
        refine .inl ⟨(by show _ ≤ j; rw [e26]; omega), ?_⟩
        have et : letL.take j = letL := List.take_of_length_le (by omega)
        rw [et] at oD2
        refine ⟨a1, D2, _, _, rfl, rfl, sm4 _ _ upd_same, oD2, (by rw [sizeLine_eq, List.length_map, l26]; show 1 + 16 ≤ _; omega), fun p np => ?_⟩
        have esp : [V.str wd] ++ letL.map (fun c => V.str (spare c)) = (wd :: letL.map spare).map V.str := by simp [List.map_map]
        rw [esp]
        have spl : (wd :: letL.map spare).length = 17 := by rw [List.length_cons, List.length_map, l26]
        have spok : ∀ x ∈ (wd :: letL.map spare), NmS x := fun x hx => by
          rcases List.mem_cons.mp hx with h | h
          · rw [h]; exact wok
          · obtain ⟨c, hc, rfl⟩ := List.mem_map.mp h
            exact spare_ok c hc
        have hne := spare_left wd ns (by omega)
        generalize wd :: letL.map spare = sp at spl spok hne
        have k5 := same_new (o := .lst (sp.map V.str)) np
        have k35 := (k1.trans sm4).trans k5
        refine ⟨_, rfl, .inl ⟨rfl, _, SqL.of (k35 _ _ oq3)⟩, _, rfl, p, rfl, ⟨_, SqL.of upd_same⟩, fun D3 nD3 => ?_⟩
        refine lc_list (xs := sp.map V.str) (fun j H' => H' D3 = some (.lst (((sp.take j).filter fun x => decide (x ∉ ns)).map V.str)) ∧ Same (upd H4 p (.lst (sp.map V.str))) H')
          ⟨by rw [upd_same]; rfl, same_new nD3⟩ (fun j H' _ h => SqL.of (h.2 _ _ upd_same)) ?_ ?_
        · rintro j v H6 ev ⟨oD3, sm6⟩
          rw [List.getElem?_map] at ev
          obtain ⟨x, ex, rfl⟩ := Option.map_eq_some_iff.mp ev
          have et2 : sp.take (j + 1) = sp.take j ++ [x] := by rw [List.take_succ, ex]; rfl
          refine ⟨rfl, ?_⟩
          refine ⟨_, rfl, _, rfl, q, ns.map V.str, rfl, .inl (SqL.of (sm6 _ _ (k35 _ _ oq3))), rfl, flat_strs ns, _, rfl, ?_⟩
          rw [inV_strs]
          by_cases hx : x ∈ ns
          · rw [decide_eq_true hx]
            refine iteF ?_
            refine ⟨?_, sm6⟩
            rw [et2, List.filter_append]
            simpa [hx] using oD3
          · rw [decide_eq_false hx]
            refine iteT ?_
            refine ⟨_, rfl, _, oD3, ?_, ?_, fun b o e => by rw [upd_ne (ne_of_none e nD3)]; exact sm6 b o e⟩
            · have z := List.length_filter_le (fun x => decide (x ∉ ns)) (sp.take j)
              rw [List.length_take] at z
              rw [sizeLine_eq, List.length_map]; omega
            · rw [upd_same, et2, List.filter_append]
              simp [hx]
        · rintro H6 ⟨oD3, sm6⟩
          have ef : sp.take (sp.map V.str).length = sp := List.take_of_length_le (by rw [List.length_map]; omega)
          rw [ef] at oD3
          have oq6 := sm6 _ _ (k35 _ _ oq3)
          cases efl : sp.filter fun x => decide (x ∉ ns) with
          | nil => exact absurd efl hne
          | cons y rest =>
            rw [efl] at oD3
            have hy : y ∈ sp.filter fun x => decide (x ∉ ns) := by rw [efl]; exact List.mem_cons_self
            obtain ⟨hy1, hy2⟩ := List.mem_filter.mp hy
            have hy3 : y ∉ ns := by simpa using hy2
            refine ⟨D3, _, 0, .str y, rfl, rfl, SqL.of oD3, atI_nat (j := 0) (by simp), ?_⟩
            refine ⟨q, ns.map V.str, .str y, rfl, rfl, oq6, (by rw [sizeLine_eq, List.length_map]; omega), ns ++ [y], by rw [upd_same]; simp, by simp [ln], ?_, ?_, ?_, ?_, _, _, _, _, rfl⟩
            · rw [List.nodup_append]
              exact ⟨nn, by simp, fun a ha b hb => by
                obtain rfl : b = y := by simpa using hb
                exact fun z => hy3 (z ▸ ha)⟩
            · intro x hx
              rcases List.mem_append.mp hx with h | h
              · exact nok x h
              · obtain rfl : x = y := by simpa using h
                exact spok _ hy1
            · obtain ⟨cs', g, k, m, S⟩ := (S3.same k35).same sm6
              exact Strm.mono ⟨cs', g, k, m, by rw [upd_ne (Ne.symm aq.1)]; exact S.o, by rw [upd_ne (Ne.symm aq.2)]; exact S.c, S.ne, S.g0, S.k0, S.k1, S.m0, S.m1, S.sz⟩ (by omega)
            · intro b o h1 h2 e
              have nb : b ≠ q := ne_of_none e nq
              rw [upd_ne nb]
              exact sm6 _ _ (k35 _ _ (B13 _ _ h1 h2 (B1 _ _ h1 h2 e)))
  · rintro σ H1 ⟨ns, oq, ln, nn, nok, S1, B1, s3, s4, s5, s6, rfl⟩
    have em : ((many.toNat : Nat) : Int) = many := by omega
    rw [em] at S1
    exact ⟨_, rfl, hq H1 q ns (by omega) nn nok nq oq S1 B1⟩
end
end L2.TB
namespace L2.TB
open PySem
open PySem.Spec PyProof.Rows
/-! for i, x in enumerate(thing), thing a list or a tuple -/
abbrev tupIter (t : Addr) : Obj := { cls := .type "tuple_iterator", data := .fields #[.ref t, .int 0 0] }
abbrev enumRec (q : Addr) : Obj := { cls := .type "enumerate", data := .fields #[.none, .bool false, .ref q, rawInt 0, .none, .none] }
section
variable {P : Program} {w : World}
/-- what enumerate's maker does with a tuple -/
theorem made_enum (t : Addr) (ys : Array Value) : Meets (Builtin.«enumerate.__new__» ⟨[.type "enumerate", .ref t], []⟩) fun _ done z =>
    z.heap.IsTuple t ys ∧ done (.ok (.ret (.ref (z.heap.push (tupIter t)).objs.size))) { z with heap := (z.heap.push (tupIter t)).push (enumRec z.heap.objs.size) } :=
  .of_wp fun _ _ _ _ z hz => by
    obtain ⟨h0, gs, ds, tk, os⟩ := z
    obtain ⟨isT, fin⟩ := hz
    have sub := sub_enumerate
    have step : ∀ {A' : Around} {E' : Value → Shared → Prop} {Q' : Value → Shared → Prop} {P' : Program} {w' : World}, Q' (.ref h0.objs.size) ⟨h0.push (tupIter t), gs, ds, tk, os⟩ → wpAny (model P' w') A' (pyIter (.ref t)) Q' E' ⟨h0, gs, ds, tk, os⟩ :=
      fun more => wpAny_pyIter_tuple (s := ⟨h0, gs, ds, tk, os⟩) isT more
    wp_walk using step
    refine wpAny_stack_any (fun _ => wpAny_pure ?_)
    split
    · rename_i c _ _ _ _ _
      rcases (c == Value.type "enumerate") with _ | _ <;> (wp_walk using step; exact ⟨_, rfl, fin⟩)
    · wp_walk using step
      exact ⟨_, rfl, fin⟩
/-- the call -/
theorem enum_of_tuple {A : Around} {z : Shared} {E Q : Value → Shared → Prop} {t : Addr} {ys : Array Value} (isT : z.heap.IsTuple t ys)
    (more : IsEnum ((z.heap.push (tupIter t)).push (enumRec z.heap.objs.size)) (z.heap.objs.size + 1) z.heap.objs.size 0 .none →
      Q (.ref (z.heap.objs.size + 1)) { z with heap := (z.heap.push (tupIter t)).push (enumRec z.heap.objs.size) }) : wpAny (model P w) A (call (.type "enumerate") [.ref t]) Q E z := by
  refine callType_new F.called_enumerate (by decide) (F.typeCall_enumerate_1 _) (F.newCall_enumerate_1 _) (fun b => F.args_object_init_2 b _) F.entry_enumerate_new (made_enum t ys) ⟨isT, ?_⟩
  have size1 : (z.heap.push (tupIter t)).objs.size = z.heap.objs.size + 1 := Heap.size_push ..
  have rec1 := Heap.get?_push_size (z.heap.push (tupIter t)) (o := enumRec z.heap.objs.size) rfl
  rw [size1] at rec1
  show _ ∧ _
  rw [size1]
  exact ⟨⟨_, rec1, rfl⟩, more rec1⟩
end
/-- the items of the tuple at t, each in a new pair with its number -/
def IteT (K : PySem.W.Frag) (t : Addr) : It where
  go i H := ∃ (ys : List V) (y : V), SqT K H t ys ∧ ys[i]? = some y
  yld i H v H' := ∃ T y, v = .ref T ∧ H T = none ∧ H' = upd H T (.tup [.int (i : Nat), y]) ∧ ∀ ys, SqT K H t ys → ys[i]? = some y
  stop i H := ∃ ys : List V, SqT K H t ys ∧ ys.length ≤ i
/-- three records of three classes stand at three places -/
theorem three {h : Heap} {t q r : Addr} {ys : Array Value} {i : Nat} {c : Int} {old : Value} (isT : h.IsTuple t ys) (isQ : h.IsTupleIter q t i) (isR : IsEnum h r q c old) : t ≠ q ∧ r ≠ t := by
  obtain ⟨ot, gt, ct, _⟩ := isT
  obtain ⟨oq, gq, cq, _⟩ := isQ
  have ct : ot.cls = Value.type "tuple" := ct
  have cq : oq.cls = Value.type "tuple_iterator" := cq
  constructor
  · rintro rfl
    rw [gt] at gq
    injection gq with same
    rw [← same, ct] at cq
    exact absurd cq (by decide)
  · rintro rfl
    have gr := isR
    unfold IsEnum at gr
    rw [gt] at gr
    injection gr with same
    rw [same] at ct
    exact absurd (show Value.type "enumerate" = Value.type "tuple" from ct) (by decide)
theorem two_of {b r q : Addr} {p : Addr → Prop} (hr : p r) (hq : p q) (hb : b ∈ [r, q]) : p b := by
  rcases List.mem_cons.mp hb with rfl | hb
  · exact hr
  · obtain rfl := List.mem_singleton.mp hb
    exact hq
theorem turn_enumT {P : Program} {w : World} {K : PySem.W.Frag} {elts : List Expr} {kk : Nat} {tpos : Pos} (t r q : Addr) :
    Turn P w K (.Tuple elts kk tpos) (IteT K t) [r, q] r (fun i h => r ≠ q ∧ h.IsTupleIter q t i ∧ ∃ old, IsEnum h r q ((i : Nat) : Int) old) := by
  refine ⟨List.mem_cons_self, fun i h st b hb => ?_, fun i h h' st same => ?_, ?_, ?_, fun A i z Q E st more => ?_⟩
  · obtain ⟨_, ⟨oq, gq, _, dq⟩, old, gr⟩ := st
    exact two_of (p := fun b => ∃ o, h.get? b = some o ∧ ∀ v, o.data ≠ .cell v) ⟨_, gr, fun _ e => nomatch e⟩ ⟨oq, gq, fun _ e => by rw [dq] at e; exact nomatch e⟩ hb
  · obtain ⟨ne, gq, old, gr⟩ := st
    exact ⟨ne, gq.at fun o e => same q (List.mem_cons_of_mem _ List.mem_cons_self) o e, old, same r List.mem_cons_self _ gr⟩
  · rintro X rfl rfl rfl calm i pins z σ H E I room ⟨ne, gq, old, gr⟩ ⟨ys, y, isY, nth⟩
    obtain ⟨vs, rel, isT, _⟩ := I.tuple isY
    obtain ⟨v, nthV, relV⟩ := rel.get nth
    have isT : z.heap.IsTuple t vs.toArray := isT
    obtain ⟨tq, rt⟩ := three isT gq gr
    have lr : r < z.heap.objs.size := Heap.lt_size gr
    have lq : q < z.heap.objs.size := gq.elim fun _ e => Heap.lt_size e.1
    have inside : i < vs.toArray.size := by
      have := (List.getElem?_eq_some_iff.mp nthV).1
      simpa using this
    have draws := Draws.tuple (prog := X.prog) (w := X.w) (A := X.A.in1) (I.ok.hd calm) q t tq vs.toArray
    refine wpAny_pyNext_enum_itemC draws gr ⟨gq, isT⟩ inside ne (fun m => two_of (p := fun b => r = b → False) ne rt m rfl) fun v' h1 tk hv out stQ newT _ kept1 => ?_
    obtain rfl : v' = v := by
      have hv : vs.toArray[i]? = some v' := hv
      rw [List.getElem?_toArray, nthV] at hv
      exact (Option.some.inj hv).symm
    refine ⟨_, rfl, wpAny_letOwnedTupleGo_enum (s := { z with heap := h1, toks := tk + 1 }) out fun h2 back same2 => ?_⟩
    have at2 : ∀ b o, b ∉ [r, q] → z.heap.get? b = some o → h2.get? b = some o := fun b o away e =>
      (same2.2 b fun k => away (k ▸ List.mem_cons_self)).trans (kept1 b o (fun k => away (k ▸ List.mem_cons_self)) (fun k => away (k ▸ List.mem_cons_of_mem _ List.mem_cons_self)) e)
    have pair : ObjOk X.prog X.w (upd H z.heap.objs.size (.tup [.int (i : Nat), y])) h2 z.heap.objs.size (.tup [.int (i : Nat), y]) :=
      ⟨show 2 ≤ sizeLine by decide, [.int i tk, v'], .cons ⟨tk, rfl⟩ (.cons relV .nil), _, (same2.2 _ (Nat.ne_of_gt lr)).trans newT, rfl, _, rfl⟩
    refine ⟨.ref z.heap.objs.size, _, I.turnedNew (t' := tk + 1) at2 room (Nat.le_refl _) pair, rfl, ⟨_, y, rfl, I.hok.fresh (Nat.le_refl _), rfl, fun ys' is' => ?_⟩, ⟨ne, ?_, v', ?_⟩, fun b hb => ?_⟩
    · rw [I.tuple_inj is' isY]; exact nth
    · exact stQ.1.at fun o e => (same2.2 q ne.symm).trans e
    · rw [show ((i + 1 : Nat) : Int) = (i : Int) + 1 from by omega]; exact back
    · have lb : b < z.heap.objs.size := two_of (p := fun b => b < z.heap.objs.size) lr lq hb
      rw [upd_ne (Nat.ne_of_lt lb)]
      exact (room b hb).1
  · rintro X rfl rfl rfl calm i pins z σ H E I room ⟨ne, gq, old, gr⟩ ⟨ys, isY, past⟩
    obtain ⟨vs, rel, isT, _⟩ := I.tuple isY
    have isT : z.heap.IsTuple t vs.toArray := isT
    obtain ⟨k0, k1, k2, k3, k4, k5⟩ := room q (List.mem_cons_of_mem _ List.mem_cons_self)
    have isE : z.TypeIs (.ref r) "enumerate" := ⟨_, gr, rfl⟩
    have len := rel.length
    have past : vs.toArray[i]? = none := by rw [List.getElem?_toArray, List.getElem?_eq_none_iff]; omega
    unfold pyNext
    refine wpAny_bind (wpAny_attempt (wpAny_callSpecial?_slot (name := Str.ofString "__next__") isE F.slot_enumerate_next (wpAny_call_entry F.slot_enumerate_next isE F.entry_enumerate_next ?_ (F.args_enumerate_next_1 _))))
    show wpAny _ _ (field (.ref r) 2 >>= _) _ _ z
    refine wpAny_bind (wpAny_field gr rfl (x := .ref q) rfl (wpAny_bind (wpAny_nextOf_tuple_end (I.ok.hd calm) gq isT past fun h1 x but ⟨ox, gx, cx⟩ => ?_)))
    exact wpAny_bind (wpAny_isInstance (T := "StopIteration") (b := true) ⟨ox, gx, cx⟩ isSubtype_stop (wpAny_pure ⟨rfl, I.turned (t' := z.toks) (fun b o away e => but b o away e) k0 k1 k3 k4 k5⟩))
  · obtain ⟨_, _, old, gr⟩ := st
    exact wpAny_pyIter_enum gr more
/-- the reading of enumerate over a list or over a tuple -/
def iEnumS (K : PySem.W.Frag) (ta : TA) : TI := fun σ H R => ta σ H fun vs H1 => ∃ a xs, vs = [.ref a] ∧ ((SqL K H1 a xs ∧ R (Ite K a) H1) ∨ (SqT K H1 a xs ∧ R (IteT K a) H1))
theorem pi_enumS {X : Cx} {e : Expr} {ta : TA} {p pos tpos : Pos} {elts : List Expr} {kk : Nat} (hg : Gl X "enumerate") (hm : X.mg "enumerate" = none) (ha : PA X [e] ta) (hs : starEach [e] X.env = [(false, eval e X.env)] := by rfl) :
    PI X (.Tuple elts kk tpos) (.Call (.Name "enumerate" p) [e] [] pos) (iEnumS X.K ta) := by
  refine PI.mk fun pins z σ H R I reading => Call_ (ld_blt I hg hm boot_enumerate (PyProof.Rows.callWith_type1 (thn (ha.run pos pins z σ H _ I reading) fun us z1 hu => ?_) hs rfl))
  obtain ⟨vs, H1, I1, rel, a, xs, rfl, cases2⟩ := hu
  match us, rel with
  | [u], .cons ru .nil =>
    obtain rfl : u = Value.ref a := ru
    have fresh : ∀ b ∈ [z1.heap.objs.size + 1, z1.heap.objs.size], FpOk X pins H1 b := fun b hb =>
      have far : z1.heap.objs.size ≤ b := two_of (p := fun b => z1.heap.objs.size ≤ b) (Nat.le_succ _) (Nat.le_refl _) hb
      I1.fpOk far (I1.hok.fresh far)
    rcases cases2 with ⟨sq, q⟩ | ⟨sq, q⟩
    · obtain ⟨its, rv, isL, _⟩ := I1.list sq
      exact call_enumerate_list isL.isList fun h' gE gI _ kept => wpAny_pyIter_enum gE ⟨_, _, _, _, H1, rfl, I1.kept (t' := z1.toks) kept, turn_enum a _ _, ⟨⟨.none, gE⟩, gI, Nat.succ_ne_self _⟩, fresh, q⟩
    · obtain ⟨its, rv, isT, _⟩ := I1.tuple sq
      have isT : z1.heap.IsTuple a its.toArray := isT
      refine enum_of_tuple isT fun gE => wpAny_pyIter_enum gE ⟨_, _, _, _, H1, rfl, I1.kept (t' := z1.toks) fun b o e => ?_, turn_enumT a _ _, ⟨Nat.succ_ne_self _, ?_, .none, gE⟩, fresh, q⟩
      · exact Heap.get?_push_of_some _ (Heap.get?_push_of_some _ e)
      · exact ⟨_, Heap.get?_push_of_some _ (Heap.get?_push_size _ rfl), rfl, rfl⟩
end L2.TB
namespace L2.TB
open PySem PySem.Spec PyProof.Rows
/-! the program's looks at what it is passed -/
theorem boot_int' : bootBuiltins "int" = some (.type "int") := by decide +kernel
theorem boot_bool' : bootBuiltins "bool" = some (.type "bool") := by decide +kernel
theorem boot_str' : bootBuiltins "str" = some (.type "str") := by decide +kernel
theorem boot_list' : bootBuiltins "list" = some (.type "list") := by decide +kernel
theorem boot_tuple' : bootBuiltins "tuple" = some (.type "tuple") := by decide +kernel
theorem boot_dict' : bootBuiltins "dict" = some (.type "dict") := by decide +kernel
theorem boot_isi : bootBuiltins "isinstance" = some (.builtin "isinstance") := by decide +kernel
/-- the list or the tuple at a -/
def SqA (K : PySem.W.Frag) (H : Hp) (a : Addr) (xs : List V) : Prop := H a = some (.lst xs) ∨ H a = some (.tup xs)
theorem SqA.seq {K : PySem.W.Frag} {H : Hp} {a : Addr} {xs : List V} (h : SqA K H a xs) : SqL K H a xs ∨ SqT K H a xs := h.imp SqL.of SqT.of
theorem SqA.same {K : PySem.W.Frag} {H H' : Hp} {a : Addr} {xs : List V} (h : SqA K H a xs) (s : Same H H') : SqA K H' a xs := h.imp (s _ _) (s _ _)
theorem kit_two_l {K : PySem.W.Frag} : PySem.W.kitAny K (.type "list") [.type "list", .type "tuple"] = some true := by
  unfold PySem.W.kitAny
  rw [kit_ty (K := K) (a := "list") (b := "list") (r := true) (by decide +kernel)]
theorem kit_two_t {K : PySem.W.Frag} : PySem.W.kitAny K (.type "tuple") [.type "list", .type "tuple"] = some true := by
  unfold PySem.W.kitAny
  rw [kit_ty (K := K) (a := "tuple") (b := "list") (r := false) (by decide +kernel)]
  dsimp only
  unfold PySem.W.kitAny
  rw [kit_ty (K := K) (a := "tuple") (b := "tuple") (r := true) (by decide +kernel)]
def spIsInt : Sp := fun vs H Q _ => ∃ k : Int, vs = [.int k] ∧ Q (.bl true) H
def spIsList (K : PySem.W.Frag) : Sp := fun vs H Q _ => ∃ (a : Addr) (xs : List V), vs = [.ref a] ∧ SqA K H a xs ∧ ∀ H', Same H H' → Q (.bl true) H'
def spIsOne (K : PySem.W.Frag) : Sp := fun vs H Q _ => ∃ (c : Addr) (ns : List Str) (x : Str), vs = [.ref c, .str x] ∧ SqL K H c (ns.map V.str) ∧ Q (.bl (decide (x ∈ ns))) H
/-- no bad one -/
def spFirst (K : PySem.W.Frag) : Sp := fun vs H Q _ => ∃ (c a : Addr) (ns known : List Str), vs = [.ref c, .ref a] ∧ H c = some (.lst (ns.map V.str)) ∧ SqA K H a (known.map V.str) ∧ known.Nodup ∧ (∀ x ∈ known, x ∈ ns) ∧ known.length < 1000 ∧ ∀ H', Same H H' → Q .non H'
theorem scIsInt : FnScope ["thing"] ["thing"] (defScope sIsInt) := ⟨rfl, rfl, rfl, by decide +kernel, rfl, by decide +kernel, by decide +kernel⟩
theorem scIsList : FnScope ["thing"] ["thing"] (defScope sIsList) := ⟨rfl, rfl, rfl, by decide +kernel, rfl, by decide +kernel, by decide +kernel⟩
theorem scIsOne : FnScope ["names", "thing"] ["names", "thing"] (defScope sIsOne) := ⟨rfl, rfl, rfl, by decide +kernel, rfl, by decide +kernel, by decide +kernel⟩
abbrev NF : List Str := ["names", "things", "seen", "index", "thing"]
theorem scFirst : FnScope NF ["names", "things"] (defScope sFirst) := ⟨rfl, rfl, rfl, by decide +kernel, rfl, by decide +kernel, by decide +kernel⟩
section
variable {P : Program} {w : World} {K : PySem.W.Frag} {mg : Str → Option Value} {base : Heap} {f fL fO : Addr} {fd fdL fdO : FuncData}
theorem ok_isInt (F : Fun K "is_integer" "is_integer" sIsInt f fd) (gI : mg "isinstance" = none) (gInt : mg "int" = none) (gB : mg "bool" = none) : FnOk P w K mg base CX0 1 f fd ["thing"] spIsInt := by
  refine F.ok scIsInt (fun vs H Q E h => by obtain ⟨k, e, _⟩ := h; rw [e]; rfl) fun cdv A outer s H vs Q E hr hsp => ?_
  obtain ⟨k, rfl, hq⟩ := hsp
  refine ⟨_, pss_one (ps_ret (pe_and (pe_callB (r := rIsi K) call_isi rfl gI boot_isi (pa_cons (pv 0) (pa_cons (pe_bltn (v := .ty "int") rfl gInt boot_int' rfl) pa_nil)))
    (pe_one (pe_not (pe_callB (r := rIsi K) call_isi rfl gI boot_isi (pa_cons (pv 0) (pa_cons (pe_bltn (v := .ty "bool") rfl gB boot_bool' rfl) pa_nil))))))), ?_⟩
  exact ⟨_, rfl, _, _, _, _, true, rfl, .ty _, .base (.int k), kit_ty (by decide +kernel), true, rfl, _, rfl, _, _, _, _, false, rfl, .ty _, .base (.int k), kit_ty (by decide +kernel), false, rfl, hq⟩
theorem ok_isList (F : Fun K "is_list" "is_list" sIsList f fd) (gI : mg "isinstance" = none) (gL : mg "list" = none) (gT : mg "tuple" = none) : FnOk P w K mg base CX0 1 f fd ["thing"] (spIsList K) := by
  refine F.ok scIsList (fun vs H Q E h => by obtain ⟨a, xs, e, _⟩ := h; rw [e]; rfl) fun cdv A outer s H vs Q E hr hsp => ?_
  obtain ⟨a, xs, rfl, hS, hq⟩ := hsp
  refine ⟨_, pss_one (ps_ret (pe_callB (r := rIsiT K) call_isiT rfl gI boot_isi (pa_cons (pv 0) (pa_cons (pe_tup (pa_cons (pe_bltn (v := .ty "list") rfl gL boot_list' rfl) (pa_cons (pe_bltn (v := .ty "tuple") rfl gT boot_tuple' rfl) pa_nil))) pa_nil)))), ?_⟩
  refine ⟨_, rfl, (by show 2 ≤ sizeLine; decide), fun t nt => ?_⟩
  have kt := same_new (o := .tup [.ty "list", .ty "tuple"]) nt
  rcases hS.same kt with e | e
  · exact ⟨_, _, _, _, _, true, rfl, upd_same, .cons (.ty _) (.cons (.ty _) .nil), .base (.lst e), kit_two_l, hq _ kt⟩
  · exact ⟨_, _, _, _, _, true, rfl, upd_same, .cons (.ty _) (.cons (.ty _) .nil), .base (.tup e), kit_two_t, hq _ kt⟩
theorem ok_isOne (F : Fun K "is_one_of" "is_one_of" sIsOne f fd) (gI : mg "isinstance" = none) (gS : mg "str" = none) : FnOk P w K mg base CX0 1 f fd ["names", "thing"] (spIsOne K) := by
  refine F.ok scIsOne (fun vs H Q E h => by obtain ⟨c, ns, x, e, _⟩ := h; rw [e]; rfl) fun cdv A outer s H vs Q E hr hsp => ?_
  obtain ⟨c, ns, x, rfl, hS, hq⟩ := hsp
  refine ⟨_, pss_one (ps_ret (pe_and (pe_callB (r := rIsi K) call_isi rfl gI boot_isi (pa_cons (pv 1) (pa_cons (pe_bltn (v := .ty "str") rfl gS boot_str' rfl) pa_nil)))
    (pe_one (pe_cmpR op_in_seq (pv 1) (pv 0) rfl)))), ?_⟩
  refine ⟨_, rfl, _, _, _, _, true, rfl, .ty _, .base (.str x), kit_ty (by decide +kernel), true, rfl, _, rfl, _, rfl, c, _, rfl, .inl hS, rfl, flat_strs ns, ?_⟩
  rw [inV_strs]
  exact hq
/-- the dict of what was seen -/
def seenD (xs : List Str) : List (Key × V) := xs.map fun x => (Sum.inr x, V.bl true)
theorem seen_none {xs : List Str} {x : Str} (h : x ∉ xs) : valV (seenD xs) (Sum.inr x) = none := by
  cases e : valV (seenD xs) (Sum.inr x) with
  | none => rfl
  | some v =>
    exfalso
    have z : (valV (seenD xs) (Sum.inr x)).isSome = true := by rw [e]; rfl
    rw [← valV_any, List.any_eq_true] at z
    obtain ⟨q, hq, hq2⟩ := z
    obtain ⟨y, hy, rfl⟩ := List.mem_map.mp hq
    have hq3 : (Sum.inr y : Key) = Sum.inr x := of_decide_eq_true hq2
    exact h (Sum.inr.inj hq3 ▸ hy)
theorem seen_put {xs : List Str} {x : Str} (h : x ∉ xs) : putK (seenD xs) (Sum.inr x) (.bl true) = seenD (xs ++ [x]) := by
  rw [putK_new (.bl true) (seen_none h)]
  simp [seenD]
/-- what the for loop asks of its turns -/
def ForW (J : It) (g : TG) (tb : TS) (D : Ends) (σ : St) (H : Hp) : Prop := ∃ W : Nat → Nat → St → Hp → Prop, (∃ m, W 0 m σ H) ∧ ∀ i m σ H, W i m σ H →
  (J.stop i H ∧ D.nx σ H) ∨ (J.go i H ∧ ∃ N : St → Hp → Prop, (∀ σ' H', N σ' H' → ∃ m', m' < m ∧ W (i + 1) m' σ' H') ∧ ∀ x H', J.yld i H x H' → g x σ H' fun σ2 H2 => tb { D with nx := N, ct := N, bk := D.nx } σ2 H2)
theorem enum_seq {K : PySem.W.Frag} {a : Addr} {xs : List V} {o : HO} {g : TG} {tb : TS} {D : Ends} {σ : St} {H : Hp} (ko : o = .lst xs ∨ o = .tup xs) (Pv : Nat → St → Hp → Prop) (h0 : Pv 0 σ H) (hl : ∀ i σ H, i ≤ xs.length → Pv i σ H → H a = some o)
    (hs : ∀ i x σ H T, xs[i]? = some x → Pv i σ H → H T = none → g (.ref T) σ (upd H T (.tup [.int (i : Nat), x])) fun σ2 H2 => tb { D with nx := Pv (i + 1), ct := Pv (i + 1), bk := D.nx } σ2 H2) (hd : ∀ σ H, Pv xs.length σ H → D.nx σ H) :
    ∃ b ys, [V.ref a] = [V.ref b] ∧ ((SqL K H b ys ∧ ForW (Ite K b) g tb D σ H) ∨ (SqT K H b ys ∧ ForW (IteT K b) g tb D σ H)) := by
  have fin : ∀ J : It, (∀ i H, i < xs.length → H a = some o → J.go i H) → (∀ i H, i = xs.length → H a = some o → J.stop i H) → (∀ i H v H', i < xs.length → H a = some o → J.yld i H v H' → ∃ T x, v = .ref T ∧ H T = none ∧ H' = upd H T (.tup [.int (i : Nat), x]) ∧ xs[i]? = some x) → ForW J g tb D σ H := by
    intro J go stop yld
    refine ⟨fun i m σ H => m = xs.length - i ∧ i ≤ xs.length ∧ Pv i σ H, ⟨_, rfl, Nat.zero_le _, h0⟩, ?_⟩
    rintro i m σ H ⟨rfl, le, p⟩
    have q := hl i σ H le p
    by_cases lt : i < xs.length
    · refine .inr ⟨go i H lt q, Pv (i + 1), fun σ' H' p' => ⟨xs.length - (i + 1), by omega, rfl, lt, p'⟩, fun v H' y => ?_⟩
      obtain ⟨T, x, rfl, nT, rfl, ex⟩ := yld i H v H' lt q y
      exact hs i x σ H T ex p nT
    · obtain rfl : i = xs.length := by omega
      exact .inl ⟨stop _ H rfl q, hd σ H p⟩
  have q0 := hl 0 σ H (Nat.zero_le _) h0
  rcases ko with rfl | rfl
  · exact ⟨a, xs, rfl, .inl ⟨SqL.of q0, fin _ (fun i H lt q => ⟨xs, xs[i], SqL.of q, by simp [lt]⟩) (fun i H e' q => ⟨xs, SqL.of q, by omega⟩)
      (fun i H v H' lt q ⟨T, x, e1, e2, e3, e4⟩ => ⟨T, x, e1, e2, e3, e4 xs (SqL.of q)⟩)⟩⟩
  · exact ⟨a, xs, rfl, .inr ⟨SqT.of q0, fin _ (fun i H lt q => ⟨xs, xs[i], SqT.of q, by simp [lt]⟩) (fun i H e' q => ⟨xs, SqT.of q, by omega⟩)
      (fun i H v H' lt q ⟨T, x, e1, e2, e3, e4⟩ => ⟨T, x, e1, e2, e3, e4 xs (SqT.of q)⟩)⟩⟩
theorem ok_first (F : Fun K "first_bad" "first_bad" sFirst f fd) (FL : Fun K "is_list" "is_list" sIsList fL fdL) (gIL : mg "is_list" = some (.ref fL)) (FO : Fun K "is_one_of" "is_one_of" sIsOne fO fdO) (gIO : mg "is_one_of" = some (.ref fO))
    (gI : mg "isinstance" = none) (gL : mg "list" = none) (gT : mg "tuple" = none) (gS : mg "str" = none) (gE : mg "enumerate" = none) : FnOk P w K mg base CX0 2 f fd ["names", "things"] (spFirst K) := by
  have GL : FnOk P w K mg base CX0 1 fL fdL ["thing"] (spIsList K) := ok_isList FL gI gL gT
  have bL := FL.binds (ps := ["thing"]) fun _ _ _ _ _ _ us hl => match us, hl with | [_], _ => rfl
  have GO : FnOk P w K mg base CX0 1 fO fdO ["names", "thing"] (spIsOne K) := ok_isOne FO gI gS
  have bO := FO.binds (ps := ["names", "thing"]) fun _ _ _ _ _ _ us hl => match us, hl with | [_, _], _ => rfl
  refine F.ok scFirst (fun vs H Q E h => by obtain ⟨c, a, ns, known, e, _⟩ := h; rw [e]; rfl) fun cdv A outer s H vs Q E hr hsp => ?_
  obtain ⟨c, a, ns, known, rfl, hc, hS, nd1, sub, short, hq⟩ := hsp
  have nd := scFirst.nd
  have hu := hu_of hr
  refine ⟨_, pss_cons (ps_if (pt_not (pt_val (pe_call GL hr rfl gIL FL.kp bL .nil pass0 (pa_cons (pv 1) pa_nil)))) (pss_one ps_never) pss_nil)
    (pss_cons (ps_set (i := 2) nd rfl (Or.inl rfl) pe_dnewK)
    (pss_cons (ps_for PassesOwn.never rfl (pi_enumS rfl gE (pa_cons (pv 1) pa_nil)) (pg_tup rfl (pgs_cons (pg_name (i := 3) nd rfl (Or.inl rfl)) (pgs_cons (pg_name (i := 4) nd rfl (Or.inl rfl)) pgs_nil)))
      (pss_cons (ps_if (PW.pt (pw_or (pt_not (pt_val (pe_call GO hr rfl gIO FO.kp bO .nil pass0 (pa_cons (pv 0) (pa_cons (pv 4) pa_nil))))) (pw_or1 (pt_cmp (pc_din hu (pv 4) (pv 2)))))) (pss_one ps_never) pss_nil)
      (pss_one (ps_dput hu (pv 2) (pv 4) pe_bl rfl))))
    (pss_one (ps_ret pe_non)))), ?_⟩
  refine ⟨_, rfl, a, _, rfl, hS, fun H1 k1 => ⟨_, rfl, iteF fun d nd2 => ?_⟩⟩
  have kd := same_new (o := .dK []) nd2
  obtain ⟨o, ho, ko⟩ : ∃ o, H1 a = some o ∧ (o = .lst (known.map V.str) ∨ o = .tup (known.map V.str)) := by
    rcases hS.same k1 with e | e
    · exact ⟨_, e, .inl rfl⟩
    · exact ⟨_, e, .inr rfl⟩
  refine ⟨_, rfl, enum_seq ko (fun i σ H' => H' d = some (.dK (seenD (known.take i))) ∧ Same H1 H' ∧ ∃ s3 s4, σ = [some (.ref c), some (.ref a), some (.ref d), s3, s4])
    ⟨upd_same, kd, _, _, rfl⟩ (fun i σ H' _ h => h.2.1 _ _ ho) ?_ ?_⟩
  · rintro i v σ H2 T ev ⟨od, s2, s3, s4, rfl⟩ nT
    rw [List.getElem?_map] at ev
    obtain ⟨x, ex, rfl⟩ := Option.map_eq_some_iff.mp ev
    have hi : i < known.length := (List.getElem?_eq_some_iff.mp ex).1
    have kT := same_new (o := .tup [.int (i : Nat), .str x]) nT
    refine ⟨T, _, rfl, SqT.of upd_same, rfl, ?_⟩
    have e1 : known.take (i + 1) = known.take i ++ [x] := by rw [List.take_succ, ex]; rfl
    have notin : x ∉ known.take i := fun m => by
      have z := nd1
      rw [← List.take_append_drop (i + 1) known, e1, List.append_assoc, List.nodup_append] at z
      exact z.2.2 x m x (by simp) rfl
    have xin : x ∈ ns := sub x (List.mem_of_getElem? ex)
    refine ⟨_, _, rfl, _, _, rfl, rfl, ?_⟩
    refine ⟨_, rfl, _, rfl, c, ns, x, rfl, SqL.of (kT _ _ (s2 _ _ (k1 _ _ hc))), _, rfl, ?_⟩
    rw [decide_eq_true xin]
    refine iteF ⟨_, rfl, _, rfl, d, _, rfl, DGet.k (k := Sum.inr x) (kT _ _ od), ?_⟩
    rw [seen_none notin]
    refine ⟨_, rfl, iteF ?_⟩
    have small : (seenD (known.take i)).length < sizeLine := by
      rw [sizeLine_eq]
      unfold seenD
      rw [List.length_map, List.length_take]; omega
    refine ⟨_, rfl, _, rfl, d, _, rfl, DPut.k (k := Sum.inr x) (kT _ _ od) small, ?_, ?_, _, _, rfl⟩
    · rw [upd_same, seen_put notin, ← e1]
    · intro b u e
      have nb : b ≠ d := ne_of_none e nd2
      rw [upd_ne nb]
      exact kT _ _ (s2 _ _ e)
  · rintro σ H2 ⟨od, s2, s3, s4, rfl⟩
    exact hq _ (k1.trans s2)
end
end L2.TB
namespace L2.TB
open PySem PySem.Spec PyProof.Rows
/-! the checks, where nothing is wrong -/
def spCkA (K : PySem.W.Frag) : Sp := fun vs H Q _ => ∃ (c : Addr) (ns : List Str) (x : Str), vs = [.ref c, .str x] ∧ SqL K H c (ns.map V.str) ∧ x ∈ ns ∧ Q .non H
def spCkB (K : PySem.W.Frag) : Sp := fun vs H Q _ => ∃ (c a : Addr) (ns known : List Str) (x : Str), vs = [.ref c, .ref a, .str x] ∧ H c = some (.lst (ns.map V.str)) ∧ SqA K H a (known.map V.str) ∧ known.Nodup ∧ (∀ x ∈ known, x ∈ ns) ∧ known.length < 1000 ∧ x ∈ ns ∧ ∀ H', Same H H' → Q .non H'
theorem scCkK : FnScope ["names", "known", "index"] ["names", "known"] (defScope sCkK) := ⟨rfl, rfl, rfl, by decide +kernel, rfl, by decide +kernel, by decide +kernel⟩
theorem scCkA : FnScope ["names", "asked"] ["names", "asked"] (defScope sCkA) := ⟨rfl, rfl, rfl, by decide +kernel, rfl, by decide +kernel, by decide +kernel⟩
theorem scCkB : FnScope ["names", "known", "asked"] ["names", "known", "asked"] (defScope sCkB) := ⟨rfl, rfl, rfl, by decide +kernel, rfl, by decide +kernel, by decide +kernel⟩
/-- what the checks need of the module -/
structure Chk (K : PySem.W.Frag) (mg : Str → Option Value) (aF aL aO aK aA aB : Addr) : Prop where
  F : ∃ fd, Fun K "first_bad" "first_bad" sFirst aF fd
  L : ∃ fd, Fun K "is_list" "is_list" sIsList aL fd
  O : ∃ fd, Fun K "is_one_of" "is_one_of" sIsOne aO fd
  CK : ∃ fd, Fun K "check_known" "check_known" sCkK aK fd
  CA : ∃ fd, Fun K "check_asked" "check_asked" sCkA aA fd
  CB : ∃ fd, Fun K "check_both" "check_both" sCkB aB fd
  gF : mg "first_bad" = some (.ref aF)
  gL : mg "is_list" = some (.ref aL)
  gO : mg "is_one_of" = some (.ref aO)
  gCK : mg "check_known" = some (.ref aK)
  gCA : mg "check_asked" = some (.ref aA)
  gCB : mg "check_both" = some (.ref aB)
  nI : mg "isinstance" = none
  nL : mg "list" = none
  nT : mg "tuple" = none
  nS : mg "str" = none
  nE : mg "enumerate" = none
section
variable {P : Program} {w : World} {K : PySem.W.Frag} {mg : Str → Option Value} {base : Heap} {aF aL aO aK aA aB : Addr} {fd : FuncData}
theorem ok_ckK (C : Chk K mg aF aL aO aK aA aB) (F : Fun K "check_known" "check_known" sCkK aK fd) : FnOk P w K mg base CX0 3 aK fd ["names", "known"] (spFirst K) := by
  obtain ⟨fdF, FF⟩ := C.F
  obtain ⟨fdL, FL⟩ := C.L
  obtain ⟨fdO, FO⟩ := C.O
  have G : FnOk P w K mg base CX0 2 aF fdF ["names", "things"] (spFirst K) := ok_first FF FL C.gL FO C.gO C.nI C.nL C.nT C.nS C.nE
  have b := FF.binds (ps := ["names", "things"]) fun _ _ _ _ _ _ us hl => match us, hl with | [_, _], _ => rfl
  refine F.ok scCkK (fun vs H Q E h => by obtain ⟨c, a, ns, known, e, _⟩ := h; rw [e]; rfl) fun cdv A outer s H vs Q E hr hsp => ?_
  obtain ⟨c, a, ns, known, rfl, hc, hS, nd1, sub, short, hq⟩ := hsp
  have nd := scCkK.nd
  refine ⟨_, pss_cons (ps_set (i := 2) nd rfl (Or.inl rfl) (pe_call G hr rfl C.gF FF.kp b .nil pass0 (pa_cons (pv 0) (pa_cons (pv 1) pa_nil))))
    (pss_one (ps_if (pt_cmp (pc_notN (pv 2))) (pss_one ps_never) pss_nil)), ?_⟩
  refine ⟨_, rfl, _, rfl, c, a, ns, known, rfl, hc, hS, nd1, sub, short, fun H1 k1 => ?_⟩
  exact ⟨_, rfl, _, rfl, iteF (hq H1 k1)⟩
theorem ok_ckA (C : Chk K mg aF aL aO aK aA aB) (F : Fun K "check_asked" "check_asked" sCkA aA fd) : FnOk P w K mg base CX0 2 aA fd ["names", "asked"] (spCkA K) := by
  obtain ⟨fdO, FO⟩ := C.O
  have G : FnOk P w K mg base CX0 1 aO fdO ["names", "thing"] (spIsOne K) := ok_isOne FO C.nI C.nS
  have b := FO.binds (ps := ["names", "thing"]) fun _ _ _ _ _ _ us hl => match us, hl with | [_, _], _ => rfl
  refine F.ok scCkA (fun vs H Q E h => by obtain ⟨c, ns, x, e, _⟩ := h; rw [e]; rfl) fun cdv A outer s H vs Q E hr hsp => ?_
  obtain ⟨c, ns, x, rfl, hc, xin, hq⟩ := hsp
  refine ⟨_, pss_one (ps_if (pt_not (pt_val (pe_call G hr rfl C.gO FO.kp b .nil pass0 (pa_cons (pv 0) (pa_cons (pv 1) pa_nil))))) (pss_one ps_never) pss_nil), ?_⟩
  refine ⟨_, rfl, _, rfl, c, ns, x, rfl, hc, _, rfl, ?_⟩
  rw [decide_eq_true xin]
  exact iteF hq
theorem ok_ckB (C : Chk K mg aF aL aO aK aA aB) (F : Fun K "check_both" "check_both" sCkB aB fd) : FnOk P w K mg base CX0 4 aB fd ["names", "known", "asked"] (spCkB K) := by
  obtain ⟨fdK, FK⟩ := C.CK
  obtain ⟨fdA, FA⟩ := C.CA
  have GK := ok_ckK (P := P) (w := w) (base := base) C FK
  have bK := FK.binds (ps := ["names", "known"]) fun _ _ _ _ _ _ us hl => match us, hl with | [_, _], _ => rfl
  have GA := ok_ckA (P := P) (w := w) (base := base) C FA
  have bA := FA.binds (ps := ["names", "asked"]) fun _ _ _ _ _ _ us hl => match us, hl with | [_, _], _ => rfl
  refine F.ok scCkB (fun vs H Q E h => by obtain ⟨c, a, ns, known, x, e, _⟩ := h; rw [e]; rfl) fun cdv A outer s H vs Q E hr hsp => ?_
  obtain ⟨c, a, ns, known, x, rfl, hc, hS, nd1, sub, short, xin, hq⟩ := hsp
  refine ⟨_, pss_cons (ps_expr (pe_call GK hr rfl C.gCK FK.kp bK .nil pass0 (pa_cons (pv 0) (pa_cons (pv 1) pa_nil))))
    (pss_one (ps_expr (pe_call GA (hr.mono (by decide)) rfl C.gCA FA.kp bA .nil pass0 (pa_cons (pv 0) (pa_cons (pv 2) pa_nil))))), ?_⟩
  refine ⟨_, rfl, _, rfl, c, a, ns, known, rfl, hc, hS, nd1, sub, short, fun H1 k1 => ?_⟩
  exact ⟨_, rfl, _, rfl, c, ns, x, rfl, SqL.of (k1 _ _ hc), xin, hq H1 k1⟩
end
end L2.TB
namespace L2.TB
open PySem PySem.Spec PyProof.Rows
/-! what is walked is a list or a tuple -/
def iSeq (K : PySem.W.Frag) (tl : TE) : TI := fun σ H R => tl σ H fun x H1 => ∃ a xs, x = .ref a ∧ ((SqL K H1 a xs ∧ R (Itl K a) H1) ∨ (SqT K H1 a xs ∧ R (Itt K a) H1))
theorem pi_seq {X : Cx} {tg l : Expr} {tl : TE} (hl : PE X l tl) : PI X tg l (iSeq X.K tl) := by
  refine PI.mk fun pins z σ H R I reading => thn (hl.run pins z σ H _ I reading) fun v z1 ⟨x, H1, I1, rel, a, xs, ex, both⟩ => ?_
  subst ex
  obtain rfl : v = Value.ref a := rel
  have one : ∀ (o : Obj), FpOk X pins H1 z1.heap.objs.size := fun _ => I1.fpOk (Nat.le_refl _) (I1.hok.fresh (Nat.le_refl _))
  have fresh : ∀ b ∈ [z1.heap.objs.size], FpOk X pins H1 b := fun b hb => by
    obtain rfl := List.mem_singleton.mp hb
    exact I1.fpOk (Nat.le_refl _) (I1.hok.fresh (Nat.le_refl _))
  rcases both with ⟨sq, q⟩ | ⟨sq, q⟩
  · obtain ⟨its, rv, isL, _⟩ := I1.list sq
    exact wpAny_pyIter_list isL.isList ⟨_, _, _, _, H1, rfl, I1.kept (t' := z1.toks) (fun b o e => Heap.get?_push_of_some _ e), turn_list a _, ⟨_, Heap.get?_push_size _ rfl, rfl, rfl⟩, fresh, q⟩
  · obtain ⟨its, rv, isT, _⟩ := I1.tuple sq
    exact wpAny_pyIter_tuple (show z1.heap.IsTuple a its.toArray from isT) ⟨_, _, _, _, H1, rfl, I1.kept (t' := z1.toks) (fun b o e => Heap.get?_push_of_some _ e), turn_tuple a _, ⟨_, Heap.get?_push_size _ rfl, rfl, rfl⟩, fresh, q⟩
/-- a for loop over it -/
theorem for_seq {K : PySem.W.Frag} {a : Addr} {xs : List V} {o : HO} {g : TG} {tb : TS} {D : Ends} {σ : St} {H : Hp} (ko : o = .lst xs ∨ o = .tup xs) (Pv : Nat → St → Hp → Prop) (h0 : Pv 0 σ H) (hl : ∀ i σ H, i ≤ xs.length → Pv i σ H → H a = some o)
    (hs : ∀ i x σ H, xs[i]? = some x → Pv i σ H → g x σ H fun σ2 H2 => tb { D with nx := Pv (i + 1), ct := Pv (i + 1), bk := D.nx } σ2 H2) (hd : ∀ σ H, Pv xs.length σ H → D.nx σ H) :
    ∃ b ys, V.ref a = V.ref b ∧ ((SqL K H b ys ∧ ForW (Itl K b) g tb D σ H) ∨ (SqT K H b ys ∧ ForW (Itt K b) g tb D σ H)) := by
  have q0 := hl 0 σ H (Nat.zero_le _) h0
  rcases ko with rfl | rfl
  · exact ⟨a, xs, rfl, .inl ⟨SqL.of q0, for_list Pv h0 (fun i σ H le p => SqL.of (hl i σ H le p)) hs hd⟩⟩
  · exact ⟨a, xs, rfl, .inr ⟨SqT.of q0, for_tup Pv h0 (fun i σ H le p => SqT.of (hl i σ H le p)) hs hd⟩⟩
/-- what a list comprehension asks of its turns -/
def LcW (J : It) (g : TG) (tt : TT) (te : TE) (vs : List Nat) (σ : St) (H1 : Hp) (Q : Addr → Hp → Prop) : Prop := ∀ D, H1 D = none → ∃ W : Nat → Nat → Hp → Prop, (∃ m, W 0 m (upd H1 D (.lst []))) ∧ ∀ i m H, W i m H →
  (J.stop i H ∧ Q D H) ∨ (J.go i H ∧ ∃ Nx : Hp → Prop, (∀ H', Nx H' → ∃ m', m' < m ∧ W (i + 1) m' H') ∧ ∀ x H', J.yld i H x H' → g x (wipe σ vs) H' fun σ2 H2 => wipe σ2 vs = wipe σ vs ∧ tt σ2 H2 fun b H3 =>
    if b = true then te σ2 H3 fun y H4 => ∃ acc, H4 D = some (.lst acc) ∧ acc.length < sizeLine ∧ Nx (upd H4 D (.lst (acc ++ [y]))) else Nx H3)
/-- a turn of a comprehension: keep tells whether x is kept, fv x is what is made of it; nothing that was there is changed -/
def LcTurn (g : TG) (tt : TT) (te : TE) (vs : List Nat) (σ : St) (xs : List V) (keep : V → Bool) (fv : V → V) (H1 : Hp) : Prop :=
  ∀ (i : Nat) (x : V) (H : Hp) (C : V → Hp → Prop) (N : Hp → Prop), xs[i]? = some x → Same H1 H → (keep x = true → ∀ H4, Same H H4 → C (fv x) H4) → (keep x = false → ∀ H4, Same H H4 → N H4) →
    g x (wipe σ vs) H fun σ2 H2 => wipe σ2 vs = wipe σ vs ∧ tt σ2 H2 fun b H3 => if b = true then te σ2 H3 C else N H3
theorem filter_snoc (keep : V → Bool) (fv : V → V) {xs : List V} {i : Nat} {x : V} (ex : xs[i]? = some x) :
    ((xs.take (i + 1)).filter keep).map fv = ((xs.take i).filter keep).map fv ++ (if keep x = true then [fv x] else []) := by
  have e1 : xs.take (i + 1) = xs.take i ++ [x] := by rw [List.take_succ, ex]; rfl
  rw [e1, List.filter_append, List.map_append]
  congr 1
  cases h : keep x <;> simp [h]
theorem lc_seq {K : PySem.W.Frag} {a : Addr} {xs : List V} {o : HO} {g : TG} {tt : TT} {te : TE} {vs : List Nat} {σ : St} {H1 : Hp} {Q : Addr → Hp → Prop} (ko : o = .lst xs ∨ o = .tup xs) (ho : H1 a = some o) (short : xs.length < 1000000) (keep : V → Bool) (fv : V → V)
    (turn : LcTurn g tt te vs σ xs keep fv H1) (fin : ∀ H D, H1 D = none → H D = some (.lst ((xs.filter keep).map fv)) → Same H1 H → Q D H) :
    ∃ b ys, V.ref a = V.ref b ∧ ((SqL K H1 b ys ∧ LcW (Itl K b) g tt te vs σ H1 Q) ∨ (SqT K H1 b ys ∧ LcW (Itt K b) g tt te vs σ H1 Q)) := by
  have go : ∀ D, H1 D = none → ∀ (i : Nat) (x : V) (H : Hp), xs[i]? = some x → (H D = some (.lst (((xs.take i).filter keep).map fv)) ∧ Same H1 H) → g x (wipe σ vs) H fun σ2 H2 => wipe σ2 vs = wipe σ vs ∧ tt σ2 H2 fun b H3 =>
      if b = true then te σ2 H3 fun y H4 => ∃ acc, H4 D = some (.lst acc) ∧ acc.length < sizeLine ∧ ((upd H4 D (.lst (acc ++ [y]))) D = some (.lst (((xs.take (i + 1)).filter keep).map fv)) ∧ Same H1 (upd H4 D (.lst (acc ++ [y])))) else (H3 D = some (.lst (((xs.take (i + 1)).filter keep).map fv)) ∧ Same H1 H3) := by
    rintro D nD i x H ex ⟨oD, s1⟩
    refine turn i x H _ _ ex s1 (fun k H4 s4 => ⟨_, s4 _ _ oD, ?_, ?_, ?_⟩) (fun k H4 s4 => ⟨?_, s1.trans s4⟩)
    · rw [sizeLine_eq, List.length_map]
      have := List.length_filter_le keep (xs.take i)
      rw [List.length_take] at this
      omega
    · rw [upd_same, filter_snoc keep fv ex, if_pos k]
    · intro b u e
      have nb : b ≠ D := ne_of_none e nD
      rw [upd_ne nb]
      exact s4 _ _ (s1 _ _ e)
    · rw [filter_snoc keep fv ex, k]
      simpa using s4 _ _ oD
  have all : xs.take xs.length = xs := List.take_length
  rcases ko with rfl | rfl
  · exact ⟨a, xs, rfl, .inl ⟨SqL.of ho, fun D nD => lc_list (xs := xs) (fun i H => H D = some (.lst (((xs.take i).filter keep).map fv)) ∧ Same H1 H) ⟨upd_same, same_new nD⟩ (fun i H _ p => SqL.of (p.2 _ _ ho)) (fun i x H ex p => go D nD i x H ex p)
      (fun H p => fin H D nD (by rw [all] at p; exact p.1) p.2)⟩⟩
  · exact ⟨a, xs, rfl, .inr ⟨SqT.of ho, fun D nD => lc_tup (xs := xs) (fun i H => H D = some (.lst (((xs.take i).filter keep).map fv)) ∧ Same H1 H) ⟨upd_same, same_new nD⟩ (fun i H _ p => SqT.of (p.2 _ _ ho)) (fun i x H ex p => go D nD i x H ex p)
      (fun H p => fin H D nD (by rw [all] at p; exact p.1) p.2)⟩⟩
end L2.TB
namespace L2.TB
open PySem PySem.Spec PyProof.Rows
theorem boot_all' : bootBuiltins "all" = some (.builtin "all") := by decide +kernel
/-- a comprehension without a test over anything: ys is what it makes -/
theorem lc_gen {J : It} {g : TG} {tt : TT} {te : TE} {vs : List Nat} {σ : St} {H1 : Hp} {Q : Addr → Hp → Prop} (ys : List V) (short : ys.length < 1000000) (go : ∀ i H, Same H1 H → i < ys.length → J.go i H) (stop : ∀ H, Same H1 H → J.stop ys.length H)
    (turn : ∀ (i : Nat) (x y : V) (H H' : Hp) (C : V → Hp → Prop) (N : Hp → Prop), ys[i]? = some y → Same H1 H → J.yld i H x H' → (∀ H4, Same H H4 → C y H4) → g x (wipe σ vs) H' fun σ2 H2 => wipe σ2 vs = wipe σ vs ∧ tt σ2 H2 fun b H3 => if b = true then te σ2 H3 C else N H3)
    (fin : ∀ H D, H1 D = none → H D = some (.lst ys) → Same H1 H → Q D H) : LcW J g tt te vs σ H1 Q := by
  intro D nD
  refine ⟨fun i m H => m = ys.length - i ∧ i ≤ ys.length ∧ H D = some (.lst (ys.take i)) ∧ Same H1 H, ⟨_, rfl, Nat.zero_le _, upd_same, same_new nD⟩, ?_⟩
  rintro i m H ⟨rfl, le, oD, s1⟩
  by_cases lt : i < ys.length
  · refine .inr ⟨go i H s1 lt, fun H' => H' D = some (.lst (ys.take (i + 1))) ∧ Same H1 H', fun H' h => ⟨ys.length - (i + 1), by omega, rfl, lt, h⟩, fun x H' yl => ?_⟩
    have ey : ys[i]? = some ys[i] := List.getElem?_eq_getElem lt
    refine turn i x ys[i] H H' _ _ ey s1 yl fun H4 s4 => ⟨_, s4 _ _ oD, ?_, ?_, ?_⟩
    · rw [sizeLine_eq, List.length_take]; omega
    · rw [upd_same, List.take_succ, ey]; rfl
    · intro b u e
      rw [upd_ne (ne_of_none e nD)]
      exact s4 _ _ (s1 _ _ e)
  · obtain rfl : i = ys.length := by omega
    rw [List.take_length] at oD
    exact .inl ⟨stop H s1, fin H D nD oD s1⟩
def bools (n : Nat) : List V := List.replicate n (V.bl true)
theorem bools_map (n : Nat) : bools n = (List.replicate n true).map V.bl := by unfold bools; rw [List.map_replicate]
theorem bools_at {n i : Nat} {y : V} (h : (bools n)[i]? = some y) : y = .bl true ∧ i < n := by
  unfold bools at h
  rw [List.getElem?_replicate] at h
  split at h
  · exact ⟨(Option.some.inj h).symm, by assumption⟩
  · cases h
theorem bools_len (n : Nat) : (bools n).length = n := List.length_replicate
theorem all_true (n : Nat) : (List.replicate n true).all id = true := by simp
def spIsName : Sp := fun vs H Q _ => ∃ x : Str, vs = [.str x] ∧ NmOk x ∧ ∀ H', Same H H' → Q (.bl true) H'
abbrev NIn : List Str := ["thing", "sign"]
theorem scIsName : FnScope NIn ["thing"] (defScope sIsName) := ⟨rfl, rfl, rfl, by decide +kernel, rfl, by decide +kernel, by decide +kernel⟩
/-- a dict has just these names, all true -/
def spHasJust : Sp := fun vs H Q _ => ∃ (d c : Addr) (kvs : List (Key × V)) (ns : List Str), vs = [.ref d, .ref c] ∧ H d = some (.dK kvs) ∧ H c = some (.lst (ns.map V.str)) ∧ kvs.map (·.1) = ns.map Sum.inr ∧ ns.length < 1000 ∧ ∀ H', Same H H' → Q (.bl true) H'
abbrev NHj : List Str := ["thing", "names", "name"]
theorem scHasJust : FnScope NHj ["thing", "names"] (defScope sHasJust) := ⟨rfl, rfl, rfl, by decide +kernel, rfl, by decide +kernel, by decide +kernel⟩
section
variable {P : Program} {w : World} {K : PySem.W.Frag} {mg : Str → Option Value} {base : Heap} {f : Addr} {fd : FuncData}
theorem ok_isName (F : Fun K "is_name" "is_name" sIsName f fd) (gI : mg "isinstance" = none) (gS : mg "str" = none) (gN : mg "len" = none) (gA : mg "all" = none) (gL : ∃ t, mg "LONGEST" = some (.int 40 t)) (gSg : ∃ t, mg "SIGNS" = some (.str (Str.ofString "abcdefghijklmnopqrstuvwxyz0123456789.") t)) :
    FnOk P w K mg base CX0 1 f fd ["thing"] spIsName := by
  obtain ⟨tL, gL⟩ := gL
  obtain ⟨tS, gSg⟩ := gSg
  refine F.ok scIsName (fun vs H Q E h => by obtain ⟨x, e, _⟩ := h; rw [e]; rfl) fun cdv A outer s H vs Q E hr hsp => ?_
  obtain ⟨x, rfl, ok, hq⟩ := hsp
  obtain ⟨l1, l2, chars⟩ := ok
  have nd := scIsName.nd
  refine ⟨_, pss_cons (ps_if (PW.pt (pw_or (pt_not (pt_val (pe_callB (r := rIsi K) call_isi rfl gI boot_isi (pa_cons (pv 0) (pa_cons (pe_bltn (v := .ty "str") rfl gS boot_str' rfl) pa_nil)))))
      (pw_or1 (pt_not (pt_chain op_le op_le pe_int (pe_callB call_len_str rfl gN boot_len (pa_cons (pv 0) pa_nil)) (pe_glob (v := .int 40) rfl gL ⟨_, rfl⟩)))))) (pss_one ps_never) pss_nil)
    (pss_one (ps_ret (pe_callB (cr_all rfl) rfl gA boot_all' (pa_cons (pe_lc (own := [("sign", 1)]) (tt := tYes) rfl nd (pi_str (pv 0)) (blkOk_by (N := NIn) (sc := defScope sIsName) (by decide +kernel)) (fun _ _ _ _ _ => pg_name (i := 1) nd rfl (Or.inl rfl)) (fun _ _ _ _ _ => pts_nil)
      (fun _ _ _ _ _ => pe_cmpR op_in_sign (pv 1) (pe_glob (v := .str (Str.ofString "abcdefghijklmnopqrstuvwxyz0123456789.")) rfl gSg ⟨_, rfl⟩) rfl)) pa_nil)))), ?_⟩
  have lz : x.length = x.cps.toList.length := (Array.length_toList (xs := x.cps)).symm
  refine ⟨_, rfl, _, _, _, _, true, rfl, .ty _, .base (.str x), kit_ty (by decide +kernel), _, rfl, iteF ?_⟩
  refine ⟨_, rfl, x, rfl, (by rw [sizeLine_eq]; omega), _, _, rfl, rfl, _, rfl, ?_⟩
  rw [decide_eq_true (by omega : (1 : Int) ≤ (x.length : Nat))]
  refine iteT ⟨_, _, rfl, rfl, _, rfl, ?_⟩
  rw [decide_eq_true (by omega : ((x.length : Nat) : Int) ≤ 40)]
  refine iteF ?_
  refine ⟨_, rfl, x, rfl, lc_gen (bools x.cps.toList.length) (by rw [bools_len]; omega) (fun i H' _ lt => ?_) (fun H' _ => ?_) ?_ ?_⟩
  · rw [bools_len, Array.length_toList] at lt; exact lt
  · rw [bools_len, Array.length_toList]; exact Nat.le_refl _
  · rintro i v y H2 H3 Cn Nn ey s2 ⟨rfl, c, ec, rfl⟩ yes
    obtain ⟨rfl, lt⟩ := bools_at ey
    have cin : c ∈ signsL := chars c (List.mem_of_getElem? (by rw [Array.getElem?_toList]; exact ec))
    refine ⟨rfl, ?_⟩
    refine ⟨_, rfl, c, _, rfl, rfl, ?_⟩
    have z := yes H3 (Same.refl _)
    have e : decide (c ∈ (Str.ofString "abcdefghijklmnopqrstuvwxyz0123456789.").cps.toList) = true := decide_eq_true cin
    rw [e]
    exact z
  · intro H2 D nD oD s2
    rw [bools_map] at oD
    refine ⟨D, _, rfl, SqL.of oD, ?_⟩
    rw [all_true]
    exact hq H2 s2
end
end L2.TB
/-! a def that is handed the error that is handled -/
namespace L2.TB
open PySem PySem.Spec PyProof.Rows
/-- what such a def promises: sp is told of the error's place, its class, its dict -/
structure FnE (P : Program) (w : World) (K : PySem.W.Frag) (mg : Str → Option Value) (base : Heap) (k : Nat) (f : Addr) (fd : FuncData) (ps : List Str) (sp : Addr → Addr → Addr → Sp) : Prop where
  len : ∀ a C dd vs H Q E, sp a C dd vs H Q E → vs.length = ps.length
  run : ∀ (B : Around) (out : List Env) (z : Shared) (H : Hp) (args : Args) (us : List Value) (vs : List V) (Q : VK) (E : XK) (p : Addr × Obj) (C dd : Addr), L2H.RoomH k B → Zc (.ref C) (some dd) p.2 → (∃ q, p.2.data = .fields q) → L2H.PinOk out H z p → Env0 P w K mg base B out z H → BindsTo z fd args (ps.zip us) → Vals vs us → sp p.1 C dd vs H Q E →
    codeAny (model P w) B (.call (.ref f) args) (CR CX0 out P w H z Q E) z
theorem fn_ofE {P : Program} {w : World} {K : PySem.W.Frag} {mg : Str → Option Value} {base : Heap} {k : Nat} {f : Addr} {name qual : Str} {params : Arguments} {body : List Stmt} {scope : Scope} {dV kV doc pm cdv ct oc : Value} {an od : Option Addr}
    {osl : Array (Option Value)} {N ps : List Str} {sp : Addr → Addr → Addr → Sp} (lk : K.lookup f = some ⟨oc, od, .func (PySem.W.fnOf name qual params body scope dV kV doc pm an cdv ct), osl⟩) (hcd : PySem.W.codeIn K cdv qual = true) (S : FnScope N ps scope)
    (len : ∀ a C dd vs H Q E, sp a C dd vs H Q E → vs.length = ps.length)
    (go : ∀ (B : Around) (out : List Env) (z : Shared) (H : Hp) (vs : List V) (Q : VK) (E : XK) (p : Addr × Obj) (C dd : Addr), Zc (.ref C) (some dd) p.2 → (∃ q, p.2.data = .fields q) → sp p.1 C dd vs H Q E →
      ∃ t, PSs (L2H.cxH CX0 P w K mg base N qual scope f cdv B out z H E p) body t ∧ t { nx := fun _ H' => Q .non H', rt := Q } (L2.start N vs) H) :
    FnE P w K mg base (k + 1) f (PySem.W.fnOf name qual params body scope dV kV doc pm an cdv ct) ps sp := by
  refine ⟨len, fun B out z H args us vs Q E p C dd hr hz hd pin e0 bnd rel h => ?_⟩
  have lv := len _ _ _ _ _ _ _ h
  have inK : K.In z.heap := e0.mod.kin.keeps fun b o e => (e0.bs b o e).1
  have noL : z.heap.NoLimit := e0.mod.nolimit.keeps fun b o e => (e0.bs b o e).1
  have kinds : ∀ y ∈ ps.zip us, scope.names.lookup y.1 = some .local ∨ (scope.names.lookup y.1 = some .cell ∧ ((cellsFrom (z.heap.objs.size + 1) scope.names []).lookup y.1).isSome = true) := fun ⟨n, v⟩ hy =>
    (S.par n (List.of_mem_zip hy).1).imp id fun c => ⟨c, PySem.W.cellsFrom_some _ _ _ (.inl c)⟩
  refine codeAny_call_function hr.depth (inK _ _ lk) rfl S.co S.gen rfl (PySem.W.codeRec_of inK hcd) (bnd _ _ _ _ (wpAny_newFunctionEnv_cells S.kind kinds fun env he z1 x => ?_))
  subst he
  refine ⟨noL.keeps x.toInCall.keep, codeAny_func ?_⟩
  obtain ⟨t, ht, hq⟩ := go B out z H vs Q E p C dd hz hd h
  have I := L2H.inv_startH (CX := CX0) (A := B) (E := E) (f := f) (cd := cdv) (qual := qual) (mg := mg) S pin e0 lv rel x
  refine wpAny_mono (ht.run [] z1 (L2.start N vs) H _ I hq) (fun fl z2 done => ?_) fun e z2 q => q
  cases fl with
  | ret u => obtain ⟨v, σ2, H2, J, rv, q⟩ := done; exact ⟨v, H2, J.os, J.bare, J.base, J.hok, rv, q⟩
  | next => obtain ⟨σ2, H2, J, q⟩ := done; exact ⟨V.non, H2, J.os, J.bare, J.base, J.hok, (rfl : RelV V.non Value.none), q⟩
  | brk => obtain ⟨_, _, _, q⟩ := done; exact q.elim
  | cont => obtain ⟨_, _, _, q⟩ := done; exact q.elim
/-- the reading of f(e), e the error of this suite -/
def tCallE (sp : Addr → Addr → Addr → Sp) (a : Addr) (cls : Value) (d : Option Addr) (ta : TA) : TE := fun σ H Q => ta σ H fun vs H1 => ∃ C dd, cls = .ref C ∧ d = some dd ∧ sp a C dd vs H1 Q E0
section
variable {X : Cx} {k : Nat} {f a : Addr} {fd : FuncData} {ps : List Str} {sp : Addr → Addr → Addr → Sp} {x : Str} {q pos : Pos} {e : Expr} {ta : TA} {oe : Obj} {cls : Value} {d : Option Addr} {pn : List (Addr × Obj)}
theorem pe_callE (F : FnE X.prog X.w X.K X.mg X.base k f fd ps sp) (hr : L2H.RoomH k X.A) (hg : Gl X x) (hm : X.mg x = some (.ref f)) (hk : PySem.W.keepIn X.K (.ref f) = true) (hb : Binds X.K fd ps []) (hz : Zc cls d oe) (hf : ∃ vs, oe.data = .fields vs)
    (ha : PA (X.suite a ((a, oe) :: pn)) [e] ta) (hdb : (x == ("__debug__" : Str)) = false := by decide) (hs : starEach [e] X.env = (false, eval e X.env) :: starEach [] X.env := by rfl) :
    PE (X.suite a ((a, oe) :: pn)) (.Call (.Name x q) [e] [] pos) (tCallE sp a cls d ta) := by
  refine ⟨fun pins z σ H Q I h => wpAny_Call_Name_kw (ld_glob (X := X.suite a ((a, oe) :: pn)) I hg hm ?_ hdb)⟩
  refine PySem.W.callWith_K (h₀ := X.base) I.ok.mod.kin hk (thn (ha.run pos pins z σ H _ I h) fun us z1 ⟨vs, H1, I1, r, C, dd, ec, ed, q1⟩ => ⟨I1.kIn, ?_⟩) hs rfl
  subst ec ed
  have lv : us.length = ps.length := by rw [← r.length]; exact F.len _ _ _ _ _ _ _ q1
  have b := hb z1 us I1.kIn (by rw [List.append_nil]; exact lv)
  rw [List.append_nil] at b
  have P1 := I1.pin (a, oe) (List.mem_append_left _ List.mem_cons_self)
  have pin : L2H.PinOk X.stack H1 z1 (a, oe) := ⟨P1.1, P1.2.1, fun hm => (List.mem_cons.mp (I1.stkSub a hm)).elim P1.2.2.1 P1.2.2.2.1, P1.2.2.2.2⟩
  refine wpAny_call (codeAny_mono (F.run (X.suite a ((a, oe) :: pn)).A X.stack z1 H1 ⟨us, []⟩ us vs Q E0 (a, oe) C dd ⟨hr.dp, hr.un⟩ hz hf pin I1.env0 b r q1) fun rr z2 hq => ?_)
  cases rr with
  | error er => exact hq.elim
  | ok fl =>
    cases fl with
    | ret u => exact I1.after hq
    | next => exact hq.elim
    | brk => exact hq.elim
    | cont => exact hq.elim
end
/-! in the body of such a def -/
/-- the error at a, of the class at C, its dict at dd, is pinned -/
structure Held (X : Cx) (a C dd : Addr) : Prop where
  ex : ∃ oe : Obj, (a, oe) ∈ X.pn ∧ Zc (.ref C) (some dd) oe ∧ ∃ vs, oe.data = .fields vs
theorem Held.of {P : Program} {w : World} {K : PySem.W.Frag} {mg : Str → Option Value} {base : Heap} {N : List Str} {qual : Str} {scope : Scope} {f : Addr} {cd : Value} {B : Around} {out : List Env} {z : Shared} {H : Hp} {E : XK} {p : Addr × Obj} {C dd : Addr} (hz : Zc (.ref C) (some dd) p.2) (hd : ∃ q, p.2.data = .fields q) :
    Held (L2H.cxH CX0 P w K mg base N qual scope f cd B out z H E p) p.1 C dd := ⟨p.2, List.mem_singleton.mpr rfl, hz, hd⟩
theorem held_inst {X : Cx} {a C dd : Addr} (h : Held X a C dd) {pins : List (Addr × Obj)} {σ : L2.St} {H : Hp} {s : Shared} (I : Inv X pins σ H s) {fs : List (Str × V)} (hx : H dd = some (.xd fs)) :
    ∃ oe od, PySem.W.InstAt s.heap a oe C (some od) ∧ ∀ n v, fs.lookup n = some v → ∃ u, PySem.W.lookIn n od = some (some u) ∧ RelV v u := by
  obtain ⟨oe, pin, hz, q, hd⟩ := h.ex
  have there := (I.pin (a, oe) (List.mem_append_left _ pin)).1
  obtain ⟨mA, ns, rel⟩ : ObjOk X.prog X.w H s.heap dd (.xd fs) := I.hok dd _ hx
  obtain ⟨od, ho, hl⟩ := lookIn_ns ns
  refine ⟨oe, od, ⟨there, hz.1, by unfold PySem.W.notCls; rw [hd] <;> rfl, by rw [hz.2]; exact ho⟩, fun n v e => ?_⟩
  obtain ⟨u, hu, ru⟩ := RelO.some_of (v := v) (o := mA n) (by rw [← e]; exact rel n)
  exact ⟨u, by rw [hl, hu], ru⟩
/-- e.n -/
def tHeldF (K : PySem.W.Frag) (a C dd : Addr) (n : Str) (te : TE) : TE := fun σ H Q => te σ H fun x H1 => x = .ref a ∧ XfC K C ∧ PySem.W.findIn K (.ref C) n = some none ∧ ∃ (fs : List (Str × V)) (v : V), H1 dd = some (.xd fs) ∧ fs.lookup n = some v ∧ Q v H1
theorem pe_heldF {X : Cx} {a C dd : Addr} {e : Expr} {te : TE} {pos : Pos} {n : Str} (h : Held X a C dd) (he : PE X e te) (hb : attributeBase e n X.env (eval e X.env) = eval e X.env := by rfl) : PE X (.Attribute e n pos) (tHeldF X.K a C dd n te) := by
  refine ⟨fun pins s σ H Q I r => attr_of hb (thn (he.run pins s σ H _ I r) fun u s1 ⟨x, H1, I1, rx, ex, T, no, fs, v, ea, l, q⟩ => ?_)⟩
  subst ex; obtain rfl : u = Value.ref a := rx
  obtain ⟨oe, od, J, lk⟩ := held_inst h I1 ea
  obtain ⟨u, hu, ru⟩ := lk n v l
  exact HandSPX.exc_get I1.kIn J T.ga T.gg T.exC (PySem.W.findObj_own T.hdC no rfl hu) (handed_of ru) ⟨v, H1, I1.tok _, ru, q⟩
/-- what isinstance asks of a class of errors -/
structure ExcI (K : PySem.W.Frag) (C : Addr) : Prop where
  xf : XfC K C
  cs : (PySem.W.clsIn K C).isSome = true
  (ca : PySem.W.findIn K (.ref C) "__class__" = some (some (.builtin "object.__class__"))) (cn : PySem.W.specialIn K (.builtin "object.__class__") "__get__" = some (some (.builtin "getset_descriptor.__get__")))
  (ct : PySem.W.takesIn K (.builtin "object.__class__") = some true) (cm : PySem.W.mroIn K C (.type "object") = some true)
/-- isinstance(e, D) -/
def rHeldI (K : PySem.W.Frag) (a C dd : Addr) : List V → Hp → VK → Prop := fun xs H Q => ∃ (c : V) (u : Value) (b : Bool) (fs : List (Str × V)), xs = [.ref a, c] ∧ ClsV c u ∧ H dd = some (.xd fs) ∧ ExcI K C ∧ PySem.W.kitOne K (.ref C) u = some b ∧ Q (.bl b) H
theorem call_heldI {X : Cx} {a C dd : Addr} (h : Held X a C dd) : CallR X (.builtin "isinstance") (rHeldI X.K a C dd) := by
  intro pins s σ H xs us Q I rs ⟨c, u, b, fs, ex, kc, ea, T, e, q⟩
  subst ex
  obtain ⟨u1, u2, rfl, r1, r2⟩ := vals2 rs
  obtain rfl := kc.eq r2
  obtain rfl : u1 = Value.ref a := r1
  obtain ⟨oe, od, J, _⟩ := held_inst h I ea
  exact PySem.W.kia_one (PySem.W.kitx_exc T.cs T.xf.ga T.xf.gg T.xf.exC T.ca T.cn T.ct T.cm) I.kIn J e (fun z => nomatch z) fun tk => ⟨.bl b, H, I.tok tk, rfl, q⟩
end L2.TB
/-! _law_error -/
namespace L2.TB
open PySem PySem.Spec PyProof.Rows
/-- the classes that are raised: the name, the word for it, its field -/
structure Rz where
  x : Str
  tag : Str
  fld : Str
/-- an expression that is not reached -/
theorem pe_nvr {X : Cx} {e : Expr} : PE X e (fun _ _ _ => False) := ⟨fun _ _ _ _ _ _ h => h.elim⟩
def rzT : List Rz := [⟨"BadPlan", "plan", "thing"⟩, ⟨"BadAnswers", "answers", "thing"⟩]
def chnT : List Str := ["BadKnown", "NoQuestion", "BadArc", "BadNames", "BadAmounts", "BadWorld", "BadPlan", "BadAnswers"]
structure ElOk (K : PySem.W.Frag) (mg : Str → Option Value) (ca : Str → Addr) (WE : Addr) : Prop where
  g : ∀ x ∈ chnT, mg x = some (.ref (ca x))
  w : mg "WorldError" = some (.ref WE)
  k : ∀ r ∈ rzT, ∀ y ∈ chnT, PySem.W.kitOne K (.ref (ca r.x)) (.ref (ca y)) = some (decide (r.x = y))
  i : ∀ r ∈ rzT, ExcI K (ca r.x)
  no : ∀ r ∈ rzT, PySem.W.findIn K (.ref (ca r.x)) r.fld = some none
  ex : ∀ r ∈ rzT, PySem.W.exmOne K (.ref (ca r.x)) (.ref WE) = some true
def spErrL (ca : Str → Addr) : Addr → Addr → Addr → Sp := fun a C dd vs H Q _ => ∃ (r : Rz) (fs : List (Str × V)) (v : V), vs = [.ref a] ∧ r ∈ rzT ∧ C = ca r.x ∧ H dd = some (.xd fs) ∧ fs.lookup r.fld = some v ∧ ∀ t, H t = none → Q (.ref t) (upd H t (.tup [.str r.tag, v]))
abbrev NEl : List Str := ["e"]
section
variable {P : Program} {w : World} {K : PySem.W.Frag} {mg : Str → Option Value} {base : Heap} {f : Addr} {fd : FuncData} {ca : Str → Addr} {WE : Addr}
end
end L2.TB
/-! _law_tried, of what is refused -/
namespace L2.TB
open PySem PySem.Spec PyProof.Rows
abbrev NTd : List Str := ["ask", "e"]
/-- what _law_tried makes of what was raised -/
def EchE (ca : Str → Addr) (Q : VK) : XK := fun cls d H => ∃ (r : Rz) (dd : Addr) (fs : List (Str × V)) (v : V), r ∈ rzT ∧ cls = .ref (ca r.x) ∧ d = some dd ∧ H dd = some (.xd fs) ∧ fs.lookup r.fld = some v ∧ ∀ t, H t = none → Q (.ref t) (upd H t (.tup [.str r.tag, v]))
/-- nothing else is raised, and nothing is told -/
def TTe (ca : Str → Addr) : (XK → Hp → VK → Prop) → Hp → VK → Prop := fun tl H Q => ∀ (E : XK) (R : VK), (∀ cls d H', EchE ca Q cls d H' → E cls d H') → tl E H R
abbrev clE (ca : Str → Addr) (WE : Addr) : TA.Cl := (.ref WE, some 1, fun a cls d => fun D σ H => tCallE (spErrL ca) a cls d (tCons (tVar 1) tNil) σ H D.rt)
section
variable {X : Cx} {g fe : Addr} {cdg : Value} {fde : FuncData} {q : Str} {ca : Str → Addr} {WE : Addr}
end
end L2.TB
/-! data with a Lean type, dicts among it; == and != of it -/
namespace L2.TB
open PySem PySem.Spec PyProof.Rows
open PySem.W (EqTree)
theorem tree_mono {prog : Program} {w : World} {s : Shared} {n : Nat} {v y : Value} {b : Bool} (t : EqTree prog w s n v y b) : ∀ {m : Nat}, n ≤ m → EqTree prog w s m v y b := by
  induction t with
  | leaf h1 => exact fun h => .leaf fun A hu => h1 A (by omega)
  | same => exact fun h => .same
  | lists hne hl hl' hsz _ ih =>
    intro m h
    obtain ⟨k, rfl⟩ : ∃ k, m = k + 1 := ⟨m - 1, by omega⟩
    exact .lists hne hl hl' hsz fun j h1 h2 => ih j h1 h2 (by omega)
  | listsLen hne hl hl' hsz =>
    intro m h
    obtain ⟨k, rfl⟩ : ∃ k, m = k + 1 := ⟨m - 1, by omega⟩
    exact .listsLen hne hl hl' hsz
  | tuples hne hl hl' _ ih =>
    intro m h
    obtain ⟨k, rfl⟩ : ∃ k, m = k + 1 := ⟨m - 1, by omega⟩
    exact .tuples hne hl hl' fun j h1 h2 => ih j h1 h2 (by omega)
  | dicts hne ha hb da db _ ih =>
    intro m h
    obtain ⟨k, rfl⟩ : ∃ k, m = k + 1 := ⟨m - 1, by omega⟩
    exact .dicts hne ha hb da db fun k v y hm hv => ih k v y hm hv (by omega)
class PyD (α : Type) where
  at_ : (Addr → Prop) → Hp → V → α → Prop
  eqv : α → α → Bool
  depth : Nat
  same : ∀ (A B : Addr → Prop) (H : Hp) (v : V) (p q : α), at_ A H v p → at_ B H v q → eqv p q = true
  tree : ∀ {X : Cx} {pins : List (Addr × Obj)} {σ : L2.St} {H : Hp} {s : Shared} {A B : Addr → Prop}, Inv X pins σ H s → ∀ (x y : V) (v u : Value) (p q : α), at_ A H x p → at_ B H y q → RelV x v → RelV y u → EqTree X.prog X.w s depth v u (eqv p q)
  kp : ∀ {A A' : Addr → Prop} {H H' : Hp} {v : V} {p : α}, at_ A H v p → (∀ b o, A b → H b = some o → A' b ∧ H' b = some o) → at_ A' H' v p
instance : PyD Str where
  at_ _ _ v x := v = .str x
  eqv a b := decide (a = b)
  depth := 0
  same _ _ _ v p q h1 h2 := by
    subst h1
    exact decide_eq_true (V.str.inj h2)
  tree {X pins σ H s A0 B0} I x y v u p q h1 h2 rx ry := by
    subst h1 h2
    obtain ⟨t, rfl⟩ := rx
    obtain ⟨t', rfl⟩ := ry
    refine .leaf fun A hu => ?_
    have z := SeqAt.eqAt_plain (.str p) (.str q) A s (.str p t) (.str q t') _ _ (Reads.str (h := s.heap) p t) (Reads.str (h := s.heap) q t') rfl rfl (by
      have := Nat.min_le_left (PyData.str p).depth (PyData.str q).depth
      have e : (PyData.str p).depth = 0 := rfl
      omega)
    have e : PyData.eqv (.str p) (.str q) = decide (p = q) := PySem.W.Datum.eqv p q
    rw [e] at z
    exact z
  kp h _ := h
instance : PyD Int where
  at_ _ _ v x := v = .int x
  eqv a b := decide (a = b)
  depth := 0
  same _ _ _ v p q h1 h2 := by
    subst h1
    exact decide_eq_true (V.int.inj h2)
  tree {X pins σ H s A0 B0} I x y v u p q h1 h2 rx ry := by
    subst h1 h2
    obtain ⟨t, rfl⟩ := rx
    obtain ⟨t', rfl⟩ := ry
    refine .leaf fun A hu => ?_
    have z := SeqAt.eqAt_plain (.int p) (.int q) A s (.int p t) (.int q t') _ _ (Reads.int (h := s.heap) p t) (Reads.int (h := s.heap) q t') rfl rfl (by
      have := Nat.min_le_left (PyData.int p).depth (PyData.int q).depth
      have e : (PyData.int p).depth = 0 := rfl
      omega)
    have e : PyData.eqv (.int p) (.int q) = decide (p = q) := PySem.W.Datum.eqv p q
    rw [e] at z
    exact z
  kp h _ := h
theorem vals_two {x1 x2 : V} : ∀ {us : List Value}, Vals [x1, x2] us → ∃ u1 u2, us = [u1, u2] ∧ RelV x1 u1 ∧ RelV x2 u2
  | _, .cons h1 (.cons h2 .nil) => ⟨_, _, rfl, h1, h2⟩
instance {α β : Type} [PyD α] [PyD β] : PyD (α × β) where
  at_ A H v p := ∃ a x y, v = .ref a ∧ A a ∧ H a = some (.tup [x, y]) ∧ PyD.at_ A H x p.1 ∧ PyD.at_ A H y p.2
  eqv p q := PyD.eqv p.1 q.1 && PyD.eqv p.2 q.2
  depth := max (PyD.depth α) (PyD.depth β) + 1
  same A B H v p q h1 h2 := by
    obtain ⟨a, x, y, rfl, _, o, a1, a2⟩ := h1
    obtain ⟨b, x', y', e, _, o', b1, b2⟩ := h2
    obtain rfl := V.ref.inj e
    rw [o] at o'
    have e2 := HO.tup.inj (Option.some.inj o')
    obtain rfl := (List.cons.inj e2).1
    obtain rfl := (List.cons.inj (List.cons.inj e2).2).1
    rw [PyD.same A B H x _ _ a1 b1, PyD.same A B H y _ _ a2 b2]
    rfl
  tree {X pins σ H s A0 B0} I x y v u p q h1 h2 rx ry := by
    obtain ⟨a, x1, x2, rfl, _, o, a1, a2⟩ := h1
    obtain ⟨b, y1, y2, rfl, _, o', b1, b2⟩ := h2
    cases (show v = Value.ref a from rx)
    cases (show u = Value.ref b from ry)
    by_cases e : a = b
    · subst e
      rw [o] at o'
      have e2 := HO.tup.inj (Option.some.inj o')
      obtain rfl := (List.cons.inj e2).1
      obtain rfl := (List.cons.inj (List.cons.inj e2).2).1
      rw [PyD.same A0 B0 H x1 _ _ a1 b1, PyD.same A0 B0 H x2 _ _ a2 b2]
      exact .same
    · obtain ⟨us, r1, p1, _⟩ := I.tuple (SqT.of (K := X.K) o)
      obtain ⟨ws, r2, p2, _⟩ := I.tuple (SqT.of (K := X.K) o')
      obtain ⟨u1, u2, rfl, ru1, ru2⟩ := vals_two r1
      obtain ⟨w1, w2, rfl, rw1, rw2⟩ := vals_two r2
      have t1 := tree_mono (PyD.tree I _ _ _ _ _ _ a1 b1 ru1 rw1) (Nat.le_max_left (PyD.depth α) (PyD.depth β))
      have t2 := tree_mono (PyD.tree I _ _ _ _ _ _ a2 b2 ru2 rw2) (Nat.le_max_right (PyD.depth α) (PyD.depth β))
      have z := EqTree.tuples (e := fun j => match j with | 0 => PyD.eqv p.1 q.1 | _ => PyD.eqv p.2 q.2) e p1 p2 (fun j h1 h2 => by
        match j, h1, h2 with
        | 0, _, _ => exact t1
        | 1, _, _ => exact t2
        | j + 2, h1, _ => exact absurd h1 (by simp))
      have e3 : ((List.range (min [u1, u2].toArray.size [w1, w2].toArray.size)).all (fun j => match j with | 0 => PyD.eqv p.1 q.1 | _ => PyD.eqv p.2 q.2) && [u1, u2].toArray.size == [w1, w2].toArray.size) = (PyD.eqv p.1 q.1 && PyD.eqv p.2 q.2) := by
        have : min [u1, u2].toArray.size [w1, w2].toArray.size = 2 := rfl
        rw [this]
        simp [List.range, List.range.loop]
      rw [e3] at z
      exact z
  kp h k := by
    obtain ⟨a, x, y, e, ha, o, a1, a2⟩ := h
    exact ⟨a, x, y, e, (k _ _ ha o).1, (k _ _ ha o).2, PyD.kp a1 k, PyD.kp a2 k⟩
/-- a dict with texts as its keys -/
structure Dc (α : Type) where
  l : List (Str × α)
def lk {α : Type} (l : List (Str × α)) (n : Str) : Option α := (l.find? fun e => decide (e.1 = n)).map (·.2)
def eqO {α : Type} [PyD α] : Option α → Option α → Bool
  | some a, some b => PyD.eqv a b
  | _, _ => false
theorem lk_cons {α : Type} (e : Str × α) (l : List (Str × α)) (n : Str) : lk (e :: l) n = if e.1 = n then some e.2 else lk l n := by
  unfold lk
  by_cases h : e.1 = n
  · rw [List.find?_cons_of_pos (by simpa using h), if_pos h]
    rfl
  · rw [List.find?_cons_of_neg (by simpa using h), if_neg h]
theorem lk_mem {α : Type} {l : List (Str × α)} (nd : (l.map (·.1)).Nodup) {e : Str × α} (h : e ∈ l) : lk l e.1 = some e.2 := by
  induction l with
  | nil => cases h
  | cons a l ih =>
    rw [List.map_cons, List.nodup_cons] at nd
    rw [lk_cons]
    rcases List.mem_cons.mp h with rfl | h
    · rw [if_pos rfl]
    · rw [if_neg (fun z => nd.1 (by rw [z]; exact List.mem_map_of_mem h)), ih nd.2 h]
theorem lk_out {α : Type} {l : List (Str × α)} {n : Str} (h : n ∉ l.map (·.1)) : lk l n = none := by
  induction l with
  | nil => rfl
  | cons a l ih =>
    rw [List.map_cons, List.mem_cons, not_or] at h
    rw [lk_cons, if_neg (fun z => h.1 z.symm), ih h.2]
def DcE {α : Type} [PyD α] (A : Addr → Prop) (H : Hp) (e : Key × V) (p : Str × α) : Prop := e.1 = Sum.inr p.1 ∧ PyD.at_ A H e.2 p.2
theorem val_lk {α : Type} [PyD α] {A : Addr → Prop} {H : Hp} {es : List (Key × V)} {l : List (Str × α)} (h : Paired (DcE A H) es l) (n : Str) : (valV es (Sum.inr n) = none ∧ lk l n = none) ∨ ∃ v a, valV es (Sum.inr n) = some v ∧ lk l n = some a ∧ PyD.at_ A H v a := by
  induction h with
  | nil => exact .inl ⟨rfl, rfl⟩
  | @cons e p es l h _ ih =>
    rw [lk_cons]
    by_cases c : p.1 = n
    · rw [if_pos c, valV_pos (by rw [h.1, c])]
      exact .inr ⟨_, _, rfl, rfl, h.2⟩
    · rw [if_neg c, valV_neg (by rw [h.1]; exact fun z => c (Sum.inr.inj z))]
      exact ih
theorem kv_mem {ks : List (Key × V)} {va : List (Key × Value)} (r : KV ks va) {k : Key} {v : Value} (h : (k, v) ∈ va) : ∃ x, (k, x) ∈ ks ∧ RelV x v := by
  unfold KV at r
  induction r with
  | nil => cases h
  | @cons p q ps qs h1 _ ih =>
    rcases List.mem_cons.mp h with e | h
    · subst e
      obtain ⟨a, b⟩ := h1
      refine ⟨p.2, ?_, b⟩
      have a : p.1 = k := a
      rw [← a]
      exact List.mem_cons_self
    · obtain ⟨x, hx, rx⟩ := ih h
      exact ⟨x, List.mem_cons_of_mem _ hx, rx⟩
theorem paired_mem {α β : Type} {F : α → β → Prop} {as : List α} {bs : List β} (h : Paired F as bs) {a : α} (ha : a ∈ as) : ∃ b ∈ bs, F a b := by
  induction h with
  | nil => cases ha
  | cons h _ ih =>
    rcases List.mem_cons.mp ha with rfl | ha
    · exact ⟨_, List.mem_cons_self, h⟩
    · obtain ⟨b, hb, f⟩ := ih ha
      exact ⟨b, List.mem_cons_of_mem _ hb, f⟩
theorem dc_keys {α : Type} [PyD α] {A : Addr → Prop} {H : Hp} {es : List (Key × V)} {l : List (Str × α)} (h : Paired (DcE A H) es l) : es.map (·.1) = (l.map (·.1)).map Sum.inr := by
  induction h with
  | nil => rfl
  | cons h _ ih => rw [List.map_cons, List.map_cons, List.map_cons, ih, h.1]
abbrev dcEqv {α : Type} [PyD α] (l l' : List (Str × α)) : Bool := l.length == l'.length && l.all fun e => (lk l' e.1).isSome && eqO (lk l e.1) (lk l' e.1)
theorem dc_same {α : Type} [PyD α] {A B : Addr → Prop} {H : Hp} {es : List (Key × V)} {l l' : List (Str × α)} (nd : (l.map (·.1)).Nodup) (h : Paired (DcE A H) es l) (h' : Paired (DcE B H) es l') : dcEqv l l' = true := by
  have len : l.length = l'.length := by rw [← Paired.length h, ← Paired.length h']
  unfold dcEqv
  rw [len]
  simp only [beq_self_eq_true, Bool.true_and, List.all_eq_true]
  intro e he
  rcases val_lk h e.1 with ⟨h1, h2⟩ | ⟨v, a, h1, h2, h3⟩
  · rw [lk_mem nd he] at h2
    cases h2
  · rcases val_lk h' e.1 with ⟨h4, _⟩ | ⟨v', a', h4, h5, h6⟩
    · rw [h1] at h4
      cases h4
    · rw [h1] at h4
      obtain rfl := Option.some.inj h4
      rw [h2, h5]
      show (true && PyD.eqv a a') = true
      rw [PyD.same A B H v a a' h3 h6]
      rfl
theorem kv_all {ks : List (Key × V)} {va : List (Key × Value)} (r : KV ks va) (f : Key → Bool) : (va.all fun p => f p.1) = ks.all fun p => f p.1 := by
  unfold KV at r
  induction r with
  | nil => rfl
  | @cons p q ps qs h1 _ ih => rw [List.all_cons, List.all_cons, ih, show p.1 = q.1 from h1.1]
theorem dc_all {α : Type} [PyD α] {A : Addr → Prop} {H : Hp} {es : List (Key × V)} {l : List (Str × α)} (h : Paired (DcE A H) es l) (f : Key → Bool) : (es.all fun p => f p.1) = l.all fun p => f (Sum.inr p.1) := by
  induction h with
  | nil => rfl
  | @cons e p es l h _ ih => rw [List.all_cons, List.all_cons, ih, h.1]
def keyE {α : Type} [PyD α] (l l' : List (Str × α)) (k : Key) : Bool := match k with | .inr n => eqO (lk l n) (lk l' n) | .inl _ => false
/-- what two dicts' comparison rests on -/
theorem dc_tree {α : Type} [PyD α] {A B : Addr → Prop} {X : Cx} {pins : List (Addr × Obj)} {σ : L2.St} {H : Hp} {s : Shared} (I : Inv X pins σ H s) {a b : Addr} {es fs : List (Key × V)} {l l' : List (Str × α)} (oa : H a = some (.dK es)) (ob : H b = some (.dK fs)) (nd : (l.map (·.1)).Nodup) (h : Paired (DcE A H) es l) (h' : Paired (DcE B H) fs l') :
    ∃ va vb, (a == sysModules) = false ∧ (b == sysModules) = false ∧ s.heap.DictOf (mixKind X.prog X.w) a va ∧ s.heap.DictOf (mixKind X.prog X.w) b vb ∧
      (∀ k v y, (k, v) ∈ va → valueAt vb k = some y → EqTree X.prog X.w s (PyD.depth α) v y (keyE l l' k)) ∧
      (va.length == vb.length && va.all fun p => (valueAt vb p.1).isSome && keyE l l' p.1) = dcEqv l l' := by
  obtain ⟨_, ya, va, ra, da⟩ := (show ObjOk X.prog X.w H s.heap a (.dK es) from I.hok a _ oa)
  obtain ⟨_, yb, vb, rb, db⟩ := (show ObjOk X.prog X.w H s.heap b (.dK fs) from I.hok b _ ob)
  refine ⟨va, vb, ya, yb, da, db, fun k v y hm hy => ?_, ?_⟩
  · obtain ⟨x, hx, rx⟩ := kv_mem ra hm
    obtain ⟨p, hp, hk, hat⟩ := paired_mem h hx
    have hk : k = Sum.inr p.1 := hk
    subst hk
    have rr : RelO (valV fs (Sum.inr p.1)) (valueAt vb (Sum.inr p.1)) := rb.val _
    rw [hy] at rr
    rcases val_lk h' p.1 with ⟨h1, h2⟩ | ⟨v', a', h1, h2, h3⟩
    · rw [h1] at rr
      cases rr
    · rw [h1] at rr
      obtain ⟨y2, e2, ry⟩ := RelO.some_of rr
      obtain rfl := Option.some.inj e2
      show EqTree _ _ _ _ _ _ (eqO (lk l p.1) (lk l' p.1))
      rw [lk_mem nd hp, h2]
      exact PyD.tree I _ _ _ _ _ _ hat h3 rx ry
  · have l1 : va.length = l.length := by rw [← ra.length]; exact Paired.length h
    have l2 : vb.length = l'.length := by rw [← rb.length]; exact Paired.length h'
    unfold dcEqv
    rw [l1, l2, kv_all ra (fun k => (valueAt vb k).isSome && keyE l l' k), dc_all h (fun k => (valueAt vb k).isSome && keyE l l' k)]
    congr 1
    refine List.all_congr rfl fun p => ?_
    show ((valueAt vb (Sum.inr p.1)).isSome && eqO (lk l p.1) (lk l' p.1)) = _
    have rr : RelO (valV fs (Sum.inr p.1)) (valueAt vb (Sum.inr p.1)) := rb.val _
    rcases val_lk h' p.1 with ⟨h1, h2⟩ | ⟨v', a', h1, h2, h3⟩
    · rw [h1] at rr
      rw [h2]
      cases q : valueAt vb (Sum.inr p.1) with
      | none => rfl
      | some z => rw [q] at rr; cases rr
    · rw [h1] at rr
      obtain ⟨y2, e2, ry⟩ := RelO.some_of rr
      rw [e2, h2]
      rfl
instance {α : Type} [PyD α] : PyD (Dc α) where
  at_ A H v d := ∃ a es, v = .ref a ∧ A a ∧ H a = some (.dK es) ∧ (d.l.map (·.1)).Nodup ∧ Paired (DcE A H) es d.l
  eqv d d' := dcEqv d.l d'.l
  depth := PyD.depth α + 1
  same A B H v p q h1 h2 := by
    obtain ⟨a, es, rfl, _, o, nd, pr⟩ := h1
    obtain ⟨b, fs, e, _, o', nd', pr'⟩ := h2
    obtain rfl := V.ref.inj e
    rw [o] at o'
    obtain rfl := HO.dK.inj (Option.some.inj o')
    exact dc_same nd pr pr'
  tree {X pins σ H s A0 B0} I x y v u p q h1 h2 rx ry := by
    obtain ⟨a, es, rfl, _, o, nd, pr⟩ := h1
    obtain ⟨b, fs, rfl, _, o', nd', pr'⟩ := h2
    cases (show v = Value.ref a from rx)
    cases (show u = Value.ref b from ry)
    by_cases e : a = b
    · subst e
      rw [o] at o'
      obtain rfl := HO.dK.inj (Option.some.inj o')
      rw [dc_same nd pr pr']
      exact .same
    · obtain ⟨va, vb, ya, yb, da, db, t, eq⟩ := dc_tree I o o' nd pr pr'
      have z := EqTree.dicts e ya yb da db t
      rw [eq] at z
      exact z
  kp h k := by
    obtain ⟨a, es, e, ha, o, nd, pr⟩ := h
    exact ⟨a, es, e, (k _ _ ha o).1, (k _ _ ha o).2, nd, Paired.mapP pr fun e p h => ⟨h.1, PyD.kp h.2 k⟩⟩
section
variable {X : Cx} {α : Type} [PyD α]
/-- == of two dicts -/
def rEqC (α : Type) [PyD α] (g : Bool → Bool) : R2 := fun x y H Q => ∃ (p q : Dc α) (A B : Addr → Prop), PyD.at_ A H x p ∧ PyD.at_ B H y q ∧ Q (.bl (g (PyD.eqv p q))) H
theorem op_eqC (hu : X.A.units + (PyD.depth α + 1) < cLine) : OpR X (compareOp .Eq) (rEqC α id) := by
  intro pins s σ H x y v u Q I rx ry h
  obtain ⟨p, q, A, B, ⟨a, es, rfl, _, o, nd, pr⟩, ⟨b, fs, rfl, _, o', nd', pr'⟩, hq⟩ := h
  cases (show v = Value.ref a from rx)
  cases (show u = Value.ref b from ry)
  obtain ⟨va, vb, ya, yb, da, db, t, eq⟩ := dc_tree I o o' nd pr pr'
  refine PySem.W.eq_dictsT ya yb da db t hu ?_
  rw [eq]
  exact ⟨.bl _, H, I, rfl, hq⟩
theorem op_neC (hu : X.A.units + (PyD.depth α + 1) < cLine) : OpR X (compareOp .NotEq) (rEqC α fun b => !b) := by
  intro pins s σ H x y v u Q I rx ry h
  obtain ⟨p, q, A, B, ⟨a, es, rfl, _, o, nd, pr⟩, ⟨b, fs, rfl, _, o', nd', pr'⟩, hq⟩ := h
  cases (show v = Value.ref a from rx)
  cases (show u = Value.ref b from ry)
  obtain ⟨va, vb, ya, yb, da, db, t, eq⟩ := dc_tree I o o' nd pr pr'
  refine wpAny_richCompare_same_room (op := .NotEq) da.typeIs db.typeIs PySem.F.slot_dict_ne (wpAny_call_entry PySem.F.slot_dict_ne da.typeIs PySem.F.entry_dict_ne ?_ (PySem.F.args_dict_ne_2 _ _)) (by omega)
  show wpAny _ _ (Builtin.Dict.dictSlotArgs "__ne__" ⟨[.ref a, .ref b], []⟩ >>= fun _ => _) _ _ s
  refine wpAny_bind ?_
  unfold Builtin.Dict.dictSlotArgs
  refine wpAny_bind (wpAny_notOrdered_dict da.typeIs ?_)
  show wpAny _ _ (pure (Value.ref a, Value.ref b)) _ _ s
  refine wpAny_pure (wpAny_bind (wpAny_isInstance (T := "dict") db.typeIs PySem.F.sub_dict_dict ?_))
  simp only [Bool.not_true, Bool.false_eq_true, if_false]
  refine wpAny_bind (wpAny_pure (wpAny_bind (wpAny_pure (wpAny_bind (PySem.W.keq_samePairsIn ya yb da db (fun _ => PySem.W.KeqHitsIn.of _ fun k v y hm hv => (t k v y hm hv).at _ (by show X.A.units + 1 + _ < cLine; omega)) ?_)))))
  rw [eq]
  exact wpAny_pure ⟨_, rfl, (fun x => nomatch x), ⟨.bl (!PyD.eqv p q), H, I, (by show Value.bool _ = Value.bool (!dcEqv p.l q.l); congr 1; cases dcEqv p.l q.l <;> rfl), hq⟩⟩
/-- == of two lists -/
def rEqS (α : Type) [PyD α] : R2 := fun x y H Q => ∃ (a b : Addr) (xs ys : List V) (ps qs : List α) (A B : Addr → Prop), x = .ref a ∧ y = .ref b ∧ H a = some (.lst xs) ∧ H b = some (.lst ys) ∧ Paired (PyD.at_ A H) xs ps ∧ Paired (PyD.at_ B H) ys qs ∧ Q (.bl (ps.length == qs.length && (ps.zip qs).all fun e => PyD.eqv e.1 e.2)) H
theorem zip_all {γ : Type} (f : γ → γ → Bool) : ∀ (ps qs : List γ), ps.length = qs.length → (ps.zip qs).all (fun e => f e.1 e.2) = (List.range ps.length).all fun j => match ps[j]?, qs[j]? with | some a, some b => f a b | _, _ => false
  | [], [], _ => rfl
  | a :: ps, b :: qs, h => by
    have ih := zip_all f ps qs (by simpa using h)
    rw [List.zip_cons_cons, List.all_cons, ih, List.length_cons, List.range_succ_eq_map, List.all_cons, List.all_map]
    rfl
  | [], _ :: _, h => by simp at h
  | _ :: _, [], h => by simp at h
theorem op_eqS (hu : X.A.units + (PyD.depth α + 1) < cLine) : OpR X (compareOp .Eq) (rEqS α) := by
  intro pins s σ H x y v u Q I rx ry h
  obtain ⟨a, b, xs, ys, ps, qs, A, B, rfl, rfl, oa, ob, pa, pb, hq⟩ := h
  cases (show v = Value.ref a from rx)
  cases (show u = Value.ref b from ry)
  obtain ⟨us, r1, p1, _⟩ := I.list (SqL.of (K := X.K) oa)
  obtain ⟨ws, r2, p2, _⟩ := I.list (SqL.of (K := X.K) ob)
  have l1 : us.length = ps.length := by rw [← r1.length]; exact Paired.length pa
  have l2 : ws.length = qs.length := by rw [← r2.length]; exact Paired.length pb
  by_cases len : ps.length = qs.length
  · have hsz : us.toArray.size = ws.toArray.size := by rw [List.size_toArray, List.size_toArray]; omega
    refine PySem.W.eq_listsT (n := PyD.depth α) (e := fun j => match ps[j]?, qs[j]? with | some a, some b => PyD.eqv a b | _, _ => false) p1.isList p2.isList hsz (fun j h1 h2 => ?_) hu ?_
    · have h1' : j < us.length := by simpa using h1
      have h2' : j < ws.length := by simpa using h2
      have gv : ∀ {xs : List V} {us : List Value}, Vals xs us → ∀ {j : Nat} (h : j < us.length), ∃ x, xs[j]? = some x ∧ RelV x us[j] := fun {xs us} r => by
        induction r with
        | nil => intro j h; exact absurd h (Nat.not_lt_zero _)
        | cons h _ ih =>
          intro j hj
          cases j with
          | zero => exact ⟨_, rfl, h⟩
          | succ j =>
            obtain ⟨x, e, rx⟩ := ih (Nat.lt_of_succ_lt_succ hj)
            exact ⟨x, e, rx⟩
      obtain ⟨x1, ex, rx1⟩ := gv r1 h1'
      obtain ⟨y1, ey, ry1⟩ := gv r2 h2'
      obtain ⟨q1, eq1, at1⟩ := LiI.paired_get pa ex
      obtain ⟨q2, eq2, at2⟩ := LiI.paired_get pb ey
      have z := PyD.tree I _ _ _ _ _ _ at1 at2 rx1 ry1
      simp only [eq1, eq2]
      simpa using z
    · have ee : ((List.range us.toArray.size).all fun j => match ps[j]?, qs[j]? with | some a, some b => PyD.eqv a b | _, _ => false) = (ps.length == qs.length && (ps.zip qs).all fun e => PyD.eqv e.1 e.2) := by
        rw [zip_all (fun a b => PyD.eqv a b) ps qs len, List.size_toArray, l1, len]
        simp
      rw [ee]
      exact ⟨.bl _, H, I, rfl, hq⟩
  · refine SeqAt.RcAt.lists_lengths p1.isList p2.isList (by simp [l1, l2, len]) (by omega) X.prog X.w _ _ ?_
    have ee : (ps.length == qs.length && (ps.zip qs).all fun e => PyD.eqv e.1 e.2) = false := by simp [len]
    rw [ee] at hq
    exact ⟨.bl false, H, I, rfl, hq⟩
end
end L2.TB
/-! what serves any law of this kind -/
namespace L2.TB
open PySem PySem.Spec PyProof.Rows
theorem strs_of : ∀ ys : List V, (∀ y ∈ ys, ∃ x, y = V.str x) → ∃ ks : List Str, ys = ks.map V.str
  | [], _ => ⟨[], rfl⟩
  | y :: ys, h => by
    obtain ⟨x, rfl⟩ := h y List.mem_cons_self
    obtain ⟨ks, rfl⟩ := strs_of ys fun z hz => h z (List.mem_cons_of_mem _ hz)
    exact ⟨x :: ks, rfl⟩
theorem some_strs {ns : List Str} {ys zs : List V} (pm : (ys ++ zs).Perm (ns.map V.str)) (nnd : ns.Nodup) : ∃ known : List Str, ys = known.map V.str ∧ known.Nodup ∧ ∀ x ∈ known, x ∈ ns := by
  have yin : ∀ y ∈ ys, ∃ x, y = V.str x := fun y hy => by
    have z : y ∈ ns.map V.str := pm.mem_iff.mp (List.mem_append_left _ hy)
    obtain ⟨x, _, rfl⟩ := List.mem_map.mp z
    exact ⟨x, rfl⟩
  obtain ⟨known, rfl⟩ := strs_of ys yin
  have ndall : (known.map V.str ++ zs).Nodup := pm.nodup_iff.mpr (List.Pairwise.map V.str (fun a b h e => h (V.str.inj e)) nnd)
  refine ⟨known, rfl, ?_, fun x hx => ?_⟩
  · have z := (List.nodup_append.mp ndall).1
    exact (List.pairwise_map.mp z).imp fun h e => h (congrArg V.str e)
  · have z : V.str x ∈ ns.map V.str := pm.mem_iff.mp (List.mem_append_left _ (List.mem_map_of_mem hx))
    obtain ⟨y, hy, e⟩ := List.mem_map.mp z
    exact V.str.inj e ▸ hy
theorem put_last {acc : List (Key × V)} {k : Key} {v : V} (h : k ∉ acc.map (·.1)) : putK acc k v = acc ++ [(k, v)] := by
  have nd : ∀ acc : List (Key × V), k ∉ acc.map (·.1) → putK acc k v = acc ++ [(k, v)] := by
    intro acc h
    have no : (acc.any fun e => decide (e.1 = k)) = false := by
      cases q : acc.any fun e => decide (e.1 = k) with
      | false => rfl
      | true =>
        obtain ⟨e, he, ee⟩ := List.any_eq_true.mp q
        exact absurd (of_decide_eq_true ee ▸ List.mem_map_of_mem (f := (·.1)) he) h
    unfold putK
    rw [no]
    rfl
  exact nd acc h
/-- what a dict comprehension asks of its turns -/
def DcW (J : It) (g : TG) (tt : TT) (tk tv : TE) (vs : List Nat) (σ : St) (H1 : Hp) (Q : Addr → Hp → Prop) : Prop := ∀ D, H1 D = none → ∃ W : Nat → Nat → Hp → Prop, (∃ m, W 0 m (upd H1 D (.dK []))) ∧ ∀ i m H, W i m H →
  (J.stop i H ∧ Q D H) ∨ (J.go i H ∧ ∃ Nx : Hp → Prop, (∀ H', Nx H' → ∃ m', m' < m ∧ W (i + 1) m' H') ∧ ∀ x H', J.yld i H x H' → g x (wipe σ vs) H' fun σ2 H2 => wipe σ2 vs = wipe σ vs ∧ tt σ2 H2 fun b H3 =>
    if b = true then tk σ2 H3 fun y H4 => tv σ2 H4 fun z H5 => ∃ kvs k, y = kV k ∧ H5 D = some (.dK kvs) ∧ kvs.length < sizeLine ∧ Nx (upd H5 D (.dK (putK kvs k z))) else Nx H3)
theorem paired_join {α β : Type} {F : α → β → Prop} {as : List α} {bs : List β} {a : α} {b : β} (h : Paired F as bs) (q : F a b) : Paired F (as ++ [a]) (bs ++ [b]) := by
  induction h with
  | nil => exact .cons q .nil
  | cons h _ ih => exact .cons h ih
theorem boot_sumN : bootBuiltins "sum" = some (.builtin "sum") := by decide +kernel
theorem lock_offN {H H' : Hp} {d : Addr} {u : HO} {od : Obj} (hd : H d = some u) (s : Same (upd H d (.frz od u)) H') : H' d = some (.frz od u) ∧ Same H (upd H' d u) := by
  refine ⟨s _ _ upd_same, fun b o e => ?_⟩
  by_cases hb : b = d
  · rw [hb, upd_same, ← hd, ← hb]; exact e
  · rw [upd_ne hb]
    exact s _ _ (by rw [upd_ne hb]; exact e)
theorem boot_allN : bootBuiltins "all" = some (.builtin "all") := by decide +kernel
theorem valV_atN : ∀ {kvs : List (Key × V)} {i : Nat} {k : Key} {x : V}, (kvs.map (·.1)).Nodup → kvs[i]? = some (k, x) → valV kvs k = some x
  | [], i, k, x, _, e => by cases e
  | p :: r, 0, k, x, _, e => by
    obtain rfl : p = (k, x) := by simpa using e
    exact valV_pos rfl
  | p :: r, i + 1, k, x, nd, e => by
    have e2 : r[i]? = some (k, x) := by simpa using e
    rw [List.map_cons, List.nodup_cons] at nd
    have ne : ¬ p.1 = k := fun z => nd.1 (by rw [z]; exact List.mem_map.mpr ⟨_, List.mem_of_getElem? e2, rfl⟩)
    rw [valV_neg ne]
    exact valV_atN nd.2 e2
theorem map_snocN {α β : Type} (f : α → β) {l : List α} {x : α} : (l ++ [x]).map f = l.map f ++ [f x] := by rw [List.map_append]; rfl
theorem dc_madeN {J : It} {g : TG} {tt : TT} {tk tv : TE} {vs : List Nat} {σ : St} {H1 : Hp} {Q : Addr → Hp → Prop} (ks : List Key) (short : ks.length < 1000000) (unlike : ks.Nodup) (go : ∀ i H, Same H1 H → i < ks.length → J.go i H) (stop : ∀ H, Same H1 H → J.stop ks.length H)
    (R : Nat → V → Hp → Prop) (stays : ∀ i y H H' D l, R i y H → H D = some (.dK l) → (∀ b o, b ≠ D → H b = some o → H' b = some o) → R i y H')
    (turn : ∀ (i : Nat) (x : V) (k : Key) (H H' : Hp) (C : V → V → Hp → Prop) (N : Hp → Prop), ks[i]? = some k → Same H1 H → J.yld i H x H' → (∀ v H5, R i v H5 → Same H H5 → C (kV k) v H5) →
      g x (wipe σ vs) H' fun σ2 H2 => wipe σ2 vs = wipe σ vs ∧ tt σ2 H2 fun b H3 => if b = true then tk σ2 H3 fun y H4 => tv σ2 H4 fun z H5 => C y z H5 else N H3)
    (fin : ∀ H D kvs, H1 D = none → H D = some (.dK kvs) → kvs.map (·.1) = ks → (∀ j k y, kvs[j]? = some (k, y) → R j y H) → Same H1 H → Q D H) : DcW J g tt tk tv vs σ H1 Q := by
  intro D nD
  refine ⟨fun i m H => m = ks.length - i ∧ i ≤ ks.length ∧ (∃ acc : List (Key × V), H D = some (.dK acc) ∧ acc.map (·.1) = ks.take i ∧ ∀ j k y, acc[j]? = some (k, y) → R j y H) ∧ Same H1 H,
    ⟨_, rfl, Nat.zero_le _, ⟨[], upd_same, by simp, fun j k y e => by simp at e⟩, same_new nD⟩, ?_⟩
  rintro i m H ⟨rfl, le, ⟨acc, oD, ea, hR⟩, s1⟩
  have la : acc.length = i := by
    have z := congrArg List.length ea
    rw [List.length_map, List.length_take] at z
    omega
  by_cases lt : i < ks.length
  · refine .inr ⟨go i H s1 lt, fun H' => (∃ acc : List (Key × V), H' D = some (.dK acc) ∧ acc.map (·.1) = ks.take (i + 1) ∧ ∀ j k y, acc[j]? = some (k, y) → R j y H') ∧ Same H1 H', fun H' h => ⟨ks.length - (i + 1), by omega, rfl, lt, h⟩, fun x H' yl => ?_⟩
    have ek : ks[i]? = some ks[i] := List.getElem?_eq_getElem lt
    have et : ks.take (i + 1) = ks.take i ++ [ks[i]] := by rw [List.take_succ, ek]; rfl
    have sp : (ks.take (i + 1)).Nodup := unlike.sublist (List.take_sublist _ _)
    rw [et, List.nodup_append] at sp
    have out : ks[i] ∉ acc.map (·.1) := fun z => sp.2.2 _ (by rw [← ea]; exact z) _ (by simp) rfl
    refine turn i x ks[i] H H' _ _ ek s1 yl fun v H5 hv s5 => ⟨acc, ks[i], rfl, s5 _ _ oD, by rw [sizeLine_eq]; omega, ⟨acc ++ [(ks[i], v)], ?_, ?_, ?_⟩, ?_⟩
    · rw [upd_same, put_last out]
    · rw [map_snocN, ea, et]
    · have keep : ∀ b o, b ≠ D → H5 b = some o → upd H5 D (.dK (putK acc ks[i] v)) b = some o := fun b o nb e => by rw [upd_ne nb]; exact e
      intro j k y e
      by_cases hj : j < acc.length
      · rw [List.getElem?_append_left hj] at e
        have a1 : R j y H5 := stays j y H H5 D acc (hR j k y e) oD fun b o _ e => s5 _ _ e
        exact stays j y H5 _ D acc a1 (s5 _ _ oD) keep
      · rw [List.getElem?_append_right (by omega)] at e
        have : j - acc.length = 0 := by
          rcases Nat.eq_zero_or_pos (j - acc.length) with z | z
          · exact z
          · rw [List.getElem?_eq_none (by simp; omega)] at e; cases e
        rw [this] at e
        cases e
        have : j = i := by omega
        rw [this]
        exact stays i v H5 _ D acc hv (s5 _ _ oD) keep
    · intro b u e
      rw [upd_ne (ne_of_none e nD)]
      exact s5 _ _ (s1 _ _ e)
  · obtain rfl : i = ks.length := by omega
    rw [List.take_length] at ea
    exact .inl ⟨stop H s1, fin H D acc nD oD ea hR s1⟩
theorem paired_of {α β : Type} {R : α → β → Prop} : ∀ (xs : List α) (ys : List β), xs.length = ys.length → (∀ (i : Nat) (x : α) (y : β), xs[i]? = some x → ys[i]? = some y → R x y) → Paired R xs ys
  | [], [], _, _ => .nil
  | x :: xs, y :: ys, l, h => .cons (h 0 x y rfl rfl) (paired_of xs ys (by simpa using l) fun i a b ea eb => h (i + 1) a b ea eb)
theorem const_mapN (xs : List Str) : ((xs.map V.str).filter fun _ => true).map (fun _ => V.bl true) = bools xs.length := by
  rw [List.filter_eq_self.mpr (fun _ _ => rfl), List.map_map]
  unfold bools
  induction xs with
  | nil => rfl
  | cons a l ih => rw [List.map_cons, ih, List.length_cons, List.replicate_succ]; rfl
theorem dc_itN {J : It} {n : Nat} {G : Hp → Prop} {Y : Nat → Hp → V → Hp → Prop} (w : Walk J n G Y) {g : TG} {tt : TT} {tk tv : TE} {vs : List Nat} {σ : St} {H1 : Hp} {D : Addr} {Qd : Hp → Prop} (Pv : Nat → Hp → Prop) (h0 : Pv 0 (upd H1 D (.dK []))) (hG : ∀ i H, i ≤ n → Pv i H → G H)
    (hs : ∀ i x H H', i < n → Pv i H → Y i H x H' → g x (wipe σ vs) H' fun σ2 H2 => wipe σ2 vs = wipe σ vs ∧ tt σ2 H2 fun b H3 =>
      if b = true then tk σ2 H3 fun y H4 => tv σ2 H4 fun z H5 => ∃ kvs k, y = kV k ∧ H5 D = some (.dK kvs) ∧ kvs.length < sizeLine ∧ Pv (i + 1) (upd H5 D (.dK (putK kvs k z))) else Pv (i + 1) H3) (hd : ∀ H, Pv n H → Qd H) :
    ∃ W : Nat → Nat → Hp → Prop, (∃ m, W 0 m (upd H1 D (.dK []))) ∧ ∀ i m H, W i m H →
      (J.stop i H ∧ Qd H) ∨ (J.go i H ∧ ∃ Nx : Hp → Prop, (∀ H', Nx H' → ∃ m', m' < m ∧ W (i + 1) m' H') ∧ ∀ x H', J.yld i H x H' → g x (wipe σ vs) H' fun σ2 H2 => wipe σ2 vs = wipe σ vs ∧ tt σ2 H2 fun b H3 =>
        if b = true then tk σ2 H3 fun y H4 => tv σ2 H4 fun z H5 => ∃ kvs k, y = kV k ∧ H5 D = some (.dK kvs) ∧ kvs.length < sizeLine ∧ Nx (upd H5 D (.dK (putK kvs k z))) else Nx H3) := by
  refine ⟨fun i m H => m = n - i ∧ i ≤ n ∧ Pv i H, ⟨n, by simp, Nat.zero_le _, h0⟩, ?_⟩
  rintro i m H ⟨rfl, hi, p⟩
  have q := hG i H hi p
  by_cases hlt : i < n
  · refine .inr ⟨w.goes i H hlt q, Pv (i + 1), fun H' p' => ⟨n - (i + 1), by omega, rfl, hlt, p'⟩, fun x H' y => hs i x H H' hlt p (w.yields i H x H' hlt q y)⟩
  · have e : i = n := by omega
    subst e
    exact .inl ⟨w.stops H q, hd H p⟩
/-- all stays but the spring and what is at g -/
def BG (g l ls : Addr) (H H' : Hp) : Prop := ∀ b o, b ≠ l → b ≠ ls → b ≠ g → H b = some o → H' b = some o
theorem BG.free {g l ls p : Addr} {H H' : Hp} (B : BG g l ls H H') (h1 : p ≠ l) (h2 : p ≠ ls) (h3 : p ≠ g) (n : H' p = none) : H p = none := by
  cases e : H p with
  | none => rfl
  | some o => rw [B p o h1 h2 h3 e] at n; cases n
theorem But.free {l ls p : Addr} {H H' : Hp} (B : But l ls H H') (a : p ≠ l ∧ p ≠ ls) (n : H' p = none) : H p = none := by
  cases e : H p with
  | none => rfl
  | some o => rw [B p o a.1 a.2 e] at n; cases n
theorem BG.but {g l ls : Addr} {H H1 H2 : Hp} (B : BG g l ls H H1) (C : But l ls H1 H2) : BG g l ls H H2 := fun b o h1 h2 h3 e => C b o h1 h2 (B b o h1 h2 h3 e)
theorem BG.upd {g l ls : Addr} {H H1 : Hp} {o : HO} (B : BG g l ls H H1) : BG g l ls H (upd H1 g o) := fun b u h1 h2 h3 e => by rw [upd_ne h3]; exact B b u h1 h2 h3 e
theorem BG.new {g l ls : Addr} {H H1 : Hp} (B : BG g l ls H H1) (n : H g = none) : But l ls H H1 := fun b o h1 h2 e => B b o h1 h2 (fun z => by rw [z, n] at e; cases e) e
theorem strm_upd {l ls b : Addr} {o : HO} {H : Hp} {N : Int} (S : Strm H l ls N) (a : b ≠ l ∧ b ≠ ls) : Strm (upd H b o) l ls N := by
  obtain ⟨cs', g, k, m, S⟩ := S
  exact ⟨cs', g, k, m, by rw [upd_ne (Ne.symm a.1)]; exact S.o, by rw [upd_ne (Ne.symm a.2)]; exact S.c, S.ne, S.g0, S.k0, S.k1, S.m0, S.m1, S.sz⟩
theorem but_unlock {l ls dd : Addr} {u : HO} {od : Obj} {H0 H' : Hp} (hd : H0 dd = some u) (a : dd ≠ l ∧ dd ≠ ls) (B : But l ls (upd H0 dd (.frz od u)) H') : H' dd = some (.frz od u) ∧ But l ls H0 (upd H' dd u) :=
  ⟨B _ _ a.1 a.2 upd_same, fun b o h1 h2 e => by
    by_cases hb : b = dd
    · subst hb
      rw [hd] at e
      rw [upd_same]; exact e
    · rw [upd_ne hb]
      exact B _ _ h1 h2 (by rw [upd_ne hb]; exact e)⟩
theorem pair_snoc {α β : Type} {F : α → β → Prop} {as : List α} {bs : List β} {a : α} {b : β} {i : Nat} (h : Paired F as (bs.take i)) (e : bs[i]? = some b) (q : F a b) : Paired F (as ++ [a]) (bs.take (i + 1)) := by
  rw [List.take_succ, e]
  exact paired_join h q
theorem opt_lc {α : Type} {J : It} {g : TG} {tt : TT} {te : TE} {vs : List Nat} {σ : St} {H1 : Hp} {Q : Addr → Hp → Prop} (xs : List α) (f : α → Option (Key × V)) (short : xs.length < 1000) (go : ∀ i H, Same H1 H → i < xs.length → J.go i H) (stop : ∀ H, Same H1 H → J.stop xs.length H)
    (turn : ∀ (i : Nat) (v : V) (a : α) (H H' : Hp) (C : V → Hp → Prop) (N : Hp → Prop), xs[i]? = some a → Same H1 H → J.yld i H v H' → (∀ k x, f a = some (k, x) → ∀ t H4, H4 t = some (.tup [kV k, x]) → Same H H4 → C (.ref t) H4) → (f a = none → ∀ H4, Same H H4 → N H4) →
      g v (wipe σ vs) H' fun σ2 H2 => wipe σ2 vs = wipe σ vs ∧ tt σ2 H2 fun b H3 => if b = true then te σ2 H3 C else N H3)
    (fin : ∀ H D ps, H1 D = none → H D = some (.lst ((ps : List Addr).map V.ref)) → Paired (fun p (kv : Key × V) => H p = some (.tup [kV kv.1, kv.2])) ps (xs.filterMap f) → Same H1 H → Q D H) : LcW J g tt te vs σ H1 Q := by
  intro D nD
  refine ⟨fun i m H => m = xs.length - i ∧ i ≤ xs.length ∧ (∃ ps : List Addr, H D = some (.lst (ps.map V.ref)) ∧ ps.length ≤ i ∧ Paired (fun p (kv : Key × V) => H p = some (.tup [kV kv.1, kv.2])) ps ((xs.take i).filterMap f)) ∧ Same H1 H,
    ⟨_, rfl, Nat.zero_le _, ⟨[], upd_same, Nat.le_refl _, by rw [List.take_zero]; exact .nil⟩, same_new nD⟩, ?_⟩
  rintro i m H ⟨rfl, le, ⟨ps, oD, lp, pr⟩, s1⟩
  by_cases lt : i < xs.length
  · refine .inr ⟨go i H s1 lt, fun H' => (∃ ps : List Addr, H' D = some (.lst (ps.map V.ref)) ∧ ps.length ≤ i + 1 ∧ Paired (fun p (kv : Key × V) => H' p = some (.tup [kV kv.1, kv.2])) ps ((xs.take (i + 1)).filterMap f)) ∧ Same H1 H', fun H' h => ⟨xs.length - (i + 1), by omega, rfl, lt, h⟩, fun x H' yl => ?_⟩
    have ea : xs[i]? = some xs[i] := List.getElem?_eq_getElem lt
    have et : (xs.take (i + 1)).filterMap f = (xs.take i).filterMap f ++ (f xs[i]).toList := by
      rw [List.take_succ, ea, List.filterMap_append]
      show _ ++ List.filterMap f [xs[i]] = _
      cases e : f xs[i] <;> simp [e]
    refine turn i x xs[i] H H' _ _ ea s1 yl (fun k x ek t H4 ot s4 => ?_) (fun en H4 s4 => ?_)
    · have oD4 := s4 _ _ oD
      have tD : t ≠ D := fun z => by rw [z, oD4] at ot; cases ot
      have up : ∀ {l : List V} b o, b ≠ D → H4 b = some o → upd H4 D (.lst l) b = some o := fun b o nb e => by rw [upd_ne nb]; exact e
      refine ⟨_, oD4, by rw [sizeLine_eq, List.length_map]; omega, ⟨ps ++ [t], by rw [upd_same, List.map_append]; rfl, by rw [List.length_append]; show _ + 1 ≤ _; omega, ?_⟩, ?_⟩
      · rw [et, ek]
        exact paired_join (Paired.mapP pr fun p kv h => up _ _ (fun z => by rw [z, oD] at h; cases h) (s4 _ _ h)) (up _ _ tD ot)
      · intro b u e
        rw [upd_ne (ne_of_none e nD)]
        exact s4 _ _ (s1 _ _ e)
    · refine ⟨⟨ps, s4 _ _ oD, by omega, ?_⟩, s1.trans s4⟩
      rw [et, en]
      simp only [Option.toList_none, List.append_nil]
      exact Paired.mapP pr fun p kv h => s4 _ _ h
  · obtain rfl : i = xs.length := by omega
    rw [List.take_length] at pr
    exact .inl ⟨stop H s1, fin H D ps nD oD pr s1⟩
theorem merge_new : ∀ (kvs acc : List (Key × V)), ((acc ++ kvs).map (·.1)).Nodup → mergeK acc kvs = acc ++ kvs
  | [], acc, _ => by simp [mergeK]
  | p :: more, acc, h => by
    have hn : p.1 ∉ acc.map (·.1) := fun z => by
      rw [List.map_append, List.nodup_append] at h
      exact h.2.2 _ z p.1 (by simp) rfl
    show mergeK (putK acc p.1 p.2) more = _
    rw [put_last hn, merge_new more _ (by rw [List.append_assoc]; exact h), List.append_assoc]
    rfl
theorem merge_nd {kvs : List (Key × V)} (h : (kvs.map (·.1)).Nodup) : mergeK [] kvs = kvs := by
  rw [merge_new kvs [] (by simpa using h), List.nil_append]
def rDk (K : PySem.W.Frag) : List V → Hp → VK → Prop := fun vs H Q => ∃ (l : Addr) (ts : List Addr) (es : List (Key × V)), vs = [.ref l] ∧ SqL K H l (ts.map V.ref) ∧ Paired (fun t e => SqT K H t [kV e.1, e.2]) ts es ∧ ∀ d, H d = none → Q (.ref d) (upd H d (.dK (mergeK [] es)))
theorem call_dk {X : Cx} (hc : X.calm = true) : CallR X (.type "dict") (rDk X.K) := call_dictP hc
theorem paired_rev {α β : Type} {F : α → β → Prop} {as : List α} {bs : List β} (h : Paired F as bs) : Paired F as.reverse bs.reverse := by
  induction h with
  | nil => exact .nil
  | cons h _ ih =>
    rw [List.reverse_cons, List.reverse_cons]
    exact paired_join ih h
/-! the other fields are good, and others -/
theorem rev_ne {α : Type} {l : List α} (nd : l.Nodup) (h : 2 ≤ l.length) : l ≠ l.reverse := by
  intro e
  have z : l[0]? = l.reverse[0]? := congrArg (fun l => l[0]?) e
  rw [List.getElem?_reverse (by omega)] at z
  have a : l[0]? = some (l[0]'(by omega)) := List.getElem?_eq_getElem _
  have := (List.getElem?_inj (by omega) nd).mp z
  omega
def putQ {α : Type} (qs : List (Str × α)) (n : Str) (s : α) : List (Str × α) := qs.map fun q => if q.1 = n then (q.1, s) else q
theorem putQ_keys {α : Type} (qs : List (Str × α)) (n : Str) (s : α) : (putQ qs n s).map (·.1) = qs.map (·.1) := by
  unfold putQ
  rw [List.map_map]
  refine List.map_congr_left fun q _ => ?_
  show (if q.1 = n then (q.1, s) else q).1 = q.1
  by_cases h : q.1 = n
  · rw [if_pos h]
  · rw [if_neg h]
theorem putQ_mem {α : Type} {qs : List (Str × α)} {n : Str} {s : α} {q : Str × α} (h : q ∈ putQ qs n s) : q ∈ qs ∨ (q.2 = s ∧ q.1 = n) := by
  obtain ⟨q0, h0, rfl⟩ := List.mem_map.mp h
  by_cases e : q0.1 = n
  · rw [if_pos e]
    exact .inr ⟨rfl, e⟩
  · rw [if_neg e]
    exact .inl h0
theorem put_has {es : List (Key × V)} {k : Key} {v : V} (h : k ∈ es.map (·.1)) : putK es k v = es.map fun kv => if kv.1 = k then (kv.1, v) else kv := by
  unfold putK
  have : (es.any fun kv => decide (kv.1 = k)) = true := by
    obtain ⟨e, he, rfl⟩ := List.mem_map.mp h
    exact List.any_eq_true.mpr ⟨e, he, by simp⟩
  rw [if_pos this]
theorem same_upd2 {H : Hp} {p : Addr} {a b : HO} (n : H p = none) : Same H (upd (upd H p a) p b) := fun c o e => by
  have := ne_of_none e n
  rw [upd_ne this, upd_ne this]; exact e
theorem boot_anyN : bootBuiltins "any" = some (.builtin "any") := by decide +kernel
theorem op_either {X : Cx} {o : Value → Value → Sem Value} {r1 r2 : R2} (h1 : OpR X o r1) (h2 : OpR X o r2) : OpR X o (fun x y H Q => r1 x y H Q ∨ r2 x y H Q) := by
  intro pins s σ H x y v u Q I rx ry h
  rcases h with h | h
  · exact h1 pins s σ H x y v u Q I rx ry h
  · exact h2 pins s σ H x y v u Q I rx ry h
theorem rel_ref {v : V} {a : Addr} {u : Value} (e : v = .ref a) (r : RelV v u) : u = .ref a := by
  subst e
  exact r
theorem rel_bl {v : V} {t : Bool} {u : Value} (e : v = .bl t) (r : RelV v u) : u = .bool t := by
  subst e
  exact r
end L2.TB
namespace L2.TB
open PySem PySem.Spec PyProof.Rows
/-! == and != of two of one class with an own __eq__ -/
section
variable {X : Cx} {CX : CXT} {k : Nat} {f C : Addr} {fd : FuncData} {ps : List Str} {sp : Sp} {E : XK}
def rEqI (C : Addr) (sp : Sp) (E : XK) (g : Bool → Bool) : R2 := fun x y H Q => ∃ a b dx dy fs gs, x = .ref a ∧ y = .ref b ∧ H a = some (.ins C dx fs) ∧ H b = some (.ins C dy gs) ∧ sp [.ref a, .ref b] H (fun v H' => ∃ t, v = .bl t ∧ Q (.bl (g t)) H') E
/-- the method's call -/
theorem call_eqI (F : FnOk X.prog X.w X.K X.mg X.base CX k f fd ps sp) {A : Around} (hr : Room k A) (hA : A.frames = X.A.frames) (hb : Binds X.K fd ps []) (hx : Passes CX X E) {pins : List (Addr × Obj)} {σ : St} {H : Hp} {s : Shared} (I : Inv X pins σ H s) {a b : Addr} {R : Bool → Hp → Prop}
    (hsp : sp [.ref a, .ref b] H (fun v H' => ∃ t, v = .bl t ∧ R t H') E) {Q : Value → Shared → Prop} (fin : ∀ t H' s', Inv X pins σ H' s' → R t H' → Q (.bool t) s') :
    wpAny (model X.prog X.w) A (call (.ref f) [.ref a, .ref b]) Q X.xe s := by
  have e0 : Env0 X.prog X.w X.K X.mg X.base A X.stack s H := by
    have z := I.env0
    exact ⟨by rw [hA]; exact z.frames, z.mod, z.bs, z.bsz, z.funs, z.frf, z.hok, z.bare⟩
  have many := F.len _ _ _ _ hsp
  have two : Vals [V.ref a, V.ref b] [Value.ref a, Value.ref b] := .cons rfl (.cons rfl .nil)
  have ok := F.run A X.stack s H ⟨[.ref a, .ref b], []⟩ [.ref a, .ref b] [.ref a, .ref b] _ E hr e0 (by simpa using hb s [.ref a, .ref b] I.kIn (by simpa using many)) two hsp
  refine wpAny_call (codeAny_mono ok fun q s' got => ?_)
  cases q with
  | error e => exact hx pins σ H s e s' I got
  | ok fl =>
    cases fl with
    | next => exact got.elim
    | brk => exact got.elim
    | cont => exact got.elim
    | ret v =>
      obtain ⟨u, H', I', ru, t, et, q⟩ := I.after got
      have ev := rel_bl et ru
      subst ev
      exact fin t H' s' I' q
theorem op_eqI (F : FnOk X.prog X.w X.K X.mg X.base CX k f fd ps sp) (hr : Room k X.A) (hm : Meth X.K C "__eq__" f) (hb : Binds X.K fd ps []) (hx : Passes CX X E) : OpR X (compareOp .Eq) (rEqI C sp E id) := by
  intro pins s σ H x y v u Q I rx ry h
  obtain ⟨a, b, dx, dy, fs, gs, rfl, rfl, ha, hb', hsp⟩ := h
  have ev := rel_ref rfl rx
  have eu := rel_ref rfl ry
  subst ev eu
  obtain ⟨mA, JA, _⟩ := ins_get I.hok ha
  obtain ⟨mB, JB, _⟩ := ins_get I.hok hb'
  obtain ⟨od, LA, _⟩ := JA.look
  obtain ⟨od', LB, _⟩ := JB.look
  obtain ⟨m, hF⟩ := I.fr
  show wpAny _ _ (richCompare .Eq (.ref a) (.ref b)) _ _ _
  refine PySem.W.cmp_K (op := .Eq) (tb := .ref C) (by have := hr.un; omega) hF I.ok.mod.kin LA LB.type (by simp [PySem.W.notFirst]) hm.at_ hm.fn ?_
  exact call_eqI F hr rfl hb hx I hsp fun t H' s' I' q => ⟨.bl t, H', I', rfl, q⟩
/-- object's own != asks for == -/
theorem op_neI (G : FnOk X.prog X.w X.K X.mg X.base CX k f fd ps sp) (hr : Room (k + 2) X.A) (hm : Meth X.K C "__eq__" f) (hne : PySem.W.findIn X.K (.ref C) "__ne__" = some (some (.builtin "object.__ne__"))) (hob : PySem.W.mroIn X.K C (.type "object") = some true)
    (hb : Binds X.K fd ps []) (hx : Passes CX X E) : OpR X (compareOp .NotEq) (rEqI C sp E fun t => !t) := by
  intro pins s σ H x y v u Q I rx ry h
  obtain ⟨a, b, dx, dy, fs, gs, rfl, rfl, ha, hb', hsp⟩ := h
  have ev := rel_ref rfl rx
  have eu := rel_ref rfl ry
  subst ev eu
  obtain ⟨mA, JA, _⟩ := ins_get I.hok ha
  obtain ⟨mB, JB, _⟩ := ins_get I.hok hb'
  obtain ⟨od, LA, _⟩ := JA.look
  obtain ⟨od', LB, _⟩ := JB.look
  have Xs := I.kIn
  have hun := hr.un
  have low : X.A.units < cLine := by omega
  have low1 : X.A.in1.units < cLine := by
    have := (hr.in1).un
    omega
  have isO : PySem.W.subIn X.K (.ref C) (.type "object") = some true := hob
  -- the builtin's run
  have body : ∀ {Q' : Value → Shared → Prop}, (∀ t H' s', Inv X pins σ H' s' → Q (.bl (!t)) H' → Q' (.bool (!t)) s') → wpAny (model X.prog X.w) X.A (call (.builtin "object.__ne__") [.ref a, .ref b]) Q' X.xe s := by
    intro Q' fin
    have inner : ∀ {Q2 : Option Value → Shared → Prop}, (∀ t H' s', Inv X pins σ H' s' → Q (.bl (!t)) H' → Q2 (some (.bool t)) s') → wpAny (model X.prog X.w) X.A.in1 (callSpecialIfBound? (.ref a) "__eq__" [.ref b]) Q2 X.xe s := by
      intro Q2 fin2
      refine PySem.W.ifBound_K Xs LA hm.at_ hm.fn (call_eqI G (hr.in1.mono (by omega)) rfl hb hx I hsp fun t H' s' I' q => fin2 t H' s' I' q)
    refine wpAny_call (codeAny_call_builtin PySem.F.cmp_object.ne.plain PySem.F.cmpEntry_ne (PySem.W.check_slot PySem.F.cmpKind_ne PySem.F.cmpSplit_ne (LA.type.andThen (PySem.W.looks_subIn Xs isO)) (PySem.F.cmpArgs_ne _ _) ?_))
    unfold Builtin.«object.__ne__»
    repeat (first | with_reducible refine wpAny_cRoomFor low1 ?_ | with_reducible refine inner fun t H' s' I' q => ?_ | wp_step)
    exact fin t H' s' I' q
  have one : wpAny (model X.prog X.w) X.A (tryCompare (.ref a) "__ne__" (.ref b)) (fun r s' => ∃ v, r = some v ∧ EP X pins σ Q v s') X.xe s := by
    have told : wpAny (model X.prog X.w) X.A (call (.builtin "object.__ne__") ([.ref a] ++ [.ref b]) >>= fun v => pure (some v)) (fun r s' => ∃ t H', r = some (.bool (!t)) ∧ Inv X pins σ H' s' ∧ Q (.bl (!t)) H') X.xe s :=
      wpAny_bind (body fun t H' s' I' q => wpAny_pure ⟨t, H', rfl, I', q⟩)
    have asked : wpAny (model X.prog X.w) X.A (callSpecialIfBound? (.ref a) "__ne__" [.ref b]) (fun r s' => ∃ t H', r = some (.bool (!t)) ∧ Inv X pins σ H' s' ∧ Q (.bl (!t)) H') X.xe s := by
      simp only [callSpecialIfBound?, bindSpecialIfBound?]
      refine wpAny_holding (wpAny_bind (wpAny_bind (wpAny_bind (LA.type.here ((PySem.W.looks_findIn Xs hne).here (wpAny_bind (wpAny_askSetting (wpAny_ite ?_))))))))
      have bd := PySem.F.cmp_object.ne.bind (.ref a)
      split
      · rw [bd]
        exact wpAny_bind (wpAny_pure (wpAny_pure told))
      · rw [bd]
        exact wpAny_tryCatch (wpAny_bind (wpAny_pure (wpAny_pure told)))
    unfold tryCompare
    refine wpAny_bind (wpAny_mono asked (fun r s' z => ?_) fun _ _ e => e)
    obtain ⟨t, H', rfl, I', q⟩ := z
    exact wpAny_pure ⟨_, rfl, .bl (!t), H', I', rfl, q⟩
  show wpAny _ _ (richCompare .NotEq (.ref a) (.ref b)) _ _ _
  unfold richCompare
  simp only [oneThing_ref]
  refine wpAny_holding (wpAny_bind (wpAny_cRoomFor low (wpAny_bind (LA.type.here (wpAny_bind (LB.type.here ?_))))))
  simp only [bne_self_eq_false, Bool.false_eq_true, if_false]
  refine wpAny_bind (wpAny_pure (wpAny_bind (wpAny_mono one (fun r s' z => ?_) fun _ _ e => e)))
  obtain ⟨v, rfl, q⟩ := z
  exact wpAny_pure q
end
/-! an own == asked about a thing of another kind -/
section
variable {X : Cx} {CX : CXT} {k : Nat} {f C : Addr} {fd : FuncData} {ps : List Str} {sp : Sp} {E : XK}
def rEqO (K : PySem.W.Frag) (C : Addr) (sp : Sp) (E : XK) : R2 := fun x y H Q => ∃ a dx fs t, x = .ref a ∧ H a = some (.ins C dx fs) ∧ TyX K H y t ∧ PySem.W.notFirst K C t = true ∧ sp [.ref a, y] H (fun v H' => ∃ b, v = .bl b ∧ Q (.bl b) H') E
theorem op_eqO (G : FnOk X.prog X.w X.K X.mg X.base CX k f fd ps sp) (hr : Room k X.A) (hm : Meth X.K C "__eq__" f) (hb : Binds X.K fd ps []) (hx : Passes CX X E) : OpR X (compareOp .Eq) (rEqO X.K C sp E) := by
  intro pins s σ H x y v u Q I rx ry h
  obtain ⟨a, dx, fs, t, rfl, ha, ty, nf, hsp⟩ := h
  have ev := rel_ref rfl rx
  subst ev
  obtain ⟨mA, JA, _⟩ := ins_get I.hok ha
  obtain ⟨od, LA, _⟩ := JA.look
  obtain ⟨m, hF⟩ := I.fr
  obtain ⟨Pt, Z, pt, _⟩ := kit_of I ry ty
  show wpAny _ _ (richCompare .Eq (.ref a) u) _ _ _
  refine PySem.W.cmp_K (op := .Eq) (tb := t) (by have := hr.un; omega) hF I.ok.mod.kin LA (Z.ty _ _ I.kIn pt) nf hm.at_ hm.fn ?_
  have z := run_fn (us := [Value.ref a, u]) (vs := [V.ref a, y]) G hr hb .nil hx I (.cons rfl (.cons ry .nil)) (by simpa using hsp)
  refine wpAny_mono z (fun r s' got => ?_) fun _ _ q => q
  obtain ⟨v0, H', I', rt, qq⟩ := got
  rcases qq with ⟨et, qq⟩ | ⟨et, qq⟩
  · have er := rel_bl et rt
    subst er
    exact ⟨.bl false, H', I', rfl, qq⟩
  · have er := rel_bl et rt
    subst er
    exact ⟨.bl true, H', I', rfl, qq⟩
end
/-! == and != of data with a Lean type -/
section
variable {X : Cx} {α : Type} [DecidableEq α] [PySem.W.Datum α]
def rEqT (α : Type) [DecidableEq α] [PySem.W.Datum α] (K : PySem.W.Frag) (g : Bool → Bool) : R2 := fun x y H Q => ∃ p q : α, Dp K H x (PySem.W.Datum.toD p) ∧ Dp K H y (PySem.W.Datum.toD q) ∧ Q (.bl (g (decide (p = q)))) H
theorem op_eqT (dp : PySem.W.Datum.depth α ≤ 60) (hu : X.A.units + 64 < cLine) : OpR X (compareOp .Eq) (rEqT α X.K id) := by
  intro pins s σ H x y v u Q I rx ry h
  obtain ⟨p, q, hp, hq, q2⟩ := h
  obtain ⟨as, r1⟩ := Dp.reads I _ x v hp rx
  obtain ⟨bs, r2⟩ := Dp.reads I _ y u hq ry
  have l1 := PySem.W.Datum.depth_le p
  have l2 := Nat.min_le_left (PySem.W.Datum.toD p).depth (PySem.W.Datum.toD q).depth
  refine SeqAt.eq_plain r1 r2 (PySem.W.Datum.plain p) (PySem.W.Datum.plain q) (by omega) ?_
  rw [PySem.W.Datum.eqv]
  exact ⟨.bl _, H, I, rfl, q2⟩
theorem op_neT (dp : PySem.W.Datum.depth α ≤ 60) (hu : X.A.units + 64 < cLine) : OpR X (compareOp .NotEq) (rEqT α X.K fun b => !b) := by
  intro pins s σ H x y v u Q I rx ry h
  obtain ⟨p, q, hp, hq, q2⟩ := h
  obtain ⟨as, r1⟩ := Dp.reads I _ x v hp rx
  obtain ⟨bs, r2⟩ := Dp.reads I _ y u hq ry
  have l1 := PySem.W.Datum.depth_le p
  have l2 := Nat.min_le_left (PySem.W.Datum.toD p).depth (PySem.W.Datum.toD q).depth
  refine SeqAt.ne_plain r1 r2 (PySem.W.Datum.plain p) (PySem.W.Datum.plain q) (by omega) ?_
  rw [PySem.W.Datum.eqv]
  exact ⟨.bl _, H, I, rfl, q2⟩
end
section
variable {K : PySem.W.Frag} {H : Hp}
theorem dp_strsN : ∀ xs : List Str, DpAll K H (xs.map V.str) (xs.map PySem.W.Datum.toD)
  | [] => .nil
  | x :: xs => .cons (.str x) (dp_strsN xs)
theorem dp_intsN : ∀ xs : List Int, DpAll K H (xs.map V.int) (xs.map PySem.W.Datum.toD)
  | [] => .nil
  | x :: xs => .cons (.int x) (dp_intsN xs)
theorem dp_strL {a : Addr} {xs : List Str} (h : H a = some (.lst (xs.map V.str))) : Dp K H (.ref a) (PySem.W.Datum.toD xs) := .lst (SqL.of h) (dp_strsN xs)
theorem dp_intL {a : Addr} {xs : List Int} (h : H a = some (.lst (xs.map V.int))) : Dp K H (.ref a) (PySem.W.Datum.toD xs) := .lst (SqL.of h) (dp_intsN xs)
end
end L2.TB
/-! the law's look whether two things are the same: texts, numbers, None, lists and tuples of these -/
namespace L2.TB
open PySem PySem.Spec PyProof.Rows
/-- what needs no heap to be told -/
inductive Atom : V → Prop
  | str (x : Str) : Atom (.str x)
  | int (i : Int) : Atom (.int i)
  | bl (b : Bool) : Atom (.bl b)
  | non : Atom .non
theorem ty_same {K : PySem.W.Frag} {H H' : Hp} {v : V} {t : String} (h : TyX K H v (.type t)) (s : Same H H') : TyX K H' v (.type t) := by
  generalize e : Value.type t = u at h
  cases h with
  | base b =>
    refine .base ?_
    cases b with
    | non => exact .non
    | bl x => exact .bl x
    | int i => exact .int i
    | str x => exact .str x
    | flt x => exact .flt x
    | lst q => exact .lst (s _ _ q)
    | frz q => exact .frz (s _ _ q)
    | tup q => exact .tup (s _ _ q)
    | dK q => exact .dK (s _ _ q)
    | dT q => exact .dT (s _ _ q)
    | ins q => cases e
  | byt b => exact .byt b
  | set q => exact .set (s _ _ q)
  | kList q c => exact .kList q c
  | kTuple q c => exact .kTuple q c
  | kDict q c => exact .kDict q c
  | fTuple q => exact .fTuple (s _ _ q)
  | fDict q => exact .fDict (s _ _ q)
theorem kit_two_n {K : PySem.W.Frag} {t : String} (h1 : kitB t "list" = some false) (h2 : kitB t "tuple" = some false) : PySem.W.kitAny K (.type t) [.type "list", .type "tuple"] = some false :=
  kitAny_cons (b := false) (kit_ty h1) (fun _ => kitAny_cons (b := false) (kit_ty h2) (fun _ => kitAny_nil) (fun z => by cases z)) (fun z => by cases z)
theorem dec_int2 (a b : Int) : decide (V.int a = V.int b) = decide (a = b) := by
  by_cases h : a = b
  · rw [h]; simp
  · rw [decide_eq_false h, decide_eq_false]
    exact fun z => h (V.int.inj z)
abbrev NSm : List Str := ["found", "due", "x", "y"]
theorem scSame : FnScope NSm ["found", "due"] (defScope sSame) := ⟨rfl, rfl, rfl, by decide +kernel, rfl, by decide +kernel, by decide +kernel⟩
/-- the names that it reads -/
structure Sm (mg : Str → Option Value) : Prop where
  nI : mg "isinstance" = none
  nL : mg "list" = none
  nT : mg "tuple" = none
  nInt : mg "int" = none
  nB : mg "bool" = none
  nN : mg "len" = none
  nA : mg "all" = none
  nZ : mg "zip" = none
/-- alike, to this depth -/
inductive AlkF (H : Hp) : Nat → V → V → Prop
  | one {v : V} (h : Atom v) : AlkF H 0 v v
  | dic {a b : Addr} {kvs : List (Key × V)} (ha : H a = some (.dK kvs)) (hb : H b = some (.dK kvs)) (nd : (kvs.map (·.1)).Nodup) (at_ : ∀ kv ∈ kvs, Atom kv.2) : AlkF H 0 (.ref a) (.ref b)
  | lst {n : Nat} {a b : Addr} {xs ys : List V} (ha : H a = some (.lst xs)) (hb : H b = some (.lst ys)) (l : xs.length = ys.length) (sh : xs.length < 1000) (al : ∀ (i : Nat) (x y : V), xs[i]? = some x → ys[i]? = some y → AlkF H n x y) : AlkF H (n + 1) (.ref a) (.ref b)
  | tup {n : Nat} {a b : Addr} {xs ys : List V} (ha : H a = some (.tup xs)) (hb : H b = some (.tup ys)) (l : xs.length = ys.length) (sh : xs.length < 1000) (al : ∀ (i : Nat) (x y : V), xs[i]? = some x → ys[i]? = some y → AlkF H n x y) : AlkF H (n + 1) (.ref a) (.ref b)
  | up {n : Nat} {x y : V} (h : AlkF H n x y) : AlkF H (n + 1) x y
theorem AlkF.same {H H' : Hp} (s : Same H H') {n : Nat} {x y : V} (h : AlkF H n x y) : AlkF H' n x y := by
  induction h with
  | one h => exact .one h
  | dic ha hb nd at_ => exact .dic (s _ _ ha) (s _ _ hb) nd at_
  | lst ha hb l sh _ ih => exact .lst (s _ _ ha) (s _ _ hb) l sh ih
  | tup ha hb l sh _ ih => exact .tup (s _ _ ha) (s _ _ hb) l sh ih
  | up _ ih => exact .up ih
theorem kit_three_n {K : PySem.W.Frag} {t : String} (h0 : kitB t "int" = some false) (h1 : kitB t "list" = some false) (h2 : kitB t "tuple" = some false) : PySem.W.kitAny K (.type t) [.type "int", .type "list", .type "tuple"] = some false :=
  kitAny_cons (b := false) (kit_ty h0) (fun _ => kit_two_n h1 h2) (fun z => by cases z)
theorem flat_atom {v : V} (a : Atom v) : flatB v = true := by cases a <;> rfl
def spSameF (n : Nat) : Sp := fun vs H Q _ => ∃ x y : V, vs = [x, y] ∧ AlkF H n x y ∧ ∀ H', Same H H' → Q (.bl true) H'
section
variable {P : Program} {w : World} {K : PySem.W.Frag} {mg : Str → Option Value} {base : Heap} {f : Addr} {fd : FuncData}
theorem same_num (F : Fun K "_law_same" "_law_same" sSame f fd) (M : Sm mg) : FnOk P w K mg base CX0 1 f fd ["found", "due"] (fun vs H Q _ => ∃ v : V, vs = [v, v] ∧ ((∃ i, v = .int i) ∨ ∃ b, v = .bl b) ∧ ∀ H', Same H H' → Q (.bl true) H') := by
  refine F.ok scSame (fun vs H Q E h => by obtain ⟨x, e, _⟩ := h; rw [e]; rfl) fun cdv A outer s H vs Q E hr hsp => ?_
  obtain ⟨v, rfl, hv, hq⟩ := hsp
  refine ⟨_, pss_cons (ps_if (pt_val (pe_callB (r := rIsiT K) call_isiT rfl M.nI boot_isi (pa_cons (pv 1) (pa_cons (pe_tup (pa_cons (pe_bltn (v := .ty "list") rfl M.nL boot_list' rfl) (pa_cons (pe_bltn (v := .ty "tuple") rfl M.nT boot_tuple' rfl) pa_nil))) pa_nil)))) pss_never pss_nil)
    (pss_cons (ps_if (pt_val (pe_callB (r := rIsi K) call_isi rfl M.nI boot_isi (pa_cons (pv 1) (pa_cons (pe_bltn (v := .ty "int") rfl M.nInt boot_int' rfl) pa_nil)))) (pss_one (ps_ret (pe_and (pe_callB (r := rIsi K) call_isi rfl M.nI boot_isi (pa_cons (pv 0) (pa_cons (pe_bltn (v := .ty "int") rfl M.nInt boot_int' rfl) pa_nil))) (pe_and (pe_cmpR op_eq (pe_callB (r := rIsi K) call_isi rfl M.nI boot_isi (pa_cons (pv 0) (pa_cons (pe_bltn (v := .ty "bool") rfl M.nB boot_bool' rfl) pa_nil))) (pe_callB (r := rIsi K) call_isi rfl M.nI boot_isi (pa_cons (pv 1) (pa_cons (pe_bltn (v := .ty "bool") rfl M.nB boot_bool' rfl) pa_nil))) (nomark _)) (pe_one (pe_cmpR op_eq (pv 0) (pv 1) (nomark _))))))) pss_nil) pss_never), ?_⟩
  refine ⟨_, rfl, (by show 2 ≤ sizeLine; decide), fun t nt => ?_⟩
  have st := same_new (o := .tup [.ty "list", .ty "tuple"]) nt
  rcases hv with ⟨k, rfl⟩ | ⟨k, rfl⟩
  · refine ⟨_, _, _, _, _, false, rfl, upd_same, .cons (.ty _) (.cons (.ty _) .nil), .base (.int k), kit_two_n (by decide +kernel) (by decide +kernel), _, rfl, iteF ?_⟩
    refine ⟨_, rfl, _, _, _, _, true, rfl, .ty _, .base (.int k), kit_ty (by decide +kernel), _, rfl, iteT ?_⟩
    refine ⟨_, rfl, _, _, _, _, true, rfl, .ty _, .base (.int k), kit_ty (by decide +kernel), _, rfl, iteT ?_⟩
    refine ⟨_, rfl, _, _, _, _, false, rfl, .ty _, .base (.int k), kit_ty (by decide +kernel), _, rfl, _, _, _, _, false, rfl, .ty _, .base (.int k), kit_ty (by decide +kernel), rfl, _, rfl, iteT ⟨_, rfl, _, rfl, rfl, ?_⟩⟩
    rw [decide_eq_true rfl]
    exact hq _ st
  · refine ⟨_, _, _, _, _, false, rfl, upd_same, .cons (.ty _) (.cons (.ty _) .nil), .base (.bl k), kit_two_n (by decide +kernel) (by decide +kernel), _, rfl, iteF ?_⟩
    refine ⟨_, rfl, _, _, _, _, true, rfl, .ty _, .base (.bl k), kit_ty (by decide +kernel), _, rfl, iteT ?_⟩
    refine ⟨_, rfl, _, _, _, _, true, rfl, .ty _, .base (.bl k), kit_ty (by decide +kernel), _, rfl, iteT ?_⟩
    refine ⟨_, rfl, _, _, _, _, true, rfl, .ty _, .base (.bl k), kit_ty (by decide +kernel), _, rfl, _, _, _, _, true, rfl, .ty _, .base (.bl k), kit_ty (by decide +kernel), rfl, _, rfl, iteT ⟨_, rfl, _, rfl, rfl, ?_⟩⟩
    rw [decide_eq_true rfl]
    exact hq _ st
/-- what is neither a number nor a list: by == -/
theorem same_oth (F : Fun K "_law_same" "_law_same" sSame f fd) (M : Sm mg) {x y : V} {r : R2} {t : String} (h0 : kitB t "int" = some false) (h1 : kitB t "list" = some false) (h2 : kitB t "tuple" = some false) (op : ∀ X : Cx, X.A.units + 1 < cLine → OpR X (compareOp .Eq) r) :
    FnOk P w K mg base CX0 1 f fd ["found", "due"] (fun vs H Q _ => vs = [x, y] ∧ TyX K H x (.type t) ∧ TyX K H y (.type t) ∧ ∀ H', Same H H' → r x y H' Q) := by
  refine F.ok scSame (fun vs H Q E h => by obtain ⟨e, _⟩ := h; rw [e]; rfl) fun cdv A outer s H vs Q E hr hsp => ?_
  obtain ⟨rfl, tx, ty, hq⟩ := hsp
  refine ⟨_, pss_cons (ps_if (pt_val (pe_callB (r := rIsiT K) call_isiT rfl M.nI boot_isi (pa_cons (pv 1) (pa_cons (pe_tup (pa_cons (pe_bltn (v := .ty "list") rfl M.nL boot_list' rfl) (pa_cons (pe_bltn (v := .ty "tuple") rfl M.nT boot_tuple' rfl) pa_nil))) pa_nil)))) pss_never pss_nil)
    (pss_cons (ps_if (pt_val (pe_callB (r := rIsi K) call_isi rfl M.nI boot_isi (pa_cons (pv 1) (pa_cons (pe_bltn (v := .ty "int") rfl M.nInt boot_int' rfl) pa_nil)))) pss_never pss_nil)
    (pss_one (ps_ret (pe_and (pe_cmpR op_isBl (pe_callB (r := rIsiT K) call_isiT rfl M.nI boot_isi (pa_cons (pv 0) (pa_cons (pe_tup (pa_cons (pe_bltn (v := .ty "int") rfl M.nInt boot_int' rfl) (pa_cons (pe_bltn (v := .ty "list") rfl M.nL boot_list' rfl) (pa_cons (pe_bltn (v := .ty "tuple") rfl M.nT boot_tuple' rfl) pa_nil)))) pa_nil))) pe_bl (nomark _)) (pe_one (pe_cmpR (op _ (hu_of hr)) (pv 0) (pv 1) (nomark _))))))), ?_⟩
  refine ⟨_, rfl, (by show 2 ≤ sizeLine; decide), fun t nt => ?_⟩
  have st := same_new (o := .tup [.ty "list", .ty "tuple"]) nt
  refine ⟨_, _, _, _, _, false, rfl, upd_same, .cons (.ty _) (.cons (.ty _) .nil), ty_same ty st, kit_two_n h1 h2, _, rfl, iteF ?_⟩
  refine ⟨_, rfl, _, _, _, _, false, rfl, .ty _, ty_same ty st, kit_ty h0, _, rfl, iteF ?_⟩
  refine ⟨_, rfl, (by show 3 ≤ sizeLine; decide), fun t2 nt2 => ?_⟩
  have st2 := same_new (o := .tup [.ty "int", .ty "list", .ty "tuple"]) nt2
  refine ⟨_, _, _, _, _, false, rfl, upd_same, .cons (.ty _) (.cons (.ty _) (.cons (.ty _) .nil)), ty_same tx (st.trans st2), kit_three_n h0 h1 h2, _, _, rfl, rfl, _, rfl, iteT ⟨_, rfl, _, rfl, ?_⟩⟩
  exact hq _ (st.trans st2)
theorem same_lst (F : Fun K "_law_same" "_law_same" sSame f fd) (gSm : mg "_law_same" = some (.ref f)) (M : Sm mg) {n : Nat} (G : FnOk P w K mg base CX0 (n + 1) f fd ["found", "due"] (spSameF n)) : FnOk P w K mg base CX0 (n + 2) f fd ["found", "due"] (fun vs H Q _ => ∃ (a b : Addr) (xs ys : List V), vs = [.ref a, .ref b] ∧ H a = some (.lst xs) ∧ H b = some (.lst ys) ∧ xs.length = ys.length ∧ xs.length < 1000 ∧
    (∀ (i : Nat) (x y : V), xs[i]? = some x → ys[i]? = some y → AlkF H n x y) ∧ ∀ H', Same H H' → Q (.bl true) H') := by
  have b := F.binds (ps := ["found", "due"]) fun _ _ _ _ _ _ us hl => match us, hl with | [_, _], _ => rfl
  refine F.ok scSame (fun vs H Q E h => by obtain ⟨a, b, xs, ys, e, _⟩ := h; rw [e]; rfl) fun cdv A outer s H vs Q E hr hsp => ?_
  obtain ⟨a, bb, xs, ys, rfl, ha, hb, len, short, al, hq⟩ := hsp
  have nd := scSame.nd
  refine ⟨_, pss_cons (ps_if (pt_val (pe_callB (r := rIsiT K) call_isiT rfl M.nI boot_isi (pa_cons (pv 1) (pa_cons (pe_tup (pa_cons (pe_bltn (v := .ty "list") rfl M.nL boot_list' rfl) (pa_cons (pe_bltn (v := .ty "tuple") rfl M.nT boot_tuple' rfl) pa_nil))) pa_nil))))
      (pss_cons (ps_if (PW.pt (pw_or (pt_cmpR op_ne (pe_callB (r := rIsi K) call_isi rfl M.nI boot_isi (pa_cons (pv 0) (pa_cons (pe_bltn (v := .ty "list") rfl M.nL boot_list' rfl) pa_nil))) (pe_callB (r := rIsi K) call_isi rfl M.nI boot_isi (pa_cons (pv 1) (pa_cons (pe_bltn (v := .ty "list") rfl M.nL boot_list' rfl) pa_nil))) (nomark _)) (pw_or1 (pt_cmpR op_ne (pe_callB (r := rIsi K) call_isi rfl M.nI boot_isi (pa_cons (pv 0) (pa_cons (pe_bltn (v := .ty "tuple") rfl M.nT boot_tuple' rfl) pa_nil))) (pe_callB (r := rIsi K) call_isi rfl M.nI boot_isi (pa_cons (pv 1) (pa_cons (pe_bltn (v := .ty "tuple") rfl M.nT boot_tuple' rfl) pa_nil))) (nomark _))))) pss_never pss_nil)
      (pss_one (ps_ret (pe_and (pe_cmpR op_eq (pe_callB call_len_seq rfl M.nN boot_len (pa_cons (pv 0) pa_nil)) (pe_callB call_len_seq rfl M.nN boot_len (pa_cons (pv 1) pa_nil)) (nomark _))
        (pe_one (pe_callB (cr_all rfl) rfl M.nA boot_all' (pa_cons (pe_lc (own := [("x", 2), ("y", 3)]) (tt := tYes) (g := gTup K 2 (gCons (gName 2) (gCons (gName 3) gNil))) rfl nd (RZ.pi_zipA rfl M.nZ (pa_cons (pv 0) (pa_cons (pv 1) pa_nil))) (blkOk_by (N := NSm) (sc := defScope sSame) (by decide +kernel))
          (fun _ _ _ _ _ => pg_tup rfl (pgs_cons (pg_name (i := 2) nd rfl (Or.inl rfl)) (pgs_cons (pg_name (i := 3) nd rfl (Or.inl rfl)) pgs_nil))) (fun _ _ _ _ _ => pts_nil)
          (fun _ _ _ _ _ => pe_call G hr rfl gSm F.kp b .nil pass0 (pa_cons (pv 2) (pa_cons (pv 3) pa_nil)))) pa_nil))))))) pss_nil) pss_never, ?_⟩
  refine ⟨_, rfl, (by show 2 ≤ sizeLine; decide), fun t nt => ?_⟩
  have st := same_new (o := .tup [.ty "list", .ty "tuple"]) nt
  refine ⟨_, _, _, _, _, true, rfl, upd_same, .cons (.ty _) (.cons (.ty _) .nil), .base (.lst (st _ _ hb)), kit_two_l, _, rfl, iteT ?_⟩
  generalize upd H t (.tup [.ty "list", .ty "tuple"]) = H1 at st
  have ha := st _ _ ha
  have hb := st _ _ hb
  refine ⟨_, rfl, _, _, _, _, true, rfl, .ty _, .base (.lst ha), kit_ty (by decide +kernel), _, rfl, _, _, _, _, true, rfl, .ty _, .base (.lst hb), kit_ty (by decide +kernel), rfl, _, rfl, iteF ?_⟩
  refine ⟨_, rfl, _, _, _, _, false, rfl, .ty _, .base (.lst ha), kit_ty (by decide +kernel), _, rfl, _, _, _, _, false, rfl, .ty _, .base (.lst hb), kit_ty (by decide +kernel), rfl, _, rfl, iteF ?_⟩
  refine ⟨_, rfl, a, _, rfl, .inl (SqL.of ha), _, rfl, bb, _, rfl, .inl (SqL.of hb), rfl, _, rfl, ?_⟩
  rw [dec_int2, decide_eq_true (by omega : ((xs.length : Nat) : Int) = (ys.length : Nat))]
  refine iteT ⟨_, rfl, _, rfl, a, bb, _, _, rfl, .inl ⟨SqL.of ha, SqL.of hb, ?_⟩⟩
  refine lc_gen (bools xs.length) (by rw [bools_len]; omega) (fun i H' s lt => ?_) (fun H' s => ?_) ?_ ?_
  · rw [bools_len] at lt
    exact ⟨_, _, _, _, SqL.of (s _ _ ha), SqL.of (s _ _ hb), List.getElem?_eq_getElem (by omega), List.getElem?_eq_getElem (by omega)⟩
  · exact ⟨_, _, SqL.of (s _ _ ha), SqL.of (s _ _ hb), .inl (by rw [bools_len]; exact Nat.le_refl _)⟩
  · rintro i v y H2 H3 Cn Nn ey s2 ⟨T, u1, u2, rfl, nT, rfl, e1, e2⟩ yes
    obtain ⟨rfl, lt⟩ := bools_at ey
    have e1 := e1 _ (SqL.of (s2 _ _ ha))
    have e2 := e2 _ (SqL.of (s2 _ _ hb))
    have sT := same_new (o := .tup [u1, u2]) nT
    refine ⟨T, _, rfl, SqT.of upd_same, rfl, _, _, rfl, _, _, rfl, rfl, rfl, ?_⟩
    exact ⟨_, rfl, _, rfl, u1, u2, rfl, (al i u1 u2 e1 e2).same ((st.trans s2).trans sT), fun H4 s4 => yes H4 (sT.trans s4)⟩
  · intro H2 D nD oD s2
    rw [bools_map] at oD
    refine ⟨D, _, rfl, SqL.of oD, ?_⟩
    rw [all_true]
    exact hq _ (st.trans s2)
theorem same_tup (F : Fun K "_law_same" "_law_same" sSame f fd) (gSm : mg "_law_same" = some (.ref f)) (M : Sm mg) {n : Nat} (G : FnOk P w K mg base CX0 (n + 1) f fd ["found", "due"] (spSameF n)) : FnOk P w K mg base CX0 (n + 2) f fd ["found", "due"] (fun vs H Q _ => ∃ (a b : Addr) (xs ys : List V), vs = [.ref a, .ref b] ∧ H a = some (.tup xs) ∧ H b = some (.tup ys) ∧ xs.length = ys.length ∧ xs.length < 1000 ∧
    (∀ (i : Nat) (x y : V), xs[i]? = some x → ys[i]? = some y → AlkF H n x y) ∧ ∀ H', Same H H' → Q (.bl true) H') := by
  have b := F.binds (ps := ["found", "due"]) fun _ _ _ _ _ _ us hl => match us, hl with | [_, _], _ => rfl
  refine F.ok scSame (fun vs H Q E h => by obtain ⟨a, b, xs, ys, e, _⟩ := h; rw [e]; rfl) fun cdv A outer s H vs Q E hr hsp => ?_
  obtain ⟨a, bb, xs, ys, rfl, ha, hb, len, short, al, hq⟩ := hsp
  have nd := scSame.nd
  refine ⟨_, pss_cons (ps_if (pt_val (pe_callB (r := rIsiT K) call_isiT rfl M.nI boot_isi (pa_cons (pv 1) (pa_cons (pe_tup (pa_cons (pe_bltn (v := .ty "list") rfl M.nL boot_list' rfl) (pa_cons (pe_bltn (v := .ty "tuple") rfl M.nT boot_tuple' rfl) pa_nil))) pa_nil))))
      (pss_cons (ps_if (PW.pt (pw_or (pt_cmpR op_ne (pe_callB (r := rIsi K) call_isi rfl M.nI boot_isi (pa_cons (pv 0) (pa_cons (pe_bltn (v := .ty "list") rfl M.nL boot_list' rfl) pa_nil))) (pe_callB (r := rIsi K) call_isi rfl M.nI boot_isi (pa_cons (pv 1) (pa_cons (pe_bltn (v := .ty "list") rfl M.nL boot_list' rfl) pa_nil))) (nomark _)) (pw_or1 (pt_cmpR op_ne (pe_callB (r := rIsi K) call_isi rfl M.nI boot_isi (pa_cons (pv 0) (pa_cons (pe_bltn (v := .ty "tuple") rfl M.nT boot_tuple' rfl) pa_nil))) (pe_callB (r := rIsi K) call_isi rfl M.nI boot_isi (pa_cons (pv 1) (pa_cons (pe_bltn (v := .ty "tuple") rfl M.nT boot_tuple' rfl) pa_nil))) (nomark _))))) pss_never pss_nil)
      (pss_one (ps_ret (pe_and (pe_cmpR op_eq (pe_callB call_len_seq rfl M.nN boot_len (pa_cons (pv 0) pa_nil)) (pe_callB call_len_seq rfl M.nN boot_len (pa_cons (pv 1) pa_nil)) (nomark _))
        (pe_one (pe_callB (cr_all rfl) rfl M.nA boot_all' (pa_cons (pe_lc (own := [("x", 2), ("y", 3)]) (tt := tYes) (g := gTup K 2 (gCons (gName 2) (gCons (gName 3) gNil))) rfl nd (RZ.pi_zipA rfl M.nZ (pa_cons (pv 0) (pa_cons (pv 1) pa_nil))) (blkOk_by (N := NSm) (sc := defScope sSame) (by decide +kernel))
          (fun _ _ _ _ _ => pg_tup rfl (pgs_cons (pg_name (i := 2) nd rfl (Or.inl rfl)) (pgs_cons (pg_name (i := 3) nd rfl (Or.inl rfl)) pgs_nil))) (fun _ _ _ _ _ => pts_nil)
          (fun _ _ _ _ _ => pe_call G hr rfl gSm F.kp b .nil pass0 (pa_cons (pv 2) (pa_cons (pv 3) pa_nil)))) pa_nil))))))) pss_nil) pss_never, ?_⟩
  refine ⟨_, rfl, (by show 2 ≤ sizeLine; decide), fun t nt => ?_⟩
  have st := same_new (o := .tup [.ty "list", .ty "tuple"]) nt
  refine ⟨_, _, _, _, _, true, rfl, upd_same, .cons (.ty _) (.cons (.ty _) .nil), .base (.tup (st _ _ hb)), kit_two_t, _, rfl, iteT ?_⟩
  generalize upd H t (.tup [.ty "list", .ty "tuple"]) = H1 at st
  have ha := st _ _ ha
  have hb := st _ _ hb
  refine ⟨_, rfl, _, _, _, _, false, rfl, .ty _, .base (.tup ha), kit_ty (by decide +kernel), _, rfl, _, _, _, _, false, rfl, .ty _, .base (.tup hb), kit_ty (by decide +kernel), rfl, _, rfl, iteF ?_⟩
  refine ⟨_, rfl, _, _, _, _, true, rfl, .ty _, .base (.tup ha), kit_ty (by decide +kernel), _, rfl, _, _, _, _, true, rfl, .ty _, .base (.tup hb), kit_ty (by decide +kernel), rfl, _, rfl, iteF ?_⟩
  refine ⟨_, rfl, a, _, rfl, .inr (SqT.of ha), _, rfl, bb, _, rfl, .inr (SqT.of hb), rfl, _, rfl, ?_⟩
  rw [dec_int2, decide_eq_true (by omega : ((xs.length : Nat) : Int) = (ys.length : Nat))]
  refine iteT ⟨_, rfl, _, rfl, a, bb, _, _, rfl, .inr ⟨SqT.of ha, SqT.of hb, ?_⟩⟩
  refine lc_gen (bools xs.length) (by rw [bools_len]; omega) (fun i H' s lt => ?_) (fun H' s => ?_) ?_ ?_
  · rw [bools_len] at lt
    exact ⟨_, _, _, _, SqT.of (s _ _ ha), SqT.of (s _ _ hb), List.getElem?_eq_getElem (by omega), List.getElem?_eq_getElem (by omega)⟩
  · exact ⟨_, _, SqT.of (s _ _ ha), SqT.of (s _ _ hb), .inl (by rw [bools_len]; exact Nat.le_refl _)⟩
  · rintro i v y H2 H3 Cn Nn ey s2 ⟨T, u1, u2, rfl, nT, rfl, e1, e2⟩ yes
    obtain ⟨rfl, lt⟩ := bools_at ey
    have e1 := e1 _ (SqT.of (s2 _ _ ha))
    have e2 := e2 _ (SqT.of (s2 _ _ hb))
    have sT := same_new (o := .tup [u1, u2]) nT
    refine ⟨T, _, rfl, SqT.of upd_same, rfl, _, _, rfl, _, _, rfl, rfl, rfl, ?_⟩
    exact ⟨_, rfl, _, rfl, u1, u2, rfl, (al i u1 u2 e1 e2).same ((st.trans s2).trans sT), fun H4 s4 => yes H4 (sT.trans s4)⟩
  · intro H2 D nD oD s2
    rw [bools_map] at oD
    refine ⟨D, _, rfl, SqL.of oD, ?_⟩
    rw [all_true]
    exact hq _ (st.trans s2)
theorem ok_sameF (F : Fun K "_law_same" "_law_same" sSame f fd) (gSm : mg "_law_same" = some (.ref f)) (M : Sm mg) : ∀ n : Nat, FnOk P w K mg base CX0 (n + 1) f fd ["found", "due"] (spSameF n)
  | 0 => by
    refine ⟨fun vs H Q E h => by obtain ⟨x, y, e, _⟩ := h; rw [e]; rfl, fun A outer s H args us vs Q E hr he hb hv hs => ?_⟩
    obtain ⟨x, y, rfl, al, hq⟩ := hs
    cases al with
    | one h =>
      cases h with
      | int i => exact (same_num F M).run A outer s H args us _ Q E hr he hb hv ⟨_, rfl, .inl ⟨i, rfl⟩, hq⟩
      | bl i => exact (same_num F M).run A outer s H args us _ Q E hr he hb hv ⟨_, rfl, .inr ⟨i, rfl⟩, hq⟩
      | str z => exact (same_oth F M (x := .str z) (y := .str z) (r := rEq) (t := "str") (by decide +kernel) (by decide +kernel) (by decide +kernel) fun X _ => op_eq).run A outer s H args us _ Q E hr he hb hv ⟨rfl, .base (.str z), .base (.str z), fun H' s => ⟨rfl, by rw [decide_eq_true rfl]; exact hq _ s⟩⟩
      | non => exact (same_oth F M (x := .non) (y := .non) (r := rEq) (t := "NoneType") (by decide +kernel) (by decide +kernel) (by decide +kernel) fun X _ => op_eq).run A outer s H args us _ Q E hr he hb hv ⟨rfl, .base .non, .base .non, fun H' s => ⟨rfl, by rw [decide_eq_true rfl]; exact hq _ s⟩⟩
    | @dic a b kvs ha hb' nd at_ =>
      have all : ∀ p ∈ kvs, valV kvs p.1 = some p.2 ∧ flatB p.2 = true := fun p hp => by
        obtain ⟨i, hi⟩ := List.mem_iff_getElem?.mp hp
        exact ⟨valV_atN nd hi, flat_atom (at_ p hp)⟩
      exact (same_oth F M (x := .ref a) (y := .ref b) (r := rEqDA) (t := "dict") (by decide +kernel) (by decide +kernel) (by decide +kernel) fun X hu => op_eq_dictA (by omega)).run A outer s H args us _ Q E hr he hb hv
        ⟨rfl, .base (.dK ha), .base (.dK hb'), fun H' s => ⟨a, b, kvs, kvs, rfl, rfl, s _ _ ha, s _ _ hb', rfl, all, hq _ s⟩⟩
  | n + 1 => by
    have G := ok_sameF F gSm M n
    have GU : FnOk P w K mg base CX0 (n + 2) f fd ["found", "due"] (spSameF n) := G.mono (Nat.le_succ _)
    refine ⟨fun vs H Q E h => by obtain ⟨x, y, e, _⟩ := h; rw [e]; rfl, fun A outer s H args us vs Q E hr he hb hv hs => ?_⟩
    obtain ⟨x, y, rfl, al, hq⟩ := hs
    cases al with
    | lst ha hb' l sh al => exact (same_lst F gSm M G).run A outer s H args us _ Q E hr he hb hv ⟨_, _, _, _, rfl, ha, hb', l, sh, al, hq⟩
    | tup ha hb' l sh al => exact (same_tup F gSm M G).run A outer s H args us _ Q E hr he hb hv ⟨_, _, _, _, rfl, ha, hb', l, sh, al, hq⟩
    | up h => exact GU.run A outer s H args us _ Q E hr he hb hv ⟨_, _, rfl, h, hq⟩
end
section
variable {H : Hp}
theorem alk_one {v : V} (h : Atom v) : AlkF H 0 v v := .one h
theorem AlkF.le {n m : Nat} {x y : V} (h : AlkF H n x y) (l : n ≤ m) : AlkF H m x y := by
  induction l with
  | refl => exact h
  | step _ ih => exact .up ih
theorem alk_strs {a b : Addr} {xs : List Str} (ha : H a = some (.lst (xs.map V.str))) (hb : H b = some (.lst (xs.map V.str))) (sh : xs.length < 1000) : AlkF H 1 (.ref a) (.ref b) :=
  .lst ha hb rfl (by rw [List.length_map]; exact sh) fun i x y e1 e2 => by
    rw [List.getElem?_map] at e1 e2
    obtain ⟨s, es, rfl⟩ := Option.map_eq_some_iff.mp e1
    rw [es] at e2
    obtain rfl := Option.some.inj e2
    exact .one (.str _)
theorem alk_pair {a b : Addr} {x1 x2 y1 y2 : V} {n : Nat} (ha : H a = some (.tup [x1, x2])) (hb : H b = some (.tup [y1, y2])) (h1 : AlkF H n x1 y1) (h2 : AlkF H n x2 y2) : AlkF H (n + 1) (.ref a) (.ref b) :=
  .tup ha hb rfl (by show 2 < 1000; decide) fun i x y e1 e2 => by
    match i with
    | 0 => cases e1; cases e2; exact h1
    | 1 => cases e1; cases e2; exact h2
    | i + 2 => simp at e1
theorem alk_two {a b : Addr} {x1 x2 y1 y2 : V} {n : Nat} (ha : H a = some (.lst [x1, x2])) (hb : H b = some (.lst [y1, y2])) (h1 : AlkF H n x1 y1) (h2 : AlkF H n x2 y2) : AlkF H (n + 1) (.ref a) (.ref b) :=
  .lst ha hb rfl (by show 2 < 1000; decide) fun i x y e1 e2 => by
    match i with
    | 0 => cases e1; cases e2; exact h1
    | 1 => cases e1; cases e2; exact h2
    | i + 2 => simp at e1
end
end L2.TB
/-! things of any kind; errors raised -/
namespace L2.TB
open PySem PySem.Spec PyProof.Rows
/-- a thing that is no text -/
def NoStr (K : PySem.W.Frag) (H : Hp) (v : V) : Prop := ∃ t : String, TyX K H v (.type t) ∧ kitB t "str" = some false
/-- a thing that is neither a list nor a tuple -/
def NoSeq (K : PySem.W.Frag) (H : Hp) (v : V) : Prop := ∃ t : String, TyX K H v (.type t) ∧ kitB t "list" = some false ∧ kitB t "tuple" = some false
def strOf : V → Option Str
  | .str x => some x
  | _ => none
theorem strOf_none {v : V} (h : strOf v = none) (a : Atom v) (K : PySem.W.Frag) (H : Hp) : NoStr K H v := by
  cases a with
  | str x => cases h
  | int i => exact ⟨_, .base (.int i), by decide +kernel⟩
  | bl b => exact ⟨_, .base (.bl b), by decide +kernel⟩
  | non => exact ⟨_, .base .non, by decide +kernel⟩
theorem strOf_some {v : V} {x : Str} (h : strOf v = some x) : v = .str x := by
  cases v <;> first | (cases h; rfl) | cases h
theorem NoStr.same {K : PySem.W.Frag} {H H' : Hp} {v : V} (h : NoStr K H v) (s : Same H H') : NoStr K H' v := let ⟨t, a, b⟩ := h; ⟨t, ty_same a s, b⟩
theorem NoSeq.same {K : PySem.W.Frag} {H H' : Hp} {v : V} (h : NoSeq K H v) (s : Same H H') : NoSeq K H' v := let ⟨t, a, b⟩ := h; ⟨t, ty_same a s, b⟩
def spIsListG (K : PySem.W.Frag) : Sp := fun vs H Q _ => ∃ v : V, vs = [v] ∧ (((∃ a xs, v = .ref a ∧ SqA K H a xs) ∧ ∀ H', Same H H' → Q (.bl true) H') ∨ (NoSeq K H v ∧ ∀ H', Same H H' → Q (.bl false) H'))
structure ErrF (P : Program) (w : World) (K : PySem.W.Frag) (mg : Str → Option Value) (base : Heap) (x : Str) (C : Addr) (fld : Str) : Prop where
  g : mg x = some (.ref C)
  ex : ∃ (fI : Addr) (fd : FuncData) (y : Str), ErrC K C fI fld ∧ FnOk P w K mg base CX0 1 fI fd ["self", y] (spErr K fld) ∧ Binds K fd ["self", y] []
def tRaise (K : PySem.W.Frag) (C : Addr) (fld : Str) (te : TE) (W : WX) : TS := fun _ σ H => tMkO C (spErr K fld) [] (tCons te tNil) σ H fun cls d H' => W cls d σ H'
theorem ps_raiseE {X : Cx} {W : WX} {x fld : Str} {C : Addr} {e : Expr} {te : TE} {p pos pos2 : Pos} (hc : X.calm = true) (tk : Takes X W) (E : ErrF X.prog X.w X.K X.mg X.base x C fld) (hr : Room 2 X.A) (hg : Gl X x) (he : PE X e te)
    (hdb : (x == ("__debug__" : Str)) = false := by decide) (hs : starEach [e] X.env = (false, eval e X.env) :: starEach [] X.env := by rfl) : PS X (.Raise (some (.Call (.Name x p) [e] [] pos)) none pos2) (tRaise X.K C fld te W) := by
  obtain ⟨fI, fd, y, EC, G, b⟩ := E.ex
  exact ps_raise hc tk (pmk_err EC G b hr hg E.g he hdb hs)
theorem Flies.up {P : Program} {w : World} {K : PySem.W.Frag} {mg : Str → Option Value} {base : Heap} {x fld : Str} {C : Addr} {v : V} {H1 : Hp} {Q : XK} (E : ErrF P w K mg base x C fld) (h : Flies C fld v H1 Q) :
    [v].length ≤ 1000 ∧ ∀ a, H1 a = none → spErr K fld (.ref a :: ([v] ++ [])) (upd H1 a (exo a C none))
      (fun v H2 => v = .non ∧ ∃ (d : Addr) (fs : List (Str × V)), H2 a = some (exo a C (some d)) ∧ H2 d = some (exd d fs) ∧ H1 d = none ∧ Q (.ref C) (some d) (upd (del H2 a) d (.xd fs))) (fun _ _ _ => False) := by
  obtain ⟨fI, fd, y, EC, _⟩ := E.ex
  exact Flies.mk EC h
/-- what flies out of a locked walk finds the thing unlocked -/
theorem takes_unlock {X : Cx} {W : WX} (tk : Takes X W) {d : Addr} {u : HO} (hn : ∀ o' u', X.H_0 d ≠ some (.frz o' u')) : Takes X (fun cls dd σ H' => ∃ od, H' d = some (.frz od u) ∧ W cls dd σ (upd H' d u)) :=
  fun z s' ⟨a, B, sI, pins, σ, H, cls, dd, e, I, nb, up, sky, na, os, ag, od, hd, w⟩ => tk z s' ⟨a, B, sI, pins, σ, _, cls, dd, e, I.unlock hd hn, nb, up, sky, by rw [upd_ne (fun q => by rw [q, hd] at na; cases na)]; exact na, os, ag, w⟩
theorem Flies.unlock {P : Program} {w : World} {K : PySem.W.Frag} {mg : Str → Option Value} {base : Heap} {x fld : Str} {C d : Addr} {u : HO} {od : Obj} {v : V} {H H3 : Hp} {Q : XK} (E : ErrF P w K mg base x C fld) (h : Flies C fld v H Q) (hd : H d = some u) (s : Same (upd H d (.frz od u)) H3) :
    [v].length ≤ 1000 ∧ ∀ a, H3 a = none → spErr K fld (.ref a :: ([v] ++ [])) (upd H3 a (exo a C none))
      (fun v H2 => v = .non ∧ ∃ (d' : Addr) (fs : List (Str × V)), H2 a = some (exo a C (some d')) ∧ H2 d' = some (exd d' fs) ∧ H3 d' = none ∧ (∃ od, (upd (del H2 a) d' (.xd fs)) d = some (.frz od u) ∧ Q (.ref C) (some d') (upd (upd (del H2 a) d' (.xd fs)) d u))) (fun _ _ _ => False) := by
  obtain ⟨fI, fd, y, EC, _⟩ := E.ex
  refine mk_rs (Q := fun cls dd H' => ∃ od, H' d = some (.frz od u) ∧ Q cls dd (upd H' d u)) EC fun dd nd => ?_
  have b1 := s _ _ (upd_same (H := H) (a := d) (o := .frz od u))
  have ne : d ≠ dd := fun z => by rw [z, nd] at b1; cases b1
  have s2 : Same (upd H d (.frz od u)) (upd H3 dd (.xd [(fld, v)])) := s.trans (same_new nd)
  obtain ⟨b2, s3⟩ := lock_offN hd s2
  refine ⟨od, b2, h dd _ s3 ?_ ?_⟩
  · cases q : H dd with
    | none => rfl
    | some o =>
      have z := s _ _ (show upd H d (.frz od u) dd = some o by rw [upd_ne (Ne.symm ne)]; exact q)
      rw [nd] at z; cases z
  · rw [upd_ne (Ne.symm ne), upd_same]
def nmB (x : Str) : Bool := decide (1 ≤ x.cps.toList.length) && (decide (x.cps.toList.length ≤ 40) && x.cps.toList.all fun c => decide (c ∈ signsL))
theorem nmB_ok {x : Str} (h : NmOk x) : nmB x = true := by
  obtain ⟨h1, h2, h3⟩ := h
  unfold nmB
  rw [decide_eq_true h1, decide_eq_true h2, List.all_eq_true.mpr fun c hc => decide_eq_true (h3 c hc)]
  rfl
def spIsNameG (K : PySem.W.Frag) : Sp := fun vs H Q _ => ∃ v : V, vs = [v] ∧ ((∃ x, v = .str x ∧ x.cps.toList.length < 1000 ∧ ∀ H', Same H H' → Q (.bl (nmB x)) H') ∨ (NoStr K H v ∧ Q (.bl false) H))
/-- no whole number -/
inductive NoInt (K : PySem.W.Frag) (H : Hp) : V → Prop
  | bl (b : Bool) : NoInt K H (.bl b)
  | ty {v : V} {t : String} (h : TyX K H v (.type t)) (k : kitB t "int" = some false) : NoInt K H v
theorem NoInt.same {K : PySem.W.Frag} {H H' : Hp} {v : V} (h : NoInt K H v) (s : Same H H') : NoInt K H' v := by
  cases h with
  | bl b => exact .bl b
  | ty h k => exact .ty (ty_same h s) k
def spIsIntG (K : PySem.W.Frag) : Sp := fun vs H Q _ => ∃ v : V, vs = [v] ∧ ((∃ k, v = .int k ∧ Q (.bl true) H) ∨ (NoInt K H v ∧ Q (.bl false) H))
def spIsCountG (K : PySem.W.Frag) : Sp := fun vs H Q _ => ∃ v : V, vs = [v] ∧ ((∃ k : Int, v = .int k ∧ Q (.bl (decide (0 ≤ k))) H) ∨ (NoInt K H v ∧ Q (.bl false) H))
theorem scIsCount : FnScope ["thing"] ["thing"] (defScope sIsCount) := ⟨rfl, rfl, rfl, by decide +kernel, rfl, by decide +kernel, by decide +kernel⟩
section
variable {P : Program} {w : World} {K : PySem.W.Frag} {mg : Str → Option Value} {base : Heap} {f fI : Addr} {fd fdI : FuncData}
theorem ok_isListG (F : Fun K "is_list" "is_list" sIsList f fd) (gI : mg "isinstance" = none) (gL : mg "list" = none) (gT : mg "tuple" = none) : FnOk P w K mg base CX0 1 f fd ["thing"] (spIsListG K) := by
  refine F.ok scIsList (fun vs H Q E h => by obtain ⟨a, e, _⟩ := h; rw [e]; rfl) fun cdv A outer s H vs Q E hr hsp => ?_
  obtain ⟨v, rfl, hq⟩ := hsp
  refine ⟨_, pss_one (ps_ret (pe_callB (r := rIsiT K) call_isiT rfl gI boot_isi (pa_cons (pv 0) (pa_cons (pe_tup (pa_cons (pe_bltn (v := .ty "list") rfl gL boot_list' rfl) (pa_cons (pe_bltn (v := .ty "tuple") rfl gT boot_tuple' rfl) pa_nil))) pa_nil)))), ?_⟩
  refine ⟨_, rfl, (by show 2 ≤ sizeLine; decide), fun t nt => ?_⟩
  have kt := same_new (o := .tup [.ty "list", .ty "tuple"]) nt
  rcases hq with ⟨⟨a, xs, rfl, hS⟩, hq⟩ | ⟨hN, hq⟩
  · rcases hS.same kt with e | e
    · exact ⟨_, _, _, _, _, true, rfl, upd_same, .cons (.ty _) (.cons (.ty _) .nil), .base (.lst e), kit_two_l, hq _ kt⟩
    · exact ⟨_, _, _, _, _, true, rfl, upd_same, .cons (.ty _) (.cons (.ty _) .nil), .base (.tup e), kit_two_t, hq _ kt⟩
  · obtain ⟨ty, h1, h2, h3⟩ := hN.same kt
    exact ⟨_, _, _, _, _, false, rfl, upd_same, .cons (.ty _) (.cons (.ty _) .nil), h1, kit_two_n h2 h3, hq _ kt⟩
theorem ok_isNameG (F : Fun K "is_name" "is_name" sIsName f fd) (gI : mg "isinstance" = none) (gS : mg "str" = none) (gN : mg "len" = none) (gA : mg "all" = none) (gL : ∃ t, mg "LONGEST" = some (.int 40 t)) (gSg : ∃ t, mg "SIGNS" = some (.str (Str.ofString "abcdefghijklmnopqrstuvwxyz0123456789.") t)) :
    FnOk P w K mg base CX0 1 f fd ["thing"] (spIsNameG K) := by
  obtain ⟨tL, gL⟩ := gL
  obtain ⟨tS, gSg⟩ := gSg
  refine F.ok scIsName (fun vs H Q E h => by obtain ⟨x, e, _⟩ := h; rw [e]; rfl) fun cdv A outer s H vs Q E hr hsp => ?_
  obtain ⟨v, rfl, hq⟩ := hsp
  have nd := scIsName.nd
  refine ⟨_, pss_cons (ps_if (PW.pt (pw_or (pt_not (pt_val (pe_callB (r := rIsi K) call_isi rfl gI boot_isi (pa_cons (pv 0) (pa_cons (pe_bltn (v := .ty "str") rfl gS boot_str' rfl) pa_nil)))))
      (pw_or1 (pt_not (pt_chain op_le op_le pe_int (pe_callB call_len_str rfl gN boot_len (pa_cons (pv 0) pa_nil)) (pe_glob (v := .int 40) rfl gL ⟨_, rfl⟩)))))) (pss_one (ps_ret pe_bl)) pss_nil)
    (pss_one (ps_ret (pe_callB (cr_all rfl) rfl gA boot_all' (pa_cons (pe_lc (own := [("sign", 1)]) (tt := tYes) rfl nd (pi_str (pv 0)) (blkOk_by (N := NIn) (sc := defScope sIsName) (by decide +kernel)) (fun _ _ _ _ _ => pg_name (i := 1) nd rfl (Or.inl rfl)) (fun _ _ _ _ _ => pts_nil)
      (fun _ _ _ _ _ => pe_cmpR op_in_sign (pv 1) (pe_glob (v := .str (Str.ofString "abcdefghijklmnopqrstuvwxyz0123456789.")) rfl gSg ⟨_, rfl⟩) rfl)) pa_nil)))), ?_⟩
  rcases hq with ⟨x, rfl, short, hq⟩ | ⟨⟨t, h1, h2⟩, hq⟩
  · have lz : x.length = x.cps.toList.length := (Array.length_toList (xs := x.cps)).symm
    refine ⟨_, rfl, _, _, _, _, true, rfl, .ty _, .base (.str x), kit_ty (by decide +kernel), _, rfl, iteF ?_⟩
    refine ⟨_, rfl, x, rfl, (by rw [sizeLine_eq]; omega), _, _, rfl, rfl, _, rfl, ?_⟩
    by_cases l1 : 1 ≤ x.cps.toList.length
    · rw [decide_eq_true (by omega : (1 : Int) ≤ (x.length : Nat))]
      refine iteT ⟨_, _, rfl, rfl, _, rfl, ?_⟩
      by_cases l2 : x.cps.toList.length ≤ 40
      · rw [decide_eq_true (by omega : ((x.length : Nat) : Int) ≤ 40)]
        refine iteF ?_
        refine ⟨_, rfl, x, rfl, lc_gen ((x.cps.toList.map fun c => decide (c ∈ signsL)).map V.bl) (by rw [List.length_map, List.length_map]; omega) (fun i H' _ lt => ?_) (fun H' _ => ?_) ?_ ?_⟩
        · rw [List.length_map, List.length_map, Array.length_toList] at lt; exact lt
        · rw [List.length_map, List.length_map, Array.length_toList]; exact Nat.le_refl _
        · rintro i v y H2 H3 Cn Nn ey s2 ⟨rfl, c, ec, rfl⟩ yes
          rw [List.getElem?_map, List.getElem?_map, Array.getElem?_toList, ec] at ey
          obtain rfl := (Option.some.inj ey)
          refine ⟨rfl, ?_⟩
          exact ⟨_, rfl, c, _, rfl, rfl, yes H3 (Same.refl _)⟩
        · intro H2 D nD oD s2
          refine ⟨D, _, rfl, SqL.of oD, ?_⟩
          have e : nmB x = (x.cps.toList.map fun c => decide (c ∈ signsL)).all id := by
            unfold nmB
            rw [decide_eq_true l1, decide_eq_true l2, List.all_map]
            rfl
          rw [← e]
          exact hq H2 s2
      · rw [decide_eq_false (by omega : ¬ ((x.length : Nat) : Int) ≤ 40)]
        have z := hq _ (Same.refl _)
        have e : nmB x = false := by unfold nmB; rw [decide_eq_false l2, Bool.false_and, Bool.and_false]
        rw [e] at z
        exact iteT z
    · rw [decide_eq_false (by omega : ¬ (1 : Int) ≤ (x.length : Nat))]
      have z := hq _ (Same.refl _)
      have e : nmB x = false := by unfold nmB; rw [decide_eq_false l1, Bool.false_and]
      rw [e] at z
      exact iteF ⟨_, rfl, iteT z⟩
  · exact ⟨_, rfl, _, _, _, _, false, rfl, .ty _, h1, kit_ty h2, _, rfl, iteT (iteT hq)⟩
theorem ok_isIntG (F : Fun K "is_integer" "is_integer" sIsInt f fd) (gI : mg "isinstance" = none) (gInt : mg "int" = none) (gB : mg "bool" = none) : FnOk P w K mg base CX0 1 f fd ["thing"] (spIsIntG K) := by
  refine F.ok scIsInt (fun vs H Q E h => by obtain ⟨k, e, _⟩ := h; rw [e]; rfl) fun cdv A outer s H vs Q E hr hsp => ?_
  obtain ⟨v, rfl, hq⟩ := hsp
  refine ⟨_, pss_one (ps_ret (pe_and (pe_callB (r := rIsi K) call_isi rfl gI boot_isi (pa_cons (pv 0) (pa_cons (pe_bltn (v := .ty "int") rfl gInt boot_int' rfl) pa_nil)))
    (pe_one (pe_not (pe_callB (r := rIsi K) call_isi rfl gI boot_isi (pa_cons (pv 0) (pa_cons (pe_bltn (v := .ty "bool") rfl gB boot_bool' rfl) pa_nil))))))), ?_⟩
  rcases hq with ⟨k, rfl, hq⟩ | ⟨hn, hq⟩
  · exact ⟨_, rfl, _, _, _, _, true, rfl, .ty _, .base (.int k), kit_ty (by decide +kernel), true, rfl, iteT ⟨_, rfl, _, _, _, _, false, rfl, .ty _, .base (.int k), kit_ty (by decide +kernel), false, rfl, hq⟩⟩
  · cases hn with
    | bl b => exact ⟨_, rfl, _, _, _, _, true, rfl, .ty _, .base (.bl b), kit_ty (by decide +kernel), true, rfl, iteT ⟨_, rfl, _, _, _, _, true, rfl, .ty _, .base (.bl b), kit_ty (by decide +kernel), true, rfl, hq⟩⟩
    | ty h k => exact ⟨_, rfl, _, _, _, _, false, rfl, .ty _, h, kit_ty k, false, rfl, iteF hq⟩
theorem ok_isCountG (F : Fun K "is_count" "is_count" sIsCount f fd) (FI : Fun K "is_integer" "is_integer" sIsInt fI fdI) (gI : mg "is_integer" = some (.ref fI)) (nI : mg "isinstance" = none) (nInt : mg "int" = none) (nB : mg "bool" = none) : FnOk P w K mg base CX0 2 f fd ["thing"] (spIsCountG K) := by
  have GI : FnOk P w K mg base CX0 1 fI fdI ["thing"] (spIsIntG K) := ok_isIntG FI nI nInt nB
  have bI := FI.binds (ps := ["thing"]) fun _ _ _ _ _ _ us hl => match us, hl with | [_], _ => rfl
  refine F.ok scIsCount (fun vs H Q E h => by obtain ⟨k, e, _⟩ := h; rw [e]; rfl) fun cdv A outer s H vs Q E hr hsp => ?_
  obtain ⟨v, rfl, hq⟩ := hsp
  refine ⟨_, pss_one (ps_ret (pe_and (pe_call GI hr rfl gI FI.kp bI .nil pass0 (pa_cons (pv 0) pa_nil)) (pe_one (pe_cmpR op_ge (pv 0) pe_int (nomark _))))), ?_⟩
  rcases hq with ⟨k, rfl, hq⟩ | ⟨hn, hq⟩
  · exact ⟨_, rfl, _, rfl, .inl ⟨k, rfl, _, rfl, iteT ⟨_, rfl, _, _, rfl, rfl, hq⟩⟩⟩
  · exact ⟨_, rfl, _, rfl, .inr ⟨hn, _, rfl, iteF hq⟩⟩
end
end L2.TB
/-! comprehensions; what is reached -/
namespace L2.TB
open PySem PySem.Spec PyProof.Rows
/-- a comprehension whose turns make things anew: R tells what the thing of a turn is -/
theorem lc_made {J : It} {g : TG} {tt : TT} {te : TE} {vs : List Nat} {σ : L2.St} {H1 : Hp} {Q : Addr → Hp → Prop} (n : Nat) (short : n < 1000000) (go : ∀ i H, Same H1 H → i < n → J.go i H) (stop : ∀ H, Same H1 H → J.stop n H) (R : Nat → V → Hp → Prop)
    (stays : ∀ i y H H' D l, R i y H → H D = some (.lst l) → (∀ b o, b ≠ D → H b = some o → H' b = some o) → R i y H')
    (turn : ∀ (i : Nat) (x : V) (H H' : Hp) (C : V → Hp → Prop) (N : Hp → Prop), i < n → Same H1 H → J.yld i H x H' → (∀ y H4, R i y H4 → Same H H4 → C y H4) → g x (wipe σ vs) H' fun σ2 H2 => wipe σ2 vs = wipe σ vs ∧ tt σ2 H2 fun b H3 => if b = true then te σ2 H3 C else N H3)
    (fin : ∀ H D ys, H1 D = none → H D = some (.lst ys) → ys.length = n → (∀ j y, ys[j]? = some y → R j y H) → Same H1 H → Q D H) : LcW J g tt te vs σ H1 Q := by
  intro D nD
  refine ⟨fun i m H => m = n - i ∧ i ≤ n ∧ ∃ ys : List V, H D = some (.lst ys) ∧ ys.length = i ∧ (∀ j y, ys[j]? = some y → R j y H) ∧ Same H1 H, ⟨_, rfl, Nat.zero_le _, [], upd_same, rfl, (fun j y e => by cases e), same_new nD⟩, ?_⟩
  rintro i m H ⟨rfl, le, ys, oD, ly, ry, s1⟩
  by_cases lt : i < n
  · refine .inr ⟨go i H s1 lt, fun H' => ∃ ys : List V, H' D = some (.lst ys) ∧ ys.length = i + 1 ∧ (∀ j y, ys[j]? = some y → R j y H') ∧ Same H1 H', fun H' h => ⟨n - (i + 1), by omega, rfl, lt, h⟩, fun x H' yl => ?_⟩
    refine turn i x H H' _ _ lt s1 yl fun y H4 ry4 s4 => ⟨_, s4 _ _ oD, by rw [sizeLine_eq]; omega, ys ++ [y], upd_same, by simp [ly], fun j z ej => ?_, ?_⟩
    · have keep : ∀ b o, b ≠ D → H4 b = some o → upd H4 D (.lst (ys ++ [y])) b = some o := fun b o nb e => by rw [upd_ne nb]; exact e
      rcases Nat.lt_or_ge j ys.length with h | h
      · rw [List.getElem?_append_left h] at ej
        exact stays _ _ _ _ D _ (stays j z H H4 D _ (ry j z ej) oD fun b o _ e => s4 _ _ e) (s4 _ _ oD) keep
      · rw [List.getElem?_append_right h] at ej
        have e0 : j - ys.length = 0 := by
          have := (List.getElem?_eq_some_iff.mp ej).1
          simp at this
          omega
        rw [e0] at ej
        obtain rfl : y = z := Option.some.inj ej
        have ji : j = i := by omega
        subst ji
        exact stays _ _ _ _ D _ ry4 (s4 _ _ oD) keep
    · intro b u e
      rw [upd_ne (ne_of_none e nD)]
      exact s4 _ _ (s1 _ _ e)
  · obtain rfl : i = n := by omega
    exact .inl ⟨stop H s1, fin H D ys nD oD ly ry s1⟩
/-- from the things made to their addresses -/
theorem addrs_of {H : Hp} {P : Nat → Addr → Prop} : ∀ (ys : List V) (k : Nat), (∀ j y, ys[j]? = some y → ∃ t, y = V.ref t ∧ P (k + j) t) → ∃ as : List Addr, ys = as.map V.ref ∧ ∀ j a, as[j]? = some a → P (k + j) a
  | [], k, _ => ⟨[], rfl, fun j a e => by cases e⟩
  | y :: ys, k, h => by
    obtain ⟨t, rfl, pt⟩ := h 0 y rfl
    obtain ⟨as, e, pa⟩ := addrs_of (H := H) (P := P) ys (k + 1) fun j z ez => by
      have := h (j + 1) z ez
      rw [show k + 1 + j = k + (j + 1) from by omega]
      exact this
    refine ⟨t :: as, by rw [e]; rfl, fun j a ea => ?_⟩
    cases j with
    | zero => obtain rfl : t = a := Option.some.inj ea; exact pt
    | succ j =>
      have := pa j a ea
      rw [show k + (j + 1) = k + 1 + j from by omega]
      exact this
theorem lc_genON {J : It} {g : TG} {tt : TT} {te : TE} {vs : List Nat} {σ : L2.St} {H1 : Hp} {Q : Addr → Hp → Prop} (ys : List (Option V)) (short : ys.length < 1000000) (go : ∀ i H, Same H1 H → i < ys.length → J.go i H) (stop : ∀ H, Same H1 H → J.stop ys.length H)
    (turn : ∀ (i : Nat) (x : V) (o : Option V) (H H' : Hp) (C : V → Hp → Prop) (N : Hp → Prop), ys[i]? = some o → Same H1 H → J.yld i H x H' → (∀ y, o = some y → ∀ H4, Same H H4 → C y H4) → (o = none → ∀ H4, Same H H4 → N H4) →
      g x (wipe σ vs) H' fun σ2 H2 => wipe σ2 vs = wipe σ vs ∧ tt σ2 H2 fun b H3 => if b = true then te σ2 H3 C else N H3)
    (fin : ∀ H D, H1 D = none → H D = some (.lst (ys.filterMap id)) → Same H1 H → Q D H) : LcW J g tt te vs σ H1 Q := by
  intro D nD
  refine ⟨fun i m H => m = ys.length - i ∧ i ≤ ys.length ∧ H D = some (.lst ((ys.take i).filterMap id)) ∧ Same H1 H, ⟨_, rfl, Nat.zero_le _, upd_same, same_new nD⟩, ?_⟩
  rintro i m H ⟨rfl, le, oD, s1⟩
  by_cases lt : i < ys.length
  · refine .inr ⟨go i H s1 lt, fun H' => H' D = some (.lst ((ys.take (i + 1)).filterMap id)) ∧ Same H1 H', fun H' h => ⟨ys.length - (i + 1), by omega, rfl, lt, h⟩, fun x H' yl => ?_⟩
    have ey : ys[i]? = some ys[i] := List.getElem?_eq_getElem lt
    have et : ys.take (i + 1) = ys.take i ++ [ys[i]] := by rw [List.take_succ, ey]; rfl
    refine turn i x ys[i] H H' _ _ ey s1 yl (fun y e H4 s4 => ⟨_, s4 _ _ oD, ?_, ?_, ?_⟩) fun e H4 s4 => ⟨?_, s1.trans s4⟩
    · rw [sizeLine_eq]
      have := List.length_filterMap_le id (ys.take i)
      rw [List.length_take] at this
      omega
    · rw [upd_same, et, List.filterMap_append, e]; rfl
    · intro b u e'
      rw [upd_ne (ne_of_none e' nD)]
      exact s4 _ _ (s1 _ _ e')
    · rw [et, List.filterMap_append, e]
      simpa using s4 _ _ oD
  · obtain rfl : i = ys.length := by omega
    rw [List.take_length] at oD
    exact .inl ⟨stop H s1, fin H D nD oD s1⟩
theorem opt_listN {α : Type} (f : α → Bool) (g : α → V) : ∀ l : List α, (l.map fun y => if f y = true then some (g y) else none).filterMap id = (l.filter f).map g
  | [] => rfl
  | a :: l => by
    have ih := opt_listN f g l
    rw [List.map_cons, List.filter_cons]
    by_cases h : f a = true
    · rw [if_pos h, if_pos h, List.map_cons, ← ih]; rfl
    · rw [if_neg h, if_neg h, ← ih]; rfl
theorem cut_one (xs : List V) : cutV xs none (some 1) = xs.take 1 := by
  have e1 : HT.sIx xs.length 0 none = 0 := rfl
  have e2 : HT.sIx xs.length xs.length (some 1) = min 1 xs.length := by
    unfold HT.sIx
    simp only []
    rw [if_neg (show ¬ (1 : Int) < 0 by omega)]
    omega
  unfold cutV
  rw [e1, e2]
  simp only [List.drop_zero, Nat.sub_zero]
  by_cases h : 1 ≤ xs.length
  · rw [Nat.min_eq_left h]
  · rw [Nat.min_eq_right (by omega), List.take_length, List.take_of_length_le (by omega)]
theorem cut_toN (xs : List V) (r : Int) (h0 : 0 ≤ r) (h1 : r < xs.length + 1) : cutV xs none (some r) = xs.take r.toNat := by
  have e2 : HT.sIx xs.length xs.length (some r) = r.toNat := by
    unfold HT.sIx
    simp only []
    rw [if_neg (show ¬ r < 0 by omega)]; omega
  unfold cutV
  rw [show HT.sIx xs.length 0 none = 0 from rfl, e2]; simp
theorem val_atD {α : Type} [PyD α] {A : Addr → Prop} {H : Hp} {es : List (Key × V)} {l : List (Str × α)} (h : Paired (DcE A H) es l) {n : Str} {a : α} (e : lk l n = some a) : ∃ v, valV es (Sum.inr n) = some v ∧ PyD.at_ A H v a := by
  rcases val_lk h n with ⟨_, h2⟩ | ⟨v, a', h1, h2, h3⟩
  · rw [e] at h2; cases h2
  · rw [e] at h2
    obtain rfl := Option.some.inj h2
    exact ⟨v, h1, h3⟩
theorem lk_in {α : Type} {l : List (Str × α)} {n : Str} (h : n ∈ l.map (·.1)) : ∃ a, lk l n = some a ∧ (n, a) ∈ l := by
  induction l with
  | nil => cases h
  | cons e l ih =>
    rw [lk_cons]
    by_cases c : e.1 = n
    · rw [if_pos c]
      exact ⟨e.2, rfl, by rw [← c]; exact List.mem_cons_self⟩
    · rw [if_neg c]
      rw [List.map_cons, List.mem_cons] at h
      obtain ⟨a, h1, h2⟩ := ih (h.resolve_left fun z => c z.symm)
      exact ⟨a, h1, List.mem_cons_of_mem _ h2⟩
theorem lk_get {α : Type} {l : List (Str × α)} {n : Str} {a : α} (h : lk l n = some a) : (n, a) ∈ l := by
  induction l with
  | nil => cases h
  | cons e l ih =>
    rw [lk_cons] at h
    by_cases c : e.1 = n
    · rw [if_pos c] at h
      rw [← c, ← Option.some.inj h]
      exact List.mem_cons_self
    · rw [if_neg c] at h
      exact List.mem_cons_of_mem _ (ih h)
theorem SqA.kp {K : PySem.W.Frag} {H H' : Hp} {a : Addr} {xs : List V} (h : SqA K H a xs) (k : ∀ o, H a = some o → H' a = some o) : SqA K H' a xs := h.imp (fun h => k _ h) (fun h => k _ h)
theorem nd_inr {l : List Str} (h : l.Nodup) : (l.map (Sum.inr : Str → Key)).Nodup := List.Pairwise.map Sum.inr (fun a b n e => n (Sum.inr.inj e)) h
theorem keys_L {A : Addr → Prop} {H : Hp} {α : Type} [PyD α] {es : List (Key × V)} {l : List (Str × α)} (h : Paired (DcE A H) es l) : (es.map fun kv => kV kv.1) = (l.map (·.1)).map V.str := by
  have z2 := congrArg (List.map kV) (dc_keys h)
  rw [List.map_map, List.map_map] at z2
  exact z2
theorem strm_kept {H H' : Hp} {l ls g : Addr} {N : Int} (h : Strm H l ls N) (gl : g ≠ l) (gs : g ≠ ls) (s : ∀ b o, b ≠ g → H b = some o → H' b = some o) : Strm H' l ls N := by
  obtain ⟨cs, x, k, m, S⟩ := h
  exact ⟨cs, x, k, m, s _ _ (Ne.symm gl) S.o, s _ _ (Ne.symm gs) S.c, S.ne, S.g0, S.k0, S.k1, S.m0, S.m1, S.sz⟩
/-! what is reached -/
abbrev ArT : Type := Str × Str
abbrev NtT : Type := List (Str × ArT)
inductive Reach (E : List ArT) (a : Str) : Str → Prop
  | base : Reach E a a
  | step {x y : Str} : Reach E a x → (x, y) ∈ E → Reach E a y
theorem reach_in {E : List ArT} {a : Str} {S : List Str} (b : a ∈ S) (c : ∀ e ∈ E, e.1 ∈ S → e.2 ∈ S) {x : Str} (h : Reach E a x) : x ∈ S := by
  induction h with
  | base => exact b
  | step _ m ih => exact c _ m ih
theorem reach_trans {E : List ArT} {a b c : Str} (h : Reach E a b) (h2 : Reach E b c) : Reach E a c := by
  induction h2 with
  | base => exact h
  | step _ m ih => exact .step ih m
theorem nd_sub_len : ∀ {l l' : List Str}, l.Nodup → (∀ x ∈ l, x ∈ l') → l.length ≤ l'.length
  | [], _, _, _ => Nat.zero_le _
  | a :: l, l', nd, s => by
    rw [List.nodup_cons] at nd
    have m := s a List.mem_cons_self
    have ih := nd_sub_len (l := l) (l' := l'.erase a) nd.2 fun x hx => (List.mem_erase_of_ne fun z => nd.1 (by rw [← z]; exact hx)).mpr (s x (List.mem_cons_of_mem _ hx))
    rw [List.length_erase_of_mem m] at ih
    have p := List.length_pos_of_mem m
    rw [List.length_cons]
    omega
end L2.TB
/-! onward, reached -/
namespace L2.TB
open PySem PySem.Spec PyProof.Rows
/-- a step: the arc, one way, its start, its end -/
def StepAt (H : Hp) (t : Addr) (e : Str × ArT) : Prop := H t = some (.tup [.str e.1, .int 1, .str e.2.1, .str e.2.2])
def spOnw : Sp := fun vs H Q _ => ∃ (D : Addr) (arcs : NtT) (A : Addr → Prop), vs = [.ref D, .ref D] ∧ PyD.at_ A H (.ref D) (Dc.mk arcs) ∧ arcs.length < 1000 ∧ ∀ H' q ts, H q = none → H' q = some (.lst (ts.map V.ref)) → Paired (StepAt H') ts arcs → Same H H' → Q (.ref q) H'
abbrev NOw : List Str := ["arcs", "names", "name"]
theorem scOnw : FnScope NOw ["arcs", "names"] (defScope sOnward) := ⟨rfl, rfl, rfl, by decide +kernel, rfl, by decide +kernel, by decide +kernel⟩
def spReached : Sp := fun vs H Q _ => ∃ (st : Addr) (b : Str) (ts : List Addr) (arcs : NtT), vs = [.ref st, .str b] ∧ H st = some (.lst (ts.map V.ref)) ∧ Paired (StepAt H) ts arcs ∧ arcs.length < 1000 ∧
  ∀ H' D es (S : List Str), H D = none → H' D = some (.dK es) → es.map (·.1) = S.map Sum.inr → S.Nodup → (∀ n, n ∈ S ↔ Reach (arcs.map (·.2)) b n) → Same H H' → Q (.ref D) H'
abbrev NRe : List Str := ["steps", "begin", "found", "todo", "at", "step"]
theorem scReached : FnScope NRe ["steps", "begin"] (defScope sReached) := ⟨rfl, rfl, rfl, by decide +kernel, rfl, by decide +kernel, by decide +kernel⟩
section
variable {P : Program} {w : World} {K : PySem.W.Frag} {mg : Str → Option Value} {base : Heap} {f : Addr} {fd : FuncData}
theorem ok_onw (F : Fun K "onward" "onward" sOnward f fd) : FnOk P w K mg base CX0 1 f fd ["arcs", "names"] spOnw := by
  refine F.ok scOnw (fun vs H Q E h => by obtain ⟨D, arcs, A, e, _⟩ := h; rw [e]; rfl) fun cdv A outer s H vs Q E hr hsp => ?_
  obtain ⟨D, arcs, A0, rfl, at_, sh, hq⟩ := hsp
  have nd := scOnw.nd
  have hu := hu_of hr
  refine ⟨_, pss_one (ps_ret (pe_lock (pe_lc (own := [("name", 2)]) (tt := tYes) (g := gName 2) (te := tTup (tCons (tVar 2) (tCons (tC (.int 1)) (tCons (tOp (rIx K) (tDGet (tVar 0) (tVar 2)) (tC (.int 0))) (tCons (tOp (rIx K) (tDGet (tVar 0) (tVar 2)) (tC (.int 1))) tNil))))) rfl nd (pi_keys (pv 1)) (blkOk_by (N := NOw) (sc := defScope sOnward) (by decide +kernel)) (fun _ _ _ _ _ => pg_name (i := 2) nd rfl (Or.inl rfl)) (fun _ _ _ _ _ => pts_nil)
    (fun _ _ _ _ _ => pe_tup (pa_cons (pv 2) (pa_cons pe_int (pa_cons (pe_ix (r := rIx K) ix_seq (pe_dget hu (pv 0) (pv 2) (fun _ _ => rfl)) pe_int (fun _ _ => rfl)) (pa_cons (pe_ix (r := rIx K) ix_seq (pe_dget hu (pv 0) (pv 2) (fun _ _ => rfl)) pe_int (fun _ _ => rfl)) pa_nil)))))))), ?_⟩
  obtain ⟨D', es, e1, aD, oD, rnd, pr⟩ := at_
  obtain rfl := V.ref.inj e1
  have les : es.length = arcs.length := Paired.length pr
  have ndes : (es.map (·.1)).Nodup := by rw [dc_keys pr]; exact nd_inr rnd
  refine ⟨D, _, oD, trivial, fun od => ⟨_, rfl, D, od, rfl, .inl ⟨es, upd_same, ?_⟩⟩⟩
  have oL : upd H D (.frz od (.dK es)) D = some (.frz od (.dK es)) := upd_same
  refine lc_made arcs.length (by omega) (fun i H' s lt => ⟨s _ _ oL, by rw [les]; exact lt⟩) (fun H' s => ⟨s _ _ oL, by rw [les]; exact Nat.le_refl _⟩)
    (fun i y H' => ∃ t e, y = .ref t ∧ arcs[i]? = some e ∧ StepAt H' t e) (fun i y H1 H2 C l ⟨t, e, ey, ea, st⟩ hC keep => ⟨t, e, ey, ea, keep _ _ (fun z => by unfold StepAt at st; rw [z, hC] at st; cases st) st⟩) ?_ ?_
  · rintro i y H2 H3 Cn Nn lt s2 ⟨rfl, k0, v0, ekv, rfl⟩ yes
    obtain ⟨e, ee, hk, t0, x, z, hv, ap, op, hx, hz⟩ := paired_get pr ekv
    have hk : k0 = Sum.inr e.1 := hk
    have hv : v0 = .ref t0 := hv
    have hx : x = .str e.2.1 := hx
    have hz : z = .str e.2.2 := hz
    subst hk hv hx hz
    have tD : t0 ≠ D := fun z => by rw [z, oD] at op; cases op
    have op3 := s2 _ _ (show upd H D (.frz od (.dK es)) t0 = _ by rw [upd_ne tD]; exact op)
    have dg : DGet H3 D (.str e.1) (some (.ref t0)) := .inl ⟨es, Sum.inr e.1, .inr ⟨od, s2 _ _ oL⟩, rfl, (valV_atN ndes ekv).symm⟩
    refine ⟨rfl, ?_⟩
    refine ⟨_, rfl, _, rfl, _, rfl, D, _, rfl, dg, .inr (.inl ⟨t0, _, _, _, rfl, rfl, SqT.of op3, rfl, ?_⟩)⟩
    refine ⟨_, rfl, _, rfl, D, _, rfl, dg, .inr (.inl ⟨t0, _, _, _, rfl, rfl, SqT.of op3, rfl, ?_⟩)⟩
    refine ⟨(by show 4 ≤ sizeLine; decide), fun t nt => yes _ _ ⟨t, e, rfl, ee, upd_same⟩ (same_new nt)⟩
  · intro H2 q ys nq oq ly ry s2
    obtain ⟨b1, s12⟩ := lock_offN oD s2
    obtain ⟨ts, rfl, pt⟩ := addrs_of (H := H2) (P := fun i t => ∃ e, arcs[i]? = some e ∧ StepAt H2 t e) ys 0 fun j y ey => by
      obtain ⟨t, e, rfl, h1, h2⟩ := ry j y ey
      exact ⟨t, rfl, e, by rw [Nat.zero_add]; exact h1, h2⟩
    have qD : q ≠ D := fun z => by rw [z, upd_same] at nq; cases nq
    rw [List.length_map] at ly
    refine ⟨b1, hq _ q ts (by rw [upd_ne qD] at nq; exact nq) (by rw [upd_ne qD]; exact oq) (paired_of _ _ ly fun i t e et ee => ?_) s12⟩
    obtain ⟨e', ee', st⟩ := pt i t et
    rw [Nat.zero_add, ee] at ee'
    obtain rfl := Option.some.inj ee'
    have tD : t ≠ D := fun z => by unfold StepAt at st; rw [z, b1] at st; cases st
    unfold StepAt
    rw [upd_ne tD]
    exact st
/-- what stands while it is gone on: the place, what has been met -/
structure RI (E : List ArT) (b : Str) (i : Nat) (S : List Str) : Prop where
  nd : S.Nodup
  b0 : b ∈ S
  r : ∀ n ∈ S, Reach E b n
  le : i ≤ S.length
  c : ∀ (j : Nat) (n : Str), j < i → S[j]? = some n → ∀ e ∈ E, e.1 = n → e.2 ∈ S
  sub : ∀ n ∈ S, n = b ∨ n ∈ E.map (·.2)
theorem RI.short {E : List ArT} {b : Str} {i : Nat} {S : List Str} (h : RI E b i S) : S.length ≤ E.length + 1 := by
  have z := nd_sub_len (l' := b :: E.map (·.2)) h.nd fun x hx => by
    rcases h.sub x hx with e | e
    · rw [e]; exact List.mem_cons_self
    · exact List.mem_cons_of_mem _ e
  rw [List.length_cons, List.length_map] at z
  exact z
theorem RI.add {E : List ArT} {b : Str} {i : Nat} {S : List Str} (h : RI E b i S) {e : ArT} (he : e ∈ E) (h1 : e.1 ∈ S) (h2 : e.2 ∉ S) : RI E b i (S ++ [e.2]) := by
  refine ⟨List.nodup_append.mpr ⟨h.nd, by simp, fun x hx y hy z => h2 (by rw [List.mem_singleton.mp hy] at z; rw [← z]; exact hx)⟩, List.mem_append_left _ h.b0, fun n hn => ?_, by rw [List.length_append]; have := h.le; omega, fun j n lt en e' he' e1 => ?_, fun n hn => ?_⟩
  · rcases List.mem_append.mp hn with z | z
    · exact h.r n z
    · rw [List.mem_singleton.mp z]; exact .step (h.r _ h1) he
  · have lj : j < S.length := Nat.lt_of_lt_of_le lt h.le
    rw [List.getElem?_append_left lj] at en
    exact List.mem_append_left _ (h.c j n lt en e' he' e1)
  · rcases List.mem_append.mp hn with z | z
    · exact h.sub n z
    · rw [List.mem_singleton.mp z]; exact .inr (List.mem_map_of_mem he)
theorem val_inS : ∀ {es : List (Key × V)} {S : List Str}, es.map (·.1) = S.map Sum.inr → ∀ x : Str, (x ∈ S → ∃ v, valV es (Sum.inr x) = some v) ∧ (x ∉ S → valV es (Sum.inr x) = none)
  | [], [], _, x => ⟨fun h => by (cases h), fun _ => rfl⟩
  | [], _ :: _, h, _ => by (cases h)
  | _ :: _, [], h, _ => by (cases h)
  | e :: es, n :: S, h, x => by
    obtain ⟨h1, h2⟩ := List.cons.inj h
    have h1 : e.1 = Sum.inr n := h1
    have ih := val_inS (es := es) (S := S) h2 x
    by_cases c : n = x
    · refine ⟨fun _ => ⟨e.2, valV_pos (by rw [h1, c])⟩, fun z => absurd (by rw [c]; exact List.mem_cons_self) z⟩
    · rw [valV_neg (by rw [h1]; exact fun z => c (Sum.inr.inj z))]
      exact ⟨fun z => ih.1 ((List.mem_cons.mp z).resolve_left fun y => c y.symm), fun z => ih.2 fun y => z (List.mem_cons_of_mem _ y)⟩
theorem ok_reached (F : Fun K "reached" "reached" sReached f fd) (nN : mg "len" = none) : FnOk P w K mg base CX0 1 f fd ["steps", "begin"] spReached := by
  refine F.ok scReached (fun vs H Q E h => by obtain ⟨st, b, ts, arcs, e, _⟩ := h; rw [e]; rfl) fun cdv A outer s H vs Q E hr hsp => ?_
  obtain ⟨st, b, ts, arcs, rfl, ost, pst, sh, hq⟩ := hsp
  have nd := scReached.nd
  have hu := hu_of hr
  refine ⟨_, pss_cons (ps_set (i := 2) nd rfl (Or.inl rfl) (pe_disp (pps_cons (pv 1) pe_non pps_nil) rfl rfl (by decide) (by decide)))
    (pss_cons (ps_set (i := 3) nd rfl (Or.inl rfl) (pe_lst (pa_cons (pv 1) pa_nil)))
    (pss_cons (ps_set (i := 4) nd rfl (Or.inl rfl) pe_int)
    (pss_cons (ps_while PassesOwn.never (pt_cmpR op_lt (pv 4) (pe_callB call_len rfl nN boot_len (pa_cons (pv 3) pa_nil)) (nomark _))
      (pss_cons (ps_for PassesOwn.never rfl (pi_list (pv 0)) (pg_name (i := 5) nd rfl (Or.inl rfl))
        (pss_one (ps_if (PW.pt (pw_and (pt_cmpR op_eq (pe_ix (r := rIx K) ix_seq (pv 5) pe_int (fun _ _ => rfl)) (pe_ix (r := rIxL K) ix_list (pv 3) (pv 4) (fun _ _ => rfl)) (nomark _)) (pw_and1 (pt_cmp (pc_dnotin hu (pe_ix (r := rIx K) ix_seq (pv 5) pe_int (fun _ _ => rfl)) (pv 2))))))
          (pss_cons (ps_dput hu (pv 2) (pe_ix (r := rIx K) ix_seq (pv 5) pe_int (fun _ _ => rfl)) (pv 5) rfl)
          (pss_one (ps_expr (pe_bm PySem.F.plainAttrs_list PySem.F.slot_list_append PySem.F.type_list_append mt_append (pv 3) (pa_cons (pe_ix (r := rIx K) ix_seq (pv 5) pe_int (fun _ _ => rfl)) pa_nil))))) pss_nil)))
      (pss_one (ps_aug (i := 4) nd rfl (Or.inl rfl) pe_int ip_add))))
    (pss_one (ps_ret (pv 2)))))), ?_⟩
  refine fun FD nFD => ?_
  have kF := same_new (o := .dK []) nFD
  refine ⟨_, rfl, upd_same, [(Sum.inr b, .non)], rfl, (by show 1 ≤ 15; decide), ?_⟩
  have k1 : Same H (upd (upd H FD (.dK [])) FD (.dK (mergeK [] [((Sum.inr b : Key), V.non)]))) := same_upd2 nFD
  have oF : upd (upd H FD (.dK [])) FD (.dK (mergeK [] [((Sum.inr b : Key), V.non)])) FD = some (.dK [(Sum.inr b, .non)]) := upd_same
  generalize upd (upd H FD (.dK [])) FD (.dK (mergeK [] [((Sum.inr b : Key), V.non)])) = H1 at k1 oF
  refine ⟨_, rfl, (by show 1 ≤ sizeLine; decide), fun TD nTD => ?_⟩
  have k2 := same_new (o := .lst [.str b]) nTD
  have oT : upd H1 TD (.lst [.str b]) TD = some (.lst ([b].map V.str)) := upd_same
  have TF : TD ≠ FD := fun z => by rw [z, oF] at nTD; cases nTD
  have oF2 := k2 _ _ oF
  have k02 := k1.trans k2
  have nTD0 := k1.free nTD
  generalize upd H1 TD (.lst [.str b]) = H2 at k2 oT oF2 k02
  have lE : (arcs.map (·.2)).length = arcs.length := List.length_map _
  refine ⟨fun m σ Hc => ∃ (i : Nat) (S : List Str) (es : List (Key × V)) (s5 : Option V), σ = [some (.ref st), some (.str b), some (.ref FD), some (.ref TD), some (.int i), s5] ∧ Hc FD = some (.dK es) ∧ es.map (·.1) = S.map Sum.inr ∧ Hc TD = some (.lst (S.map V.str)) ∧ RI (arcs.map (·.2)) b i S ∧ Same H Hc ∧ m = arcs.length + 1 - i,
    ⟨_, 0, [b], [(Sum.inr b, .non)], none, rfl, oF2, rfl, oT, ⟨by simp, by simp, fun n hn => by rw [List.mem_singleton.mp hn]; exact .base, Nat.zero_le _, fun j n lt => absurd lt (Nat.not_lt_zero _), fun n hn => .inl (List.mem_singleton.mp hn)⟩, k02, rfl⟩, ?_⟩
  rintro m σ Hc ⟨i, S, es, s5, rfl, oFc, ek, oTc, R, kc, rfl⟩
  have shS := R.short
  rw [lE] at shS
  refine ⟨_, rfl, _, rfl, .ref TD, S.length, rfl, .inl ⟨_, SqL.of oTc, by rw [List.length_map]⟩, _, _, rfl, rfl, _, rfl, ?_⟩
  by_cases more : i < S.length
  case neg =>
    rw [decide_eq_false (by omega : ¬ ((i : Nat) : Int) < ((S.length : Nat) : Int))]
    have ei : i = S.length := by have := R.le; omega
    refine iteF ⟨_, rfl, hq Hc FD es S nFD oFc ek R.nd (fun n => ⟨R.r n, fun h => reach_in R.b0 (fun e he h1 => ?_) h⟩) kc⟩
    obtain ⟨j, hj⟩ := List.getElem?_of_mem h1
    exact R.c j e.1 (by rw [ei]; exact (List.getElem?_eq_some_iff.mp hj).1) hj e he rfl
  rw [decide_eq_true (by omega : ((i : Nat) : Int) < ((S.length : Nat) : Int))]
  refine iteT ⟨fun σ' H' => ∃ m', m' < arcs.length + 1 - i ∧ ∃ (i : Nat) (S : List Str) (es : List (Key × V)) (s5 : Option V), σ' = [some (.ref st), some (.str b), some (.ref FD), some (.ref TD), some (.int i), s5] ∧ H' FD = some (.dK es) ∧ es.map (·.1) = S.map Sum.inr ∧ H' TD = some (.lst (S.map V.str)) ∧ RI (arcs.map (·.2)) b i S ∧ Same H H' ∧ m' = arcs.length + 1 - i, fun σ' H' h => h, ?_⟩
  obtain ⟨n, en⟩ : ∃ n, S[i]? = some n := ⟨_, List.getElem?_eq_getElem more⟩
  have lts : ts.length = arcs.length := Paired.length pst
  refine ⟨_, rfl, st, rfl, ⟨_, SqL.of (kc _ _ ost)⟩, for_list (xs := ts.map V.ref) (fun j σ H' => ∃ (S' : List Str) (es' : List (Key × V)) (s5 : Option V), σ = [some (.ref st), some (.str b), some (.ref FD), some (.ref TD), some (.int i), s5] ∧ H' FD = some (.dK es') ∧ es'.map (·.1) = S'.map Sum.inr ∧ H' TD = some (.lst (S'.map V.str)) ∧ RI (arcs.map (·.2)) b i S' ∧ S'[i]? = some n ∧ (∀ e ∈ arcs.take j, e.2.1 = n → e.2.2 ∈ S') ∧ Same H H')
    ⟨S, es, s5, rfl, oFc, ek, oTc, R, en, fun e he => by rw [List.take_zero] at he; (cases he), kc⟩ (fun j σ H' _ h => by obtain ⟨_, _, _, _, _, _, _, _, _, _, k⟩ := h; exact SqL.of (k _ _ ost)) ?_ ?_⟩
  · rintro j x σ H3 ex ⟨S', es', s5, rfl, oF3, ek3, oT3, R3, en3, c3, k3⟩
    rw [List.getElem?_map] at ex
    obtain ⟨t, et, rfl⟩ := Option.map_eq_some_iff.mp ex
    obtain ⟨e, ee, ot⟩ := paired_get pst et
    have ot3 := k3 _ _ ot
    have ein : e.2 ∈ arcs.map (·.2) := List.mem_map_of_mem (List.mem_of_getElem? ee)
    have tk : arcs.take (j + 1) = arcs.take j ++ [e] := by rw [List.take_succ, ee]; rfl
    have sh3 := R3.short
    rw [lE] at sh3
    have les3 : es'.length = S'.length := by
      have z := congrArg List.length ek3
      rwa [List.length_map, List.length_map] at z
    refine ⟨_, rfl, .inr (.inl ⟨t, _, _, _, rfl, rfl, SqT.of ot3, rfl, ?_⟩)⟩
    refine ⟨_, rfl, _, rfl, TD, _, (i : Nat), .str n, rfl, rfl, SqL.of oT3, atI_nat (by rw [List.getElem?_map, en3]; rfl), rfl, _, rfl, ?_⟩
    have ed : decide (V.str e.2.1 = V.str n) = decide (e.2.1 = n) := decide_eq_decide.mpr ⟨fun h => V.str.inj h, fun h => congrArg V.str h⟩
    rw [ed]
    by_cases c : e.2.1 = n
    case neg =>
      rw [decide_eq_false c]
      refine iteF (iteF ⟨S', es', _, rfl, oF3, ek3, oT3, R3, en3, fun e' he' h1 => ?_, k3⟩)
      rw [tk] at he'
      rcases List.mem_append.mp he' with z | z
      · exact c3 e' z h1
      · rw [List.mem_singleton.mp z] at h1; exact absurd h1 c
    rw [decide_eq_true c]
    refine iteT ?_
    refine ⟨_, rfl, .inr (.inl ⟨t, _, _, _, rfl, rfl, SqT.of ot3, rfl, ?_⟩)⟩
    refine ⟨_, rfl, FD, _, rfl, DGet.k (k := Sum.inr e.2.2) oF3, ?_⟩
    by_cases mem : e.2.2 ∈ S'
    · obtain ⟨v, ev⟩ := (val_inS ek3 e.2.2).1 mem
      rw [ev]
      refine ⟨_, rfl, iteF ⟨S', es', _, rfl, oF3, ek3, oT3, R3, en3, fun e' he' h1 => ?_, k3⟩⟩
      rw [tk] at he'
      rcases List.mem_append.mp he' with z | z
      · exact c3 e' z h1
      · rw [List.mem_singleton.mp z]; exact mem
    · rw [(val_inS ek3 e.2.2).2 mem]
      refine ⟨_, rfl, iteT ?_⟩
      refine ⟨_, rfl, _, rfl, _, rfl, .inr (.inl ⟨t, _, _, _, rfl, rfl, SqT.of ot3, rfl, FD, _, rfl, DPut.k (k := Sum.inr e.2.2) oF3 (by rw [sizeLine_eq]; omega), ?_⟩)⟩
      have kout : (Sum.inr e.2.2 : Key) ∉ es'.map (·.1) := fun z => mem (by
        rw [ek3] at z
        obtain ⟨y, hy, e0⟩ := List.mem_map.mp z
        rw [← Sum.inr.inj e0]
        exact hy)
      have up : ∀ b' o, b' ≠ FD → H3 b' = some o → upd H3 FD (.dK (putK es' (Sum.inr e.2.2) (.ref t))) b' = some o := fun b' o nb h => by rw [upd_ne nb]; exact h
      have oF4 : upd H3 FD (.dK (putK es' (Sum.inr e.2.2) (.ref t))) FD = _ := upd_same
      have oT4 := up _ _ TF oT3
      have k4 : Same H (upd H3 FD (.dK (putK es' (Sum.inr e.2.2) (.ref t)))) := fun b' o h => up _ _ (ne_of_none h nFD) (k3 _ _ h)
      have ot4 := k4 _ _ ot
      rw [put_last kout] at oF4 oT4 k4 ot4 ⊢
      generalize upd H3 FD (.dK (es' ++ [(Sum.inr e.2.2, V.ref t)])) = H4 at oF4 oT4 k4 ot4
      refine ⟨_, rfl, .inl ⟨rfl, _, SqL.of oT4⟩, _, rfl, .inr (.inl ⟨t, _, _, _, rfl, rfl, SqT.of ot4, rfl, TD, _, _, rfl, rfl, oT4, by rw [sizeLine_eq, List.length_map]; omega, ?_⟩)⟩
      have TF' : FD ≠ TD := Ne.symm TF
      refine ⟨S' ++ [e.2.2], _, _, rfl, by rw [upd_ne TF']; exact oF4, by rw [List.map_append, List.map_append, ek3]; rfl, by rw [upd_same, List.map_append]; rfl, R3.add ein (by rw [c]; exact List.mem_of_getElem? en3) mem, by rw [List.getElem?_append_left (List.getElem?_eq_some_iff.mp en3).1]; exact en3, fun e' he' h1 => ?_, fun b' o h => by rw [upd_ne (ne_of_none h nTD0)]; exact k4 _ _ h⟩
      rw [tk] at he'
      rcases List.mem_append.mp he' with z | z
      · exact List.mem_append_left _ (c3 e' z h1)
      · rw [List.mem_singleton.mp z]; exact List.mem_append_right _ (List.mem_singleton.mpr rfl)
  · rintro σ H3 ⟨S', es', s5, rfl, oF3, ek3, oT3, R3, en3, c3, k3⟩
    rw [List.length_map, lts, List.take_length] at c3
    refine ⟨_, rfl, _, _, rfl, rfl, ?_⟩
    have sh3 := R3.short
    rw [lE] at sh3
    have li := (List.getElem?_eq_some_iff.mp en3).1
    refine ⟨arcs.length + 1 - (i + 1), by omega, i + 1, S', es', s5, rfl, oF3, ek3, oT3, ⟨R3.nd, R3.b0, R3.r, li, fun j n' lt en' e he h1 => ?_, R3.sub⟩, k3, rfl⟩
    rcases Nat.lt_succ_iff_lt_or_eq.mp lt with lt | rfl
    · exact R3.c j n' lt en' e he h1
    · rw [en3] at en'
      obtain rfl := Option.some.inj en'
      obtain ⟨a, ha, rfl⟩ := List.mem_map.mp he
      exact c3 a ha h1
end
end L2.TB
/-! steps either way; reached, with the last step to each node -/
namespace L2.TB
open PySem PySem.Spec PyProof.Rows
/-- a step: the arc, the sign, start and end -/
abbrev StpT : Type := Str × Int × Str × Str
def StepA (H : Hp) (t : Addr) (s : StpT) : Prop := H t = some (.tup [.str s.1, .int s.2.1, .str s.2.2.1, .str s.2.2.2])
def edgS (s : StpT) : ArT := (s.2.2.1, s.2.2.2)
abbrev FoT : Type := List (Str × Option StpT)
structure FOk (L : List StpT) (b : Str) (F : FoT) : Prop where
  nd : (F.map (·.1)).Nodup
  hd : F[0]? = some (b, none)
  st : ∀ (i : Nat) n o, F[i]? = some (n, o) → 0 < i → ∃ s : StpT, o = some s ∧ s ∈ L ∧ s.2.2.2 = n ∧ ∃ (j : Nat) (o' : Option StpT), j < i ∧ F[j]? = some (s.2.2.1, o')
theorem fok_nil {L : List StpT} {b : Str} : FOk L b [(b, none)] := ⟨by simp, rfl, fun i n o e h => by
  have := (List.getElem?_eq_some_iff.mp e).1
  simp only [List.length_singleton] at this
  omega⟩
theorem FOk.add {L : List StpT} {b : Str} {F : FoT} {s : StpT} (h : FOk L b F) (hs : s ∈ L) (out : s.2.2.2 ∉ F.map (·.1)) (inn : s.2.2.1 ∈ F.map (·.1)) : FOk L b (F ++ [(s.2.2.2, some s)]) := by
  have l0 := (List.getElem?_eq_some_iff.mp h.hd).1
  refine ⟨?_, by rw [List.getElem?_append_left l0]; exact h.hd, fun i n o e hi => ?_⟩
  · rw [List.map_append, List.nodup_append]
    exact ⟨h.nd, by simp, fun x hx y hy z => by
      have hy : y = s.2.2.2 := List.mem_singleton.mp hy
      exact out (by rw [← hy, ← z]; exact hx)⟩
  · rcases Nat.lt_or_ge i F.length with lt | ge
    · rw [List.getElem?_append_left lt] at e
      obtain ⟨s', h1, h2, h3, j, o', lj, ej⟩ := h.st i n o e hi
      exact ⟨s', h1, h2, h3, j, o', lj, by rw [List.getElem?_append_left (by omega)]; exact ej⟩
    · rw [List.getElem?_append_right ge] at e
      have e0 : i - F.length = 0 := by
        have := (List.getElem?_eq_some_iff.mp e).1
        simp only [List.length_singleton] at this
        omega
      rw [e0] at e
      have e := Option.some.inj e
      obtain ⟨q, hq, e2⟩ := List.mem_map.mp inn
      obtain ⟨j, hj⟩ := List.getElem?_of_mem hq
      have lj := (List.getElem?_eq_some_iff.mp hj).1
      refine ⟨s, (congrArg Prod.snd e).symm, hs, congrArg Prod.fst e, j, q.2, by omega, ?_⟩
      rw [List.getElem?_append_left lj, hj, ← e2]
theorem ri_nil {E : List ArT} {b : Str} : RI E b 0 [b] := ⟨by simp, by simp, fun n hn => by rw [List.mem_singleton.mp hn]; exact .base, Nat.zero_le _, fun j n lt => absurd lt (Nat.not_lt_zero _), fun n hn => .inl (List.mem_singleton.mp hn)⟩
def FE (H : Hp) (e : Key × V) (p : Str × Option StpT) : Prop := e.1 = Sum.inr p.1 ∧ match p.2 with
  | none => e.2 = .non
  | some s => ∃ t, e.2 = .ref t ∧ StepA H t s
theorem FE.same {H H' : Hp} {e : Key × V} {p : Str × Option StpT} (h : FE H e p) (s : Same H H') : FE H' e p := by
  obtain ⟨n, o⟩ := p
  cases o with
  | none => exact h
  | some x =>
    obtain ⟨h1, t, h2, h3⟩ := h
    exact ⟨h1, t, h2, s _ _ h3⟩
theorem fe_keys {H : Hp} {es : List (Key × V)} {F : FoT} (h : Paired (FE H) es F) : es.map (·.1) = (F.map (·.1)).map Sum.inr := by
  induction h with
  | nil => rfl
  | cons h _ ih => rw [List.map_cons, List.map_cons, List.map_cons, ih, h.1]
theorem paired_appR {α β : Type} {R : α → β → Prop} {as as' : List α} {bs bs' : List β} (h : Paired R as bs) (h' : Paired R as' bs') : Paired R (as ++ as') (bs ++ bs') := by
  induction h with
  | nil => exact h'
  | cons h _ ih => exact .cons h ih
def spReachG : Sp := fun vs H Q _ => ∃ (st : Addr) (b : Str) (ts : List Addr) (L : List StpT), vs = [.ref st, .str b] ∧ H st = some (.lst (ts.map V.ref)) ∧ Paired (StepA H) ts L ∧ L.length < 1000 ∧
  ∀ H' D es F, H D = none → H' D = some (.dK es) → Paired (FE H') es F → FOk L b F → (∀ n, n ∈ F.map (·.1) ↔ Reach (L.map edgS) b n) → Same H H' → Q (.ref D) H'
section
variable {P : Program} {w : World} {K : PySem.W.Frag} {mg : Str → Option Value} {base : Heap} {f : Addr} {fd : FuncData}
theorem ok_reachG (F : Fun K "reached" "reached" sReached f fd) (nN : mg "len" = none) : FnOk P w K mg base CX0 1 f fd ["steps", "begin"] spReachG := by
  refine F.ok scReached (fun vs H Q E h => by obtain ⟨st, b, ts, L, e, _⟩ := h; rw [e]; rfl) fun cdv A outer s H vs Q E hr hsp => ?_
  obtain ⟨st, b, ts, L, rfl, ost, pst, sh, hq⟩ := hsp
  have nd := scReached.nd
  have hu := hu_of hr
  refine ⟨_, pss_cons (ps_set (i := 2) nd rfl (Or.inl rfl) (pe_disp (pps_cons (pv 1) pe_non pps_nil) rfl rfl (by decide) (by decide)))
    (pss_cons (ps_set (i := 3) nd rfl (Or.inl rfl) (pe_lst (pa_cons (pv 1) pa_nil)))
    (pss_cons (ps_set (i := 4) nd rfl (Or.inl rfl) pe_int)
    (pss_cons (ps_while PassesOwn.never (pt_cmpR op_lt (pv 4) (pe_callB call_len rfl nN boot_len (pa_cons (pv 3) pa_nil)) (nomark _))
      (pss_cons (ps_for PassesOwn.never rfl (pi_list (pv 0)) (pg_name (i := 5) nd rfl (Or.inl rfl))
        (pss_one (ps_if (PW.pt (pw_and (pt_cmpR op_eq (pe_ix (r := rIx K) ix_seq (pv 5) pe_int (fun _ _ => rfl)) (pe_ix (r := rIxL K) ix_list (pv 3) (pv 4) (fun _ _ => rfl)) (nomark _)) (pw_and1 (pt_cmp (pc_dnotin hu (pe_ix (r := rIx K) ix_seq (pv 5) pe_int (fun _ _ => rfl)) (pv 2))))))
          (pss_cons (ps_dput hu (pv 2) (pe_ix (r := rIx K) ix_seq (pv 5) pe_int (fun _ _ => rfl)) (pv 5) rfl)
          (pss_one (ps_expr (pe_bm PySem.F.plainAttrs_list PySem.F.slot_list_append PySem.F.type_list_append mt_append (pv 3) (pa_cons (pe_ix (r := rIx K) ix_seq (pv 5) pe_int (fun _ _ => rfl)) pa_nil))))) pss_nil)))
      (pss_one (ps_aug (i := 4) nd rfl (Or.inl rfl) pe_int ip_add))))
    (pss_one (ps_ret (pv 2)))))), ?_⟩
  refine fun FD nFD => ?_
  have kF := same_new (o := .dK []) nFD
  refine ⟨_, rfl, upd_same, [(Sum.inr b, .non)], rfl, (by show 1 ≤ 15; decide), ?_⟩
  have k1 : Same H (upd (upd H FD (.dK [])) FD (.dK (mergeK [] [((Sum.inr b : Key), V.non)]))) := same_upd2 nFD
  have oF : upd (upd H FD (.dK [])) FD (.dK (mergeK [] [((Sum.inr b : Key), V.non)])) FD = some (.dK [(Sum.inr b, .non)]) := upd_same
  generalize upd (upd H FD (.dK [])) FD (.dK (mergeK [] [((Sum.inr b : Key), V.non)])) = H1 at k1 oF
  refine ⟨_, rfl, (by show 1 ≤ sizeLine; decide), fun TD nTD => ?_⟩
  have k2 := same_new (o := .lst [.str b]) nTD
  have oT : upd H1 TD (.lst [.str b]) TD = some (.lst ([b].map V.str)) := upd_same
  have TF : TD ≠ FD := fun z => by rw [z, oF] at nTD; cases nTD
  have oF2 := k2 _ _ oF
  have k02 := k1.trans k2
  have nTD0 := k1.free nTD
  generalize upd H1 TD (.lst [.str b]) = H2 at k2 oT oF2 k02
  have lE : (L.map edgS).length = L.length := List.length_map _
  refine ⟨fun m σ Hc => ∃ (i : Nat) (F : FoT) (es : List (Key × V)) (s5 : Option V), σ = [some (.ref st), some (.str b), some (.ref FD), some (.ref TD), some (.int i), s5] ∧ Hc FD = some (.dK es) ∧ Paired (FE H) es F ∧ Hc TD = some (.lst ((F.map (·.1)).map V.str)) ∧ RI (L.map edgS) b i (F.map (·.1)) ∧ FOk L b F ∧ Same H Hc ∧ m = L.length + 1 - i,
    ⟨_, 0, [(b, none)], [(Sum.inr b, .non)], none, rfl, oF2, .cons ⟨rfl, rfl⟩ .nil, oT, ri_nil, fok_nil, k02, rfl⟩, ?_⟩
  rintro m σ Hc ⟨i, F, es, s5, rfl, oFc, pF, oTc, R, FO, kc, rfl⟩
  generalize eS : F.map (·.1) = S at oTc R
  have ek : es.map (·.1) = S.map Sum.inr := by rw [← eS]; exact fe_keys pF
  have shS := R.short
  rw [lE] at shS
  refine ⟨_, rfl, _, rfl, .ref TD, S.length, rfl, .inl ⟨_, SqL.of oTc, by rw [List.length_map]⟩, _, _, rfl, rfl, _, rfl, ?_⟩
  by_cases more : i < S.length
  case neg =>
    rw [decide_eq_false (by omega : ¬ ((i : Nat) : Int) < ((S.length : Nat) : Int))]
    have ei : i = S.length := by have := R.le; omega
    refine iteF ⟨_, rfl, hq Hc FD es F nFD oFc (Paired.mapP pF fun e q h => h.same kc) FO (fun n => ⟨fun h => R.r n (eS ▸ h), fun h => eS ▸ reach_in R.b0 (fun e he h1 => ?_) h⟩) kc⟩
    obtain ⟨j, hj⟩ := List.getElem?_of_mem h1
    exact R.c j e.1 (by rw [ei]; exact (List.getElem?_eq_some_iff.mp hj).1) hj e he rfl
  rw [decide_eq_true (by omega : ((i : Nat) : Int) < ((S.length : Nat) : Int))]
  refine iteT ⟨fun σ' H' => ∃ m', m' < L.length + 1 - i ∧ ∃ (i : Nat) (F : FoT) (es : List (Key × V)) (s5 : Option V), σ' = [some (.ref st), some (.str b), some (.ref FD), some (.ref TD), some (.int i), s5] ∧ H' FD = some (.dK es) ∧ Paired (FE H) es F ∧ H' TD = some (.lst ((F.map (·.1)).map V.str)) ∧ RI (L.map edgS) b i (F.map (·.1)) ∧ FOk L b F ∧ Same H H' ∧ m' = L.length + 1 - i, fun σ' H' h => h, ?_⟩
  obtain ⟨n, en⟩ : ∃ n, S[i]? = some n := ⟨_, List.getElem?_eq_getElem more⟩
  have lts : ts.length = L.length := Paired.length pst
  refine ⟨_, rfl, st, rfl, ⟨_, SqL.of (kc _ _ ost)⟩, for_list (xs := ts.map V.ref) (fun j σ H' => ∃ (F' : FoT) (es' : List (Key × V)) (s5 : Option V), σ = [some (.ref st), some (.str b), some (.ref FD), some (.ref TD), some (.int i), s5] ∧ H' FD = some (.dK es') ∧ Paired (FE H) es' F' ∧ H' TD = some (.lst ((F'.map (·.1)).map V.str)) ∧ RI (L.map edgS) b i (F'.map (·.1)) ∧ FOk L b F' ∧ (F'.map (·.1))[i]? = some n ∧ (∀ e ∈ L.take j, e.2.2.1 = n → e.2.2.2 ∈ F'.map (·.1)) ∧ Same H H')
    ⟨F, es, s5, rfl, oFc, pF, eS ▸ oTc, eS ▸ R, FO, eS ▸ en, fun e he => by rw [List.take_zero] at he; (cases he), kc⟩ (fun j σ H' _ h => by obtain ⟨_, _, _, _, _, _, _, _, _, _, _, k⟩ := h; exact SqL.of (k _ _ ost)) ?_ ?_⟩
  · rintro j x σ H3 ex ⟨F', es', s5, rfl, oF3, pF3, oT3, R3, FO3, en3, c3, k3⟩
    have ek3 := fe_keys pF3
    obtain ⟨S', eS'⟩ : ∃ S', S' = F'.map (·.1) := ⟨_, rfl⟩
    rw [← eS'] at oT3 R3 en3 c3 ek3
    rw [List.getElem?_map] at ex
    obtain ⟨t, et, rfl⟩ := Option.map_eq_some_iff.mp ex
    obtain ⟨e, ee, ot⟩ := paired_get pst et
    have ot3 := k3 _ _ ot
    have ein : edgS e ∈ L.map edgS := List.mem_map_of_mem (List.mem_of_getElem? ee)
    have tk : L.take (j + 1) = L.take j ++ [e] := by rw [List.take_succ, ee]; rfl
    have sh3 := R3.short
    rw [lE] at sh3
    have les3 : es'.length = S'.length := by
      have z := congrArg List.length ek3
      rwa [List.length_map, List.length_map] at z
    refine ⟨_, rfl, .inr (.inl ⟨t, _, _, _, rfl, rfl, SqT.of ot3, rfl, ?_⟩)⟩
    refine ⟨_, rfl, _, rfl, TD, _, (i : Nat), .str n, rfl, rfl, SqL.of oT3, atI_nat (by rw [List.getElem?_map, en3]; rfl), rfl, _, rfl, ?_⟩
    have ed : decide (V.str e.2.2.1 = V.str n) = decide (e.2.2.1 = n) := decide_eq_decide.mpr ⟨fun h => V.str.inj h, fun h => congrArg V.str h⟩
    rw [ed]
    by_cases c : e.2.2.1 = n
    case neg =>
      rw [decide_eq_false c]
      refine iteF (iteF ⟨F', es', _, rfl, oF3, pF3, eS' ▸ oT3, eS' ▸ R3, FO3, eS' ▸ en3, eS' ▸ (fun e' he' h1 => ?_), k3⟩)
      rw [tk] at he'
      rcases List.mem_append.mp he' with z | z
      · exact c3 e' z h1
      · rw [List.mem_singleton.mp z] at h1; exact absurd h1 c
    rw [decide_eq_true c]
    refine iteT ?_
    refine ⟨_, rfl, .inr (.inl ⟨t, _, _, _, rfl, rfl, SqT.of ot3, rfl, ?_⟩)⟩
    refine ⟨_, rfl, FD, _, rfl, DGet.k (k := Sum.inr e.2.2.2) oF3, ?_⟩
    by_cases mem : e.2.2.2 ∈ S'
    · obtain ⟨v, ev⟩ := (val_inS ek3 e.2.2.2).1 mem
      rw [ev]
      refine ⟨_, rfl, iteF ⟨F', es', _, rfl, oF3, pF3, eS' ▸ oT3, eS' ▸ R3, FO3, eS' ▸ en3, eS' ▸ (fun e' he' h1 => ?_), k3⟩⟩
      rw [tk] at he'
      rcases List.mem_append.mp he' with z | z
      · exact c3 e' z h1
      · rw [List.mem_singleton.mp z]; exact mem
    · rw [(val_inS ek3 e.2.2.2).2 mem]
      refine ⟨_, rfl, iteT ?_⟩
      refine ⟨_, rfl, _, rfl, _, rfl, .inr (.inl ⟨t, _, _, _, rfl, rfl, SqT.of ot3, rfl, FD, _, rfl, DPut.k (k := Sum.inr e.2.2.2) oF3 (by rw [sizeLine_eq]; omega), ?_⟩)⟩
      have kout : (Sum.inr e.2.2.2 : Key) ∉ es'.map (·.1) := fun z => mem (by
        rw [ek3] at z
        obtain ⟨y, hy, e0⟩ := List.mem_map.mp z
        rw [← Sum.inr.inj e0]
        exact hy)
      have up : ∀ b' o, b' ≠ FD → H3 b' = some o → upd H3 FD (.dK (putK es' (Sum.inr e.2.2.2) (.ref t))) b' = some o := fun b' o nb h => by rw [upd_ne nb]; exact h
      have oF4 : upd H3 FD (.dK (putK es' (Sum.inr e.2.2.2) (.ref t))) FD = _ := upd_same
      have oT4 := up _ _ TF oT3
      have k4 : Same H (upd H3 FD (.dK (putK es' (Sum.inr e.2.2.2) (.ref t)))) := fun b' o h => up _ _ (ne_of_none h nFD) (k3 _ _ h)
      have ot4 := k4 _ _ ot
      rw [put_last kout] at oF4 oT4 k4 ot4 ⊢
      generalize upd H3 FD (.dK (es' ++ [(Sum.inr e.2.2.2, V.ref t)])) = H4 at oF4 oT4 k4 ot4
      refine ⟨_, rfl, .inl ⟨rfl, _, SqL.of oT4⟩, _, rfl, .inr (.inl ⟨t, _, _, _, rfl, rfl, SqT.of ot4, rfl, TD, _, _, rfl, rfl, oT4, by rw [sizeLine_eq, List.length_map]; omega, ?_⟩)⟩
      have TF' : FD ≠ TD := Ne.symm TF
      have eA : (F' ++ [(e.2.2.2, some e)]).map (·.1) = S' ++ [e.2.2.2] := by rw [List.map_append, eS']; rfl
      refine ⟨F' ++ [(e.2.2.2, some e)], _, _, rfl, by rw [upd_ne TF']; exact oF4, paired_appR pF3 (.cons ⟨rfl, t, rfl, ot⟩ .nil), by rw [eA, upd_same, List.map_append]; rfl, eA ▸ R3.add ein (by show e.2.2.1 ∈ S'; rw [c]; exact List.mem_of_getElem? en3) mem, FO3.add (List.mem_of_getElem? ee) (eS' ▸ mem) (by rw [c, ← eS']; exact List.mem_of_getElem? en3), by rw [eA, List.getElem?_append_left (List.getElem?_eq_some_iff.mp en3).1]; exact en3, eA ▸ (fun e' he' h1 => ?_), fun b' o h => by rw [upd_ne (ne_of_none h nTD0)]; exact k4 _ _ h⟩
      rw [tk] at he'
      rcases List.mem_append.mp he' with z | z
      · exact List.mem_append_left _ (c3 e' z h1)
      · rw [List.mem_singleton.mp z]; exact List.mem_append_right _ (List.mem_singleton.mpr rfl)
  · rintro σ H3 ⟨F', es', s5, rfl, oF3, pF3, oT3, R3, FO3, en3, c3, k3⟩
    obtain ⟨S', eS'⟩ : ∃ S', S' = F'.map (·.1) := ⟨_, rfl⟩
    rw [← eS'] at oT3 R3 en3 c3
    rw [List.length_map, lts, List.take_length] at c3
    refine ⟨_, rfl, _, _, rfl, rfl, ?_⟩
    have sh3 := R3.short
    rw [lE] at sh3
    have li := (List.getElem?_eq_some_iff.mp en3).1
    refine ⟨L.length + 1 - (i + 1), by omega, i + 1, F', es', s5, rfl, oF3, pF3, eS' ▸ oT3, eS' ▸ ⟨R3.nd, R3.b0, R3.r, li, fun j n' lt en' e he h1 => ?_, R3.sub⟩, FO3, k3, rfl⟩
    rcases Nat.lt_succ_iff_lt_or_eq.mp lt with lt | rfl
    · exact R3.c j n' lt en' e he h1
    · rw [en3] at en'
      obtain rfl := Option.some.inj en'
      obtain ⟨a, ha, rfl⟩ := List.mem_map.mp he
      exact c3 a ha h1
end
end L2.TB
/-! onward of a locked dict; _is_live -/
namespace L2.TB
open PySem PySem.Spec PyProof.Rows
structure NetC (K : PySem.W.Frag) (C : Addr) : Prop where
  cl : Cls K C
  nA : NoAttr K C "_arcs"
  nN : NoAttr K C "_nodes"
  nL : NoAttr K C "_live"
def edgesOf (arcs : NtT) : List ArT := arcs.map (·.2)
def spOnwF : Sp := fun vs H Q _ => ∃ (D : Addr) (od : Obj) (es : List (Key × V)) (arcs : NtT) (A : Addr → Prop), vs = [.ref D, .ref D] ∧ H D = some (.frz od (.dK es)) ∧ Paired (DcE A H) es arcs ∧ (arcs.map (·.1)).Nodup ∧ arcs.length < 1000 ∧ ∀ H' q ts, H' q = some (.lst (ts.map V.ref)) → Paired (StepAt H') ts arcs → Same H H' → Q (.ref q) H'
def spIsLive (C : Addr) : Sp := fun vs H Q _ => ∃ (x dx D : Addr) (fs : List (Str × V)) (od : Obj) (es : List (Key × V)) (arcs : NtT) (A : Addr → Prop) (e : Str × ArT), vs = [.ref x, .str e.1] ∧ H x = some (.ins C dx fs) ∧ fs.lookup ("_arcs" : Str) = some (.ref D) ∧ H D = some (.frz od (.dK es)) ∧ Paired (DcE A H) es arcs ∧ (arcs.map (·.1)).Nodup ∧ arcs.length < 1000 ∧ e ∈ arcs ∧
  ∀ H' b, (b = true ↔ Reach (edgesOf arcs) e.2.2 e.2.1) → Same H H' → Q (.bl b) H'
theorem scIsLive : FnScope ["self", "name", "start", "end"] ["self", "name"] (defScope sIsLive) := ⟨rfl, rfl, rfl, by decide +kernel, rfl, by decide +kernel, by decide +kernel⟩
section
variable {P : Program} {w : World} {K : PySem.W.Frag} {mg : Str → Option Value} {base : Heap} {f C fO fR : Addr} {fd fdO fdR : FuncData}
theorem ok_onwF (F : Fun K "onward" "onward" sOnward f fd) : FnOk P w K mg base CX0 1 f fd ["arcs", "names"] spOnwF := by
  refine F.ok scOnw (fun vs H Q E h => by obtain ⟨D, od, es, arcs, A, e, _⟩ := h; rw [e]; rfl) fun cdv A outer s H vs Q E hr hsp => ?_
  obtain ⟨D, od, es, arcs, A0, rfl, oD, pr, rnd, sh, hq⟩ := hsp
  have nd := scOnw.nd
  have hu := hu_of hr
  refine ⟨_, pss_one (ps_ret (pe_lc (own := [("name", 2)]) (tt := tYes) (g := gName 2) (te := tTup (tCons (tVar 2) (tCons (tC (.int 1)) (tCons (tOp (rIx K) (tDGet (tVar 0) (tVar 2)) (tC (.int 0))) (tCons (tOp (rIx K) (tDGet (tVar 0) (tVar 2)) (tC (.int 1))) tNil))))) rfl nd (pi_keys (pv 1)) (blkOk_by (N := NOw) (sc := defScope sOnward) (by decide +kernel)) (fun _ _ _ _ _ => pg_name (i := 2) nd rfl (Or.inl rfl)) (fun _ _ _ _ _ => pts_nil)
    (fun _ _ _ _ _ => pe_tup (pa_cons (pv 2) (pa_cons pe_int (pa_cons (pe_ix (r := rIx K) ix_seq (pe_dget hu (pv 0) (pv 2) (fun _ _ => rfl)) pe_int (fun _ _ => rfl)) (pa_cons (pe_ix (r := rIx K) ix_seq (pe_dget hu (pv 0) (pv 2) (fun _ _ => rfl)) pe_int (fun _ _ => rfl)) pa_nil))))))), ?_⟩
  have les : es.length = arcs.length := Paired.length pr
  have ndes : (es.map (·.1)).Nodup := by rw [dc_keys pr]; exact nd_inr rnd
  refine ⟨_, rfl, D, od, rfl, .inl ⟨es, oD, ?_⟩⟩
  refine lc_made arcs.length (by omega) (fun i H' s lt => ⟨s _ _ oD, by rw [les]; exact lt⟩) (fun H' s => ⟨s _ _ oD, by rw [les]; exact Nat.le_refl _⟩)
    (fun i y H' => ∃ t e, y = .ref t ∧ arcs[i]? = some e ∧ StepAt H' t e) (fun i y H1 H2 C l ⟨t, e, ey, ea, st⟩ hC keep => ⟨t, e, ey, ea, keep _ _ (fun z => by unfold StepAt at st; rw [z, hC] at st; cases st) st⟩) ?_ ?_
  · rintro i y H2 H3 Cn Nn lt s2 ⟨rfl, k0, v0, ekv, rfl⟩ yes
    obtain ⟨e, ee, hk, t0, x, z, hv, ap, op, hx, hz⟩ := paired_get pr ekv
    have hk : k0 = Sum.inr e.1 := hk
    have hv : v0 = .ref t0 := hv
    have hx : x = .str e.2.1 := hx
    have hz : z = .str e.2.2 := hz
    subst hk hv hx hz
    have op3 := s2 _ _ op
    have dg : DGet H3 D (.str e.1) (some (.ref t0)) := .inl ⟨es, Sum.inr e.1, .inr ⟨od, s2 _ _ oD⟩, rfl, (valV_atN ndes ekv).symm⟩
    refine ⟨rfl, ?_⟩
    refine ⟨_, rfl, _, rfl, _, rfl, D, _, rfl, dg, .inr (.inl ⟨t0, _, _, _, rfl, rfl, SqT.of op3, rfl, ?_⟩)⟩
    refine ⟨_, rfl, _, rfl, D, _, rfl, dg, .inr (.inl ⟨t0, _, _, _, rfl, rfl, SqT.of op3, rfl, ?_⟩)⟩
    refine ⟨(by show 4 ≤ sizeLine; decide), fun t nt => yes _ _ ⟨t, e, rfl, ee, upd_same⟩ (same_new nt)⟩
  · intro H2 q ys nq oq ly ry s2
    obtain ⟨ts, rfl, pt⟩ := addrs_of (H := H2) (P := fun i t => ∃ e, arcs[i]? = some e ∧ StepAt H2 t e) ys 0 fun j y ey => by
      obtain ⟨t, e, rfl, h1, h2⟩ := ry j y ey
      exact ⟨t, rfl, e, by rw [Nat.zero_add]; exact h1, h2⟩
    rw [List.length_map] at ly
    refine hq _ q ts oq (paired_of _ _ ly fun i t e et ee => ?_) s2
    obtain ⟨e', ee', st⟩ := pt i t et
    rw [Nat.zero_add, ee] at ee'
    obtain rfl := Option.some.inj ee'
    exact st
theorem ok_isLive (F : Fun K "_is_live" "Net._is_live" sIsLive f fd) (S : NetC K C) (FR : Fun K "reached" "reached" sReached fR fdR) (gR : mg "reached" = some (.ref fR)) (FO : Fun K "onward" "onward" sOnward fO fdO) (gO : mg "onward" = some (.ref fO)) (nN : mg "len" = none) : FnOk P w K mg base CX0 2 f fd ["self", "name"] (spIsLive C) := by
  have GR : FnOk P w K mg base CX0 1 fR fdR ["steps", "begin"] spReached := ok_reached FR nN
  have bR := FR.binds (ps := ["steps", "begin"]) fun _ _ _ _ _ _ us hl => match us, hl with | [_, _], _ => rfl
  have GO : FnOk P w K mg base CX0 1 fO fdO ["arcs", "names"] spOnwF := ok_onwF FO
  have bO := FO.binds (ps := ["arcs", "names"]) fun _ _ _ _ _ _ us hl => match us, hl with | [_, _], _ => rfl
  refine F.ok scIsLive (fun vs H Q E h => by obtain ⟨x, dx, D, fs, od, es, arcs, A, e, h, _⟩ := h; rw [h]; rfl) fun cdv A outer s H vs Q E hr hsp => ?_
  obtain ⟨x, dx, D, fs, od, es, arcs, A0, e, rfl, hx, hf, oD, pr, rnd, sh, ein, hq⟩ := hsp
  have nd := scIsLive.nd
  have hu := hu_of hr
  refine ⟨_, pss_cons (ps_asg (pe_dget hu (pe_fld (pv 0) rfl) (pv 1) (fun _ _ => rfl)) (pg_tup (n := 2) rfl (pgs_cons (pg_name (i := 2) nd rfl (Or.inl rfl)) (pgs_cons (pg_name (i := 3) nd rfl (Or.inl rfl)) pgs_nil))))
    (pss_one (ps_ret (pe_cmp (pc_din hu (pv 2) (pe_call GR hr rfl gR FR.kp bR .nil pass0 (pa_cons (pe_call GO hr rfl gO FO.kp bO .nil pass0 (pa_cons (pe_fld (pv 0) rfl) (pa_cons (pe_fld (pv 0) rfl) pa_nil))) (pa_cons (pv 3) pa_nil))))))), ?_⟩
  obtain ⟨v, ev, atv⟩ := val_atD pr (lk_mem rnd ein)
  obtain ⟨t0, y, z, hv, ap, op, hy, hz⟩ := atv
  have hy : y = .str e.2.1 := hy
  have hz : z = .str e.2.2 := hz
  subst hv hy hz
  refine ⟨_, rfl, x, C, dx, _, _, rfl, hx, S.cl, S.nA, hf, _, rfl, D, _, rfl, .inl ⟨es, Sum.inr e.1, .inr ⟨od, oD⟩, rfl, ev.symm⟩, t0, _, rfl, SqT.of op, rfl, _, _, rfl, _, _, rfl, rfl, ?_⟩
  refine ⟨_, rfl, _, rfl, x, C, dx, _, _, rfl, hx, S.cl, S.nA, hf, _, rfl, x, C, dx, _, _, rfl, hx, S.cl, S.nA, hf, D, od, es, arcs, _, rfl, oD, pr, rnd, sh, fun H1 q ts oq pt k1 => ?_⟩
  refine ⟨_, rfl, q, _, ts, arcs, rfl, oq, pt, sh, fun H2 G es2 S2 nG oG ek _ rS k2 => ?_⟩
  refine ⟨G, _, rfl, DGet.k (k := Sum.inr e.2.1) oG, ?_⟩
  have kk := k1.trans k2
  by_cases m : e.2.1 ∈ S2
  · obtain ⟨v, ev2⟩ := (val_inS ek _).1 m
    rw [ev2]
    exact hq H2 true ⟨fun _ => (rS _).1 m, fun _ => rfl⟩ kk
  · rw [(val_inS ek _).2 m]
    exact hq H2 false ⟨(fun z => by cases z), fun z => absurd ((rS _).2 z) m⟩ kk
end
end L2.TB
/-! _nodes_of, inward -/
namespace L2.TB
open PySem PySem.Spec PyProof.Rows
def addN (S : List Str) (n : Str) : List Str := if n ∈ S then S else S ++ [n]
def nodesF (S : List Str) (arcs : NtT) : List Str := arcs.foldl (fun S e => addN (addN S e.2.1) e.2.2) S
def nodesL (arcs : NtT) : List Str := nodesF [] arcs
theorem addN_in {S : List Str} {n x : Str} : x ∈ addN S n ↔ x ∈ S ∨ x = n := by
  unfold addN
  by_cases h : n ∈ S
  · rw [if_pos h]
    exact ⟨.inl, fun z => z.elim id fun z => by rw [z]; exact h⟩
  · rw [if_neg h, List.mem_append, List.mem_singleton]
theorem addN_len (S : List Str) (n : Str) : (addN S n).length ≤ S.length + 1 := by
  unfold addN
  split
  · omega
  · rw [List.length_append]; exact Nat.le_refl _
theorem addN_nd {S : List Str} {n : Str} (h : S.Nodup) : (addN S n).Nodup := by
  unfold addN
  split
  · exact h
  · rename_i c
    exact List.nodup_append.mpr ⟨h, by simp, fun x hx y hy z => c (by rw [List.mem_singleton.mp hy] at z; rw [← z]; exact hx)⟩
theorem nodesF_take (S : List Str) {arcs : NtT} {i : Nat} {e : Str × ArT} (h : arcs[i]? = some e) : nodesF S (arcs.take (i + 1)) = addN (addN (nodesF S (arcs.take i)) e.2.1) e.2.2 := by
  have et : arcs.take (i + 1) = arcs.take i ++ [e] := by rw [List.take_succ, h]; rfl
  unfold nodesF
  rw [et, List.foldl_append]
  rfl
theorem nodesF_len : ∀ (arcs : NtT) (S : List Str), (nodesF S arcs).length ≤ S.length + 2 * arcs.length
  | [], S => by show S.length ≤ _; omega
  | e :: l, S => by
    have ih := nodesF_len l (addN (addN S e.2.1) e.2.2)
    have h1 := addN_len S e.2.1
    have h2 := addN_len (addN S e.2.1) e.2.2
    rw [List.length_cons]
    show (nodesF (addN (addN S e.2.1) e.2.2) l).length ≤ _
    omega
theorem nodesF_nd : ∀ (arcs : NtT) (S : List Str), S.Nodup → (nodesF S arcs).Nodup
  | [], S, h => h
  | e :: l, S, h => nodesF_nd l _ (addN_nd (addN_nd h))
theorem nodesF_in : ∀ (arcs : NtT) (S : List Str) (x : Str), x ∈ nodesF S arcs ↔ x ∈ S ∨ ∃ e ∈ arcs, x = e.2.1 ∨ x = e.2.2
  | [], S, x => ⟨.inl, fun h => h.elim id (fun ⟨e, he, _⟩ => by cases he)⟩
  | e :: l, S, x => by
    show x ∈ nodesF (addN (addN S e.2.1) e.2.2) l ↔ _
    rw [nodesF_in l, addN_in, addN_in]
    constructor
    · intro hh
      rcases hh with ((h | h) | h) | ⟨e', he, h⟩
      · exact .inl h
      · exact .inr ⟨e, List.mem_cons_self, .inl h⟩
      · exact .inr ⟨e, List.mem_cons_self, .inr h⟩
      · exact .inr ⟨e', List.mem_cons_of_mem _ he, h⟩
    · intro hh
      rcases hh with h | ⟨e', he, h⟩
      · exact .inl (.inl (.inl h))
      · rcases (List.mem_cons.mp he) with rfl | he
        · exact h.elim (fun h => .inl (.inl (.inr h))) fun h => .inl (.inr h)
        · exact .inr ⟨e', he, h⟩
theorem seen_put2 (S : List Str) (n : Str) : putK (seenD S) (Sum.inr n) (.bl true) = seenD (addN S n) := by
  unfold addN
  by_cases h : n ∈ S
  · rw [if_pos h, put_has (by unfold seenD; rw [List.map_map]; exact List.mem_map_of_mem h)]
    unfold seenD
    rw [List.map_map]
    refine (List.map_congr_left fun x _ => ?_)
    show (if (Sum.inr x : Key) = Sum.inr n then ((Sum.inr x : Key), V.bl true) else (Sum.inr x, .bl true)) = _
    split <;> rfl
  · rw [if_neg h, seen_put h]
/-- what goes in less what goes out -/
def inwL (x : Str → Int) (S : List Str) (arcs : NtT) : Int := arcs.foldl (fun t e => (t + if e.2.2 ∈ S ∧ e.2.1 ∉ S then x e.1 else 0) - if e.2.1 ∈ S ∧ e.2.2 ∉ S then x e.1 else 0) 0
theorem inwL_take (x : Str → Int) (S : List Str) {arcs : NtT} {i : Nat} {e : Str × ArT} (h : arcs[i]? = some e) : inwL x S (arcs.take (i + 1)) = (inwL x S (arcs.take i) + if e.2.2 ∈ S ∧ e.2.1 ∉ S then x e.1 else 0) - if e.2.1 ∈ S ∧ e.2.2 ∉ S then x e.1 else 0 := by
  have et : arcs.take (i + 1) = arcs.take i ++ [e] := by rw [List.take_succ, h]; rfl
  unfold inwL
  rw [et, List.foldl_append]
  rfl
def spNodesOf : Sp := fun vs H Q _ => ∃ (D : Addr) (arcs : NtT) (A : Addr → Prop), vs = [.ref D] ∧ PyD.at_ A H (.ref D) (Dc.mk arcs) ∧ arcs.length < 1000 ∧ ∀ H' q, H q = none → H' q = some (.lst ((nodesL arcs).map V.str)) → Same H H' → Q (.ref q) H'
abbrev NNo : List Str := ["arcs", "nodes", "name", "start", "end"]
theorem scNodesOf : FnScope NNo ["arcs"] (defScope sNodesOf) := ⟨rfl, rfl, rfl, by decide +kernel, rfl, by decide +kernel, by decide +kernel⟩
def spInw : Sp := fun vs H Q _ => ∃ (D X sd : Addr) (arcs : NtT) (A : Addr → Prop) (kvs : List (Key × V)) (S : List Str) (x : Str → Int), vs = [.ref D, .ref D, .ref X, .ref sd] ∧ PyD.at_ A H (.ref D) (Dc.mk arcs) ∧ arcs.length < 1000 ∧ H X = some (.dK kvs) ∧ X ≠ D ∧ (∀ e ∈ arcs, valV kvs (Sum.inr e.1) = some (.int (x e.1))) ∧ H sd = some (.lst (S.map V.str)) ∧ S.length < 1000 ∧ ∀ H', Same H H' → Q (.int (inwL x S arcs)) H'
abbrev NIw : List Str := ["arcs", "names", "answers", "side", "total", "name", "start", "end"]
section
variable {P : Program} {w : World} {K : PySem.W.Frag} {mg : Str → Option Value} {base : Heap} {f : Addr} {fd : FuncData}
theorem ok_nodesOf (F : Fun K "_nodes_of" "_nodes_of" sNodesOf f fd) (nL : mg "list" = none) : FnOk P w K mg base CX0 1 f fd ["arcs"] spNodesOf := by
  refine F.ok scNodesOf (fun vs H Q E h => by obtain ⟨D, arcs, A, e, _⟩ := h; rw [e]; rfl) fun cdv A outer s H vs Q E hr hsp => ?_
  obtain ⟨D, arcs, A0, rfl, at_, sh, hq⟩ := hsp
  have nd := scNodesOf.nd
  have hu := hu_of hr
  refine ⟨_, pss_cons (ps_set (i := 1) nd rfl (Or.inl rfl) pe_dnewK)
    (pss_cons (ps_lock (ps_for PassesOwn.never rfl (pi_keys (pv 0)) (pg_name (i := 2) nd rfl (Or.inl rfl))
      (pss_cons (ps_asg (pe_dget hu (pv 0) (pv 2) (fun _ _ => rfl)) (pg_tup (n := 2) rfl (pgs_cons (pg_name (i := 3) nd rfl (Or.inl rfl)) (pgs_cons (pg_name (i := 4) nd rfl (Or.inl rfl)) pgs_nil))))
      (pss_cons (ps_dput hu (pv 1) (pv 3) pe_bl rfl)
      (pss_one (ps_dput hu (pv 1) (pv 4) pe_bl rfl))))))
    (pss_one (ps_ret (pe_callTy (call_listD rfl) rfl nL boot_list' (pa_cons (pv 1) pa_nil))))), ?_⟩
  obtain ⟨D', es, e1, aD, oD, rnd, pr⟩ := at_
  obtain rfl := V.ref.inj e1
  have les : es.length = arcs.length := Paired.length pr
  have ndes : (es.map (·.1)).Nodup := by rw [dc_keys pr]; exact nd_inr rnd
  refine fun g ng => ?_
  have kg := same_new (o := .dK []) ng
  have og : upd H g (.dK []) g = some (.dK (seenD [])) := upd_same
  have gD : g ≠ D := fun z => by rw [z, oD] at ng; cases ng
  have oD1 := kg _ _ oD
  generalize upd H g (.dK []) = H1 at kg og oD1
  refine ⟨D, _, oD1, trivial, fun od => ⟨_, rfl, D, od, rfl, .inl ⟨es, upd_same, for_it walk_keys (fun i σ H' => H' g = some (.dK (seenD (nodesF [] (arcs.take i)))) ∧ (∀ b o, b ≠ g → upd H1 D (.frz od (.dK es)) b = some o → H' b = some o) ∧ ∃ s2 s3 s4, σ = [some (.ref D), some (.ref g), s2, s3, s4])
    ⟨by rw [upd_ne gD, List.take_zero]; exact og, fun _ _ _ e => e, _, _, _, rfl⟩ (fun i σ H' _ h => h.2.1 _ _ (Ne.symm gD) upd_same) ?_ ?_⟩⟩⟩
  · rintro i y σ H2 H3 lt ⟨og2, fr, s2, s3, s4, rfl⟩ ⟨rfl, k0, v0, ekv, rfl⟩
    obtain ⟨e, ee, hk, t0, x, z, hv, ap, op, hx, hz⟩ := paired_get pr ekv
    have hk : k0 = Sum.inr e.1 := hk
    have hv : v0 = .ref t0 := hv
    have hx : x = .str e.2.1 := hx
    have hz : z = .str e.2.2 := hz
    subst hk hv hx hz
    have tD : t0 ≠ D := fun z => by rw [z, oD] at op; cases op
    have tg : t0 ≠ g := fun z => by rw [z, ng] at op; cases op
    have op3 := fr _ _ tg (show upd H1 D (.frz od (.dK es)) t0 = _ by rw [upd_ne tD]; exact kg _ _ op)
    have oD3 := fr _ _ (Ne.symm gD) (show upd H1 D (.frz od (.dK es)) D = _ from upd_same)
    have ln := nodesF_len (arcs.take i) []
    have lt2 : (arcs.take i).length ≤ arcs.length := by rw [List.length_take]; omega
    have l1 := addN_len (nodesF [] (arcs.take i)) e.2.1
    have ls : ∀ S : List Str, (seenD S).length = S.length := fun S => List.length_map _
    refine ⟨_, rfl, _, rfl, D, _, rfl, .inl ⟨es, Sum.inr e.1, .inr ⟨od, oD3⟩, rfl, (valV_atN ndes ekv).symm⟩, t0, _, rfl, SqT.of op3, rfl, _, _, rfl, _, _, rfl, rfl, ?_⟩
    refine ⟨_, rfl, _, rfl, g, _, rfl, DPut.k (k := Sum.inr e.2.1) og2 (by rw [ls, sizeLine_eq]; simp only [List.length_nil] at ln; omega), ?_⟩
    rw [seen_put2]
    refine ⟨_, rfl, _, rfl, g, _, rfl, DPut.k (k := Sum.inr e.2.2) upd_same (by rw [ls, sizeLine_eq]; simp only [List.length_nil] at ln; omega), ?_⟩
    rw [seen_put2]
    exact ⟨by rw [upd_same, nodesF_take [] ee], fun b o nb h => by rw [upd_ne nb, upd_ne nb]; exact fr _ _ nb h, _, _, _, rfl⟩
  · rintro σ H2 ⟨og2, fr, s2, s3, s4, rfl⟩
    rw [les, List.take_length] at og2
    have oD2 := fr _ _ (Ne.symm gD) (show upd H1 D (.frz od (.dK es)) D = _ from upd_same)
    refine ⟨oD2, ?_⟩
    have og3 : upd H2 D (.dK es) g = _ := (upd_ne gD).trans og2
    have k3 : Same H (upd H2 D (.dK es)) := fun b o e => by
      by_cases c : b = D
      · rw [c, upd_same, ← oD, ← c]; exact e
      · rw [upd_ne c]
        exact fr _ _ (ne_of_none e ng) (by rw [upd_ne c]; exact kg _ _ e)
    refine ⟨_, rfl, g, _, rfl, .inl og3, fun q nq => ?_⟩
    have ek : ((seenD (nodesF [] arcs)).map fun kv => kV kv.1) = (nodesL arcs).map V.str := by
      unfold seenD nodesL
      rw [List.map_map]
      rfl
    rw [ek]
    exact hq _ q (k3.free nq) upd_same (k3.trans (same_new nq))
end
end L2.TB
/-! has_just of anything, _is_world of anything -/
namespace L2.TB
open PySem PySem.Spec PyProof.Rows
def NoDict (K : PySem.W.Frag) (H : Hp) (v : V) : Prop := ∃ t : String, TyX K H v (.type t) ∧ kitB t "dict" = some false
theorem NoDict.same {K : PySem.W.Frag} {H H' : Hp} {v : V} (h : NoDict K H v) (s : Same H H') : NoDict K H' v := let ⟨t, a, b⟩ := h; ⟨t, ty_same a s, b⟩
/-- whether a dict has just some names -/
def justB (kvs : List (Key × V)) (ns : List Str) : Bool := decide (kvs.length = ns.length) && ns.all fun n => (valV kvs (Sum.inr n)).isSome
def spJustG (K : PySem.W.Frag) : Sp := fun vs H Q _ => ∃ (v : V) (D : Addr) (es : List (Key × V)) (ns : List Str), vs = [v, .ref D] ∧ H D = some (.dK es) ∧ es.map (·.1) = ns.map Sum.inr ∧ ns.length < 1000 ∧
  ((NoDict K H v ∧ Q (.bl false) H) ∨ ∃ d kvs, v = .ref d ∧ d ≠ D ∧ H d = some (.dK kvs) ∧ kvs.length < 2000 ∧ ∀ H', Same H H' → Q (.bl (justB kvs ns)) H')
section
variable {P : Program} {w : World} {K : PySem.W.Frag} {mg : Str → Option Value} {base : Heap} {f C : Addr} {fd : FuncData}
theorem ok_justG (F : Fun K "has_just" "has_just" sHasJust f fd) (gI : mg "isinstance" = none) (gD : mg "dict" = none) (gN : mg "len" = none) (gA : mg "all" = none) : FnOk P w K mg base CX0 1 f fd ["thing", "names"] (spJustG K) := by
  refine F.ok scHasJust (fun vs H Q E h => by obtain ⟨v, D, es, ns, e, _⟩ := h; rw [e]; rfl) fun cdv A outer s H vs Q E hr hsp => ?_
  obtain ⟨v, D, es, ns, rfl, oD, ek, sh, hq⟩ := hsp
  have nd := scHasJust.nd
  have hu := hu_of hr
  refine ⟨_, pss_one (ps_ret (pe_and (pe_callB (r := rIsi K) call_isi rfl gI boot_isi (pa_cons (pv 0) (pa_cons (pe_bltn (v := .ty "dict") rfl gD boot_dict' rfl) pa_nil))) (pe_and (pe_cmpR op_eq (pe_callB call_lenD rfl gN boot_len (pa_cons (pv 0) pa_nil)) (pe_callB call_lenD rfl gN boot_len (pa_cons (pv 1) pa_nil)) (nomark _))
    (pe_one (pe_callB (cr_all rfl) rfl gA boot_allN (pa_cons (pe_lock (pe_lc (own := [("name", 2)]) (g := gName 2) (tt := tYes) rfl nd (pi_keys (pv 1)) (blkOk_by (N := NHj) (sc := defScope sHasJust) (by decide +kernel)) (fun _ _ _ _ _ => pg_name (i := 2) nd rfl (Or.inl rfl)) (fun _ _ _ _ _ => pts_nil)
      (fun _ _ _ _ _ => pe_cmp (pc_din hu (pv 2) (pv 0))))) pa_nil)))))), ?_⟩
  have les : es.length = ns.length := by
    have z := congrArg List.length ek
    rwa [List.length_map, List.length_map] at z
  rcases hq with ⟨⟨t, h1, h2⟩, hq⟩ | ⟨d, kvs, rfl, dD, od, shk, hq⟩
  · exact ⟨_, rfl, _, _, _, _, false, rfl, .ty _, h1, kit_ty h2, _, rfl, iteF hq⟩
  · refine ⟨_, rfl, _, _, _, _, true, rfl, .ty _, .base (.dK od), kit_ty (by decide +kernel), _, rfl, iteT ?_⟩
    have ed : decide (V.int (kvs.length : Nat) = V.int (es.length : Nat)) = decide (kvs.length = ns.length) := decide_eq_decide.mpr ⟨fun h => by have := V.int.inj h; omega, fun h => by rw [h, les]⟩
    refine ⟨_, rfl, d, kvs, rfl, od, _, rfl, D, es, rfl, oD, rfl, decide (kvs.length = ns.length), congrArg V.bl ed, ?_⟩
    by_cases c : kvs.length = ns.length
    · rw [decide_eq_true c]
      refine iteT ⟨D, _, oD, trivial, fun oo => ⟨_, rfl, D, oo, rfl, .inl ⟨es, upd_same, ?_⟩⟩⟩
      have oL : upd H D (.frz oo (.dK es)) D = some (.frz oo (.dK es)) := upd_same
      refine lc_gen ((ns.map fun n => (valV kvs (Sum.inr n)).isSome).map V.bl) (by rw [List.length_map, List.length_map]; omega) (fun i H' s lt => ⟨s _ _ oL, by rw [List.length_map, List.length_map] at lt; omega⟩) (fun H' s => ⟨s _ _ oL, by rw [List.length_map, List.length_map]; omega⟩) ?_ ?_
      · rintro i y b H2 H3 Cn Nn eb s2 ⟨rfl, k0, v0, ekv, rfl⟩ yes
        have e1 : (es.map (·.1))[i]? = some k0 := by rw [List.getElem?_map, ekv]; rfl
        rw [ek, List.getElem?_map] at e1
        obtain ⟨n, en, rfl⟩ := Option.map_eq_some_iff.mp e1
        rw [List.getElem?_map, List.getElem?_map, en] at eb
        obtain rfl := Option.some.inj eb
        have od3 := s2 _ _ (show upd H D (.frz oo (.dK es)) d = _ by rw [upd_ne dD]; exact od)
        refine ⟨rfl, ?_⟩
        refine ⟨_, rfl, _, rfl, d, _, rfl, DGet.k (k := Sum.inr n) od3, ?_⟩
        exact yes H3 (Same.refl _)
      · intro H2 q nq oq s2
        obtain ⟨b1, s12⟩ := lock_offN oD s2
        have qD : q ≠ D := fun z => by rw [z, upd_same] at nq; cases nq
        refine ⟨b1, q, _, rfl, SqL.of (by rw [upd_ne qD]; exact oq), ?_⟩
        have e : justB kvs ns = (ns.map fun n => (valV kvs (Sum.inr n)).isSome).all id := by
          unfold justB
          rw [decide_eq_true c, List.all_map]
          rfl
        rw [← e]
        exact hq _ s12
    · rw [decide_eq_false c]
      have z := hq H (Same.refl _)
      have e : justB kvs ns = false := by unfold justB; rw [decide_eq_false c]; rfl
      rw [e] at z
      exact iteF z
end
end L2.TB
/-! a net in the heap; _is_world of anything -/
namespace L2.TB
open PySem PySem.Spec PyProof.Rows
noncomputable def liveB (arcs : NtT) (e : Str × ArT) : Bool := @decide (Reach (edgesOf arcs) e.2.2 e.2.1) (Classical.propDecidable _)
theorem liveB_iff {arcs : NtT} {e : Str × ArT} : liveB arcs e = true ↔ Reach (edgesOf arcs) e.2.2 e.2.1 := by
  unfold liveB
  exact @decide_eq_true_iff _ (Classical.propDecidable _)
noncomputable def liveL (arcs : NtT) : List Str := (arcs.filter (liveB arcs)).map (·.1)
abbrev ntF (D N Lv : Addr) : List (Str × V) := [("_arcs", .ref D), ("_nodes", .ref N), ("_live", .ref Lv)]
structure NetA (A : Addr → Prop) (H : Hp) (C x : Addr) (arcs : NtT) : Prop where
  ex : ∃ dx D N Lv, H x = some (.ins C dx (ntF D N Lv)) ∧ PyD.at_ A H (.ref D) (Dc.mk arcs) ∧ A N ∧ H N = some (.lst ((nodesL arcs).map V.str)) ∧ A Lv ∧ H Lv = some (.lst ((liveL arcs).map V.str))
theorem NetA.keep {A A' : Addr → Prop} {H H' : Hp} {C x : Addr} {arcs : NtT} (h : NetA A H C x arcs) (hx : ∀ o, H x = some o → H' x = some o) (k : ∀ b o, A b → H b = some o → A' b ∧ H' b = some o) : NetA A' H' C x arcs := by
  obtain ⟨dx, D, N, Lv, h1, h2, a1, h3, a2, h4⟩ := h.ex
  exact ⟨dx, D, N, Lv, hx _ h1, PyD.kp h2 k, (k _ _ a1 h3).1, (k _ _ a1 h3).2, (k _ _ a2 h4).1, (k _ _ a2 h4).2⟩
theorem NetA.same {A : Addr → Prop} {H H' : Hp} {C x : Addr} {arcs : NtT} (h : NetA A H C x arcs) (s : Same H H') : NetA A H' C x arcs := h.keep (fun o e => s _ _ e) fun b o a e => ⟨a, s _ _ e⟩
/-- what is asked of arcs -/
structure NtOk (arcs : NtT) : Prop where
  n0 : 0 < arcs.length
  n1 : arcs.length < 300
  nd : (arcs.map (·.1)).Nodup
  nm : ∀ e ∈ arcs, NmOk e.1 ∧ NmOk e.2.1 ∧ NmOk e.2.2
def cntB : V → Bool
  | .int k => decide (0 ≤ k)
  | _ => false
def intV : V → Int
  | .int k => k
  | _ => 0
/-- whether values are a world of a net -/
def valsB (vv : Str → V) (arcs : NtT) : Bool := (arcs.all fun e => cntB (vv e.1)) && (nodesL arcs).all fun n => decide (inwL (fun x => intV (vv x)) [n] arcs = 0)
inductive WTh (K : PySem.W.Frag) (H : Hp) (arcs : NtT) : V → Bool → Prop
  | no {v : V} (h : NoDict K H v) : WTh K H arcs v false
  | bad {d : Addr} {kvs : List (Key × V)} (o : H d = some (.dK kvs)) (sh : kvs.length < 2000) (j : justB kvs (arcs.map (·.1)) = false) : WTh K H arcs (.ref d) false
  | val {d : Addr} {kvs : List (Key × V)} (o : H d = some (.dK kvs)) (sh : kvs.length < 2000) (j : justB kvs (arcs.map (·.1)) = true) (vv : Str → V) (hv : ∀ e ∈ arcs, valV kvs (Sum.inr e.1) = some (vv e.1) ∧ Atom (vv e.1)) : WTh K H arcs (.ref d) (valsB vv arcs)
theorem WTh.same {K : PySem.W.Frag} {H H' : Hp} {arcs : NtT} {v : V} {b : Bool} (h : WTh K H arcs v b) (s : Same H H') : WTh K H' arcs v b := by
  cases h with
  | no h => exact .no (h.same s)
  | bad o sh j => exact .bad (s _ _ o) sh j
  | val o sh j vv hv => exact .val (s _ _ o) sh j vv hv
theorem cnt_noInt {K : PySem.W.Frag} {H : Hp} {v : V} (a : Atom v) : (∃ k, v = .int k) ∨ (NoInt K H v ∧ cntB v = false) := by
  cases a with
  | str x => exact .inr ⟨.ty (.base (.str x)) (by decide +kernel), rfl⟩
  | int i => exact .inl ⟨i, rfl⟩
  | bl b => exact .inr ⟨.bl b, rfl⟩
  | non => exact .inr ⟨.ty (.base .non) (by decide +kernel), rfl⟩
/-- the dict of a net is no such thing -/
theorem wth_far {A : Addr → Prop} {H : Hp} {arcs : NtT} {D d : Addr} {kvs es : List (Key × V)} (n0 : 0 < arcs.length) (rnd : (arcs.map (·.1)).Nodup) (oD : H D = some (.dK es)) (pr : Paired (DcE A H) es arcs) (od : H d = some (.dK kvs)) (h : justB kvs (arcs.map (·.1)) = false ∨ ∃ vv : Str → V, ∀ e ∈ arcs, valV kvs (Sum.inr e.1) = some (vv e.1) ∧ Atom (vv e.1)) : d ≠ D := fun z => by
  rw [z, oD] at od
  obtain rfl := HO.dK.inj (Option.some.inj od)
  have kd : es.map (·.1) = (arcs.map (·.1)).map Sum.inr := dc_keys pr
  rcases h with h | ⟨vv, hv⟩
  · have e : justB es (arcs.map (·.1)) = true := by
      unfold justB
      rw [decide_eq_true (by rw [List.length_map]; exact Paired.length pr), List.all_eq_true.mpr fun n hn => ?_]
      · rfl
      · obtain ⟨v, ev⟩ := (val_inS kd n).1 hn
        rw [ev]; rfl
    rw [e] at h; cases h
  · obtain ⟨e, he⟩ : ∃ e, e ∈ arcs := ⟨_, List.getElem_mem n0⟩
    obtain ⟨v, ev, t, y, z, hv2, _⟩ := val_atD pr (lk_mem rnd he)
    obtain ⟨h1, h2⟩ := hv e he
    rw [ev] at h1
    rw [← Option.some.inj h1, hv2] at h2
    cases h2
def spMIsWorld (K : PySem.W.Frag) (C : Addr) : Sp := fun vs H Q _ => ∃ (x : Addr) (v : V) (arcs : NtT) (A : Addr → Prop) (b : Bool), vs = [.ref x, v] ∧ NetA A H C x arcs ∧ NtOk arcs ∧ WTh K H arcs v b ∧ ∀ H', Same H H' → Q (.bl b) H'
abbrev NIm : List Str := ["self", "thing", "name", "node"]
section
variable {P : Program} {w : World} {K : PySem.W.Frag} {mg : Str → Option Value} {base : Heap} {f C fJ fI fC : Addr} {fd fdJ fdI fdC : FuncData}
end
end L2.TB
/-! is_pair, _is_arc of anything -/
namespace L2.TB
open PySem PySem.Spec PyProof.Rows
inductive NmTh (K : PySem.W.Frag) (H : Hp) : V → Bool → Prop
  | str {x : Str} (short : x.cps.toList.length < 1000) : NmTh K H (.str x) (nmB x)
  | no {v : V} (h : NoStr K H v) : NmTh K H v false
theorem NmTh.same {K : PySem.W.Frag} {H H' : Hp} {v : V} {b : Bool} (h : NmTh K H v b) (s : Same H H') : NmTh K H' v b := by
  cases h with
  | str sh => exact .str sh
  | no h => exact .no (h.same s)
inductive ArcTh (K : PySem.W.Frag) (H : Hp) : V → Bool → Prop
  | no {v : V} (h : NoSeq K H v) : ArcTh K H v false
  | len {a : Addr} {xs : List V} (h : SqA K H a xs) (n : xs.length ≠ 2) (sh : xs.length < 1000) : ArcTh K H (.ref a) false
  | two {a : Addr} {u v : V} {b c : Bool} (h : SqA K H a [u, v]) (h1 : NmTh K H u b) (h2 : NmTh K H v c) : ArcTh K H (.ref a) (b && c)
theorem ArcTh.same {K : PySem.W.Frag} {H H' : Hp} {v : V} {b : Bool} (h : ArcTh K H v b) (s : Same H H') : ArcTh K H' v b := by
  cases h with
  | no h => exact .no (h.same s)
  | len h n sh => exact .len (h.same s) n sh
  | two h h1 h2 => exact .two (h.same s) (h1.same s) (h2.same s)
def spPairG (K : PySem.W.Frag) : Sp := fun vs H Q _ => ∃ v : V, vs = [v] ∧ ((NoSeq K H v ∧ ∀ H', Same H H' → Q (.bl false) H') ∨ ∃ a xs, v = .ref a ∧ SqA K H a xs ∧ xs.length < 1000 ∧ ∀ H', Same H H' → Q (.bl (decide (xs.length = 2))) H')
theorem scIsPair : FnScope ["thing"] ["thing"] (defScope sIsPair) := ⟨rfl, rfl, rfl, by decide +kernel, rfl, by decide +kernel, by decide +kernel⟩
def spArcG (K : PySem.W.Frag) : Sp := fun vs H Q _ => ∃ (v : V) (b : Bool), vs = [v] ∧ ArcTh K H v b ∧ ∀ H', Same H H' → Q (.bl b) H'
theorem scIsArc : FnScope ["thing"] ["thing"] (defScope sIsArc) := ⟨rfl, rfl, rfl, by decide +kernel, rfl, by decide +kernel, by decide +kernel⟩
section
variable {P : Program} {w : World} {K : PySem.W.Frag} {mg : Str → Option Value} {base : Heap} {f fL fP fN : Addr} {fd fdL fdP fdN : FuncData}
theorem ok_pairG (F : Fun K "is_pair" "is_pair" sIsPair f fd) (FL : Fun K "is_list" "is_list" sIsList fL fdL) (gL : mg "is_list" = some (.ref fL)) (nI : mg "isinstance" = none) (nL : mg "list" = none) (nT : mg "tuple" = none) (nN : mg "len" = none) : FnOk P w K mg base CX0 2 f fd ["thing"] (spPairG K) := by
  have GL : FnOk P w K mg base CX0 1 fL fdL ["thing"] (spIsListG K) := ok_isListG FL nI nL nT
  have bL := FL.binds (ps := ["thing"]) fun _ _ _ _ _ _ us hl => match us, hl with | [_], _ => rfl
  refine F.ok scIsPair (fun vs H Q E h => by obtain ⟨v, e, _⟩ := h; rw [e]; rfl) fun cdv A outer s H vs Q E hr hsp => ?_
  obtain ⟨v, rfl, hq⟩ := hsp
  refine ⟨_, pss_one (ps_ret (pe_and (pe_call GL hr rfl gL FL.kp bL .nil pass0 (pa_cons (pv 0) pa_nil)) (pe_one (pe_cmpR op_eq (pe_callB call_len rfl nN boot_len (pa_cons (pv 0) pa_nil)) pe_int (nomark _))))), ?_⟩
  rcases hq with ⟨h, hq⟩ | ⟨a, xs, rfl, h, sh, hq⟩
  · exact ⟨_, rfl, v, rfl, .inr ⟨h, fun H1 k1 => ⟨_, rfl, iteF (hq H1 k1)⟩⟩⟩
  · refine ⟨_, rfl, _, rfl, .inl ⟨⟨a, xs, rfl, h⟩, fun H1 k1 => ⟨_, rfl, iteT ?_⟩⟩⟩
    have ed : decide (V.int (xs.length : Nat) = V.int 2) = decide (xs.length = 2) := decide_eq_decide.mpr ⟨fun h => by have := V.int.inj h; omega, fun h => by rw [h]; rfl⟩
    have z := hq H1 k1
    rw [← ed] at z
    refine ⟨_, rfl, .ref a, xs.length, rfl, ?_, rfl, z⟩
    rcases h.same k1 with e | e
    · exact .inl ⟨_, SqL.of e, rfl⟩
    · exact .inr ⟨_, SqT.of e, rfl⟩
theorem ok_arcG (F : Fun K "_is_arc" "_is_arc" sIsArc f fd) (FP : Fun K "is_pair" "is_pair" sIsPair fP fdP) (gP : mg "is_pair" = some (.ref fP)) (GP : FnOk P w K mg base CX0 2 fP fdP ["thing"] (spPairG K)) (FN : Fun K "is_name" "is_name" sIsName fN fdN) (gN : mg "is_name" = some (.ref fN)) (GN : FnOk P w K mg base CX0 1 fN fdN ["thing"] (spIsNameG K)) : FnOk P w K mg base CX0 3 f fd ["thing"] (spArcG K) := by
  have bP := FP.binds (ps := ["thing"]) fun _ _ _ _ _ _ us hl => match us, hl with | [_], _ => rfl
  have bN := FN.binds (ps := ["thing"]) fun _ _ _ _ _ _ us hl => match us, hl with | [_], _ => rfl
  refine F.ok scIsArc (fun vs H Q E h => by obtain ⟨v, b, e, _⟩ := h; rw [e]; rfl) fun cdv A outer s H vs Q E hr hsp => ?_
  obtain ⟨v, b, rfl, ta, hq⟩ := hsp
  refine ⟨_, pss_one (ps_ret (pe_and (pe_call GP hr rfl gP FP.kp bP .nil pass0 (pa_cons (pv 0) pa_nil)) (pe_and (pe_call GN (hr.mono (by decide)) rfl gN FN.kp bN .nil pass0 (pa_cons (pe_ix (r := rIx K) ix_seq (pv 0) pe_int (fun _ _ => rfl)) pa_nil)) (pe_one (pe_call GN (hr.mono (by decide)) rfl gN FN.kp bN .nil pass0 (pa_cons (pe_ix (r := rIx K) ix_seq (pv 0) pe_int (fun _ _ => rfl)) pa_nil)))))), ?_⟩
  cases ta with
  | no h => exact ⟨_, rfl, v, rfl, .inl ⟨h, fun H1 k1 => ⟨_, rfl, iteF (hq H1 k1)⟩⟩⟩
  | @len a xs h n sh =>
    refine ⟨_, rfl, _, rfl, .inr ⟨a, xs, rfl, h, sh, fun H1 k1 => ?_⟩⟩
    rw [decide_eq_false n]
    exact ⟨_, rfl, iteF (hq H1 k1)⟩
  | @two a u v b c h h1 h2 =>
    refine ⟨_, rfl, _, rfl, .inr ⟨a, _, rfl, h, by show 2 < 1000; decide, fun H1 k1 => ?_⟩⟩
    refine ⟨_, rfl, iteT ?_⟩
    have ixa : ∀ {H' : Hp} {j : Int} {y : V} {R : VK}, Same H H' → atI [u, v] j = some y → R y H' → rIx K (.ref a) (.int j) H' R := fun s e r => by
      rcases h.same s with z | z
      · exact .inl ⟨a, _, _, _, rfl, rfl, SqL.of z, e, r⟩
      · exact .inr (.inl ⟨a, _, _, _, rfl, rfl, SqT.of z, e, r⟩)
    refine ⟨_, rfl, ixa k1 rfl ?_⟩
    have rest : ∀ H2, Same H H2 → NmTh K H2 v c := fun H2 s => h2.same s
    cases h1.same k1 with
    | @no u h =>
      refine ⟨_, rfl, .inr ⟨h, _, rfl, iteF ?_⟩⟩
      have z := hq H1 k1
      rw [Bool.false_and] at z
      exact z
    | @str x sh =>
      refine ⟨_, rfl, .inl ⟨x, rfl, sh, fun H2 k2 => ?_⟩⟩
      have k02 := k1.trans k2
      cases hb : nmB x with
      | false =>
        rw [hb] at hq
        have z := hq H2 k02
        rw [Bool.false_and] at z
        exact ⟨_, rfl, iteF z⟩
      | true =>
        rw [hb] at hq
        refine ⟨_, rfl, iteT ⟨_, rfl, ixa k02 rfl ?_⟩⟩
        cases rest H2 k02 with
        | @no v h =>
          have z := hq H2 k02
          rw [Bool.and_false] at z
          exact ⟨_, rfl, .inr ⟨h, z⟩⟩
        | @str y sh2 =>
          refine ⟨_, rfl, .inl ⟨y, rfl, sh2, fun H3 k3 => ?_⟩⟩
          have z := hq H3 (k02.trans k3)
          rw [Bool.true_and] at z
          exact z
end
end L2.TB
/-! steps along some arcs, back, either way -/
namespace L2.TB
open PySem PySem.Spec PyProof.Rows
def onS (e : Str × ArT) : StpT := (e.1, 1, e.2.1, e.2.2)
def bkS (e : Str × ArT) : StpT := (e.1, -1, e.2.2, e.2.1)
def eiS (L : NtT) : List StpT := L.map onS ++ L.map bkS
def eithE (L : NtT) : List ArT := (eiS L).map edgS
/-- steps made of some arcs -/
def spStp (sf : Str × ArT → StpT) : Sp := fun vs H Q _ => ∃ (D q : Addr) (arcs L : NtT) (A : Addr → Prop), vs = [.ref D, .ref q] ∧ PyD.at_ A H (.ref D) (Dc.mk arcs) ∧ H q = some (.lst ((L.map (·.1)).map V.str)) ∧ (∀ e ∈ L, e ∈ arcs) ∧ L.length < 1000 ∧ ∀ H' r ts, H r = none → H' r = some (.lst (ts.map V.ref)) → Paired (StepA H') ts (L.map sf) → Same H H' → Q (.ref r) H'
def spEith : Sp := fun vs H Q _ => ∃ (D q : Addr) (arcs L : NtT) (A : Addr → Prop), vs = [.ref D, .ref q] ∧ PyD.at_ A H (.ref D) (Dc.mk arcs) ∧ H q = some (.lst ((L.map (·.1)).map V.str)) ∧ (∀ e ∈ L, e ∈ arcs) ∧ L.length < 400 ∧ ∀ H' r ts, H r = none → H' r = some (.lst (ts.map V.ref)) → Paired (StepA H') ts (eiS L) → Same H H' → Q (.ref r) H'
theorem scBk : FnScope NOw ["arcs", "names"] (defScope sBack) := ⟨rfl, rfl, rfl, by decide +kernel, rfl, by decide +kernel, by decide +kernel⟩
theorem scEi : FnScope ["arcs", "names"] ["arcs", "names"] (defScope sEither) := ⟨rfl, rfl, rfl, by decide +kernel, rfl, by decide +kernel, by decide +kernel⟩
theorem step_map {α : Type} {H : Hp} {f : α → StpT} {ts : List Addr} {L : List α} (h : Paired (fun t a => StepA H t (f a)) ts L) : Paired (StepA H) ts (L.map f) := by
  induction h with
  | nil => exact .nil
  | cons h _ ih => exact .cons h ih
/-- what arcs tell of one of them -/
theorem arc_at {A : Addr → Prop} {H : Hp} {D : Addr} {arcs : NtT} (h : PyD.at_ A H (.ref D) (Dc.mk arcs)) {e : Str × ArT} (he : e ∈ arcs) : ∃ es t, H D = some (.dK es) ∧ valV es (Sum.inr e.1) = some (.ref t) ∧ A t ∧ H t = some (.tup [.str e.2.1, .str e.2.2]) := by
  obtain ⟨D', es, e1, aD, oD, rnd, pr⟩ := h
  obtain rfl := V.ref.inj e1
  obtain ⟨v, ev, t, y, z, hv, at_, ot, hy, hz⟩ := val_atD pr (lk_mem rnd he)
  have hy : y = .str e.2.1 := hy
  have hz : z = .str e.2.2 := hz
  subst hv hy hz
  exact ⟨es, t, oD, ev, at_, ot⟩
section
variable {P : Program} {w : World} {K : PySem.W.Frag} {mg : Str → Option Value} {base : Heap} {f fO fB : Addr} {fd fdO fdB : FuncData}
theorem ok_onL (F : Fun K "onward" "onward" sOnward f fd) : FnOk P w K mg base CX0 1 f fd ["arcs", "names"] (spStp onS) := by
  refine F.ok scOnw (fun vs H Q E h => by obtain ⟨D, q, arcs, L, A, e, _⟩ := h; rw [e]; rfl) fun cdv A outer s H vs Q E hr hsp => ?_
  obtain ⟨D, q, arcs, L, A0, rfl, at_, oq, sub, sh, hq⟩ := hsp
  have nd := scOnw.nd
  have hu := hu_of hr
  refine ⟨_, pss_one (ps_ret (pe_lc (own := [("name", 2)]) (tt := tYes) (g := gName 2) (te := tTup (tCons (tVar 2) (tCons (tC (.int 1)) (tCons (tOp (rIx K) (tDGet (tVar 0) (tVar 2)) (tC (.int 0))) (tCons (tOp (rIx K) (tDGet (tVar 0) (tVar 2)) (tC (.int 1))) tNil))))) rfl nd (pi_list (pv 1)) (blkOk_by (N := NOw) (sc := defScope sOnward) (by decide +kernel))
    (fun _ _ _ _ _ => pg_name (i := 2) nd rfl (Or.inl rfl)) (fun _ _ _ _ _ => pts_nil) (fun _ _ _ _ _ => pe_tup (pa_cons (pv 2) (pa_cons (pe_int) (pa_cons (pe_ix (r := rIx K) ix_seq (pe_dget hu (pv 0) (pv 2) (fun _ _ => rfl)) pe_int (fun _ _ => rfl)) (pa_cons (pe_ix (r := rIx K) ix_seq (pe_dget hu (pv 0) (pv 2) (fun _ _ => rfl)) pe_int (fun _ _ => rfl)) pa_nil))))))), ?_⟩
  refine ⟨_, rfl, q, rfl, ⟨_, SqL.of oq⟩, ?_⟩
  have ll : ((L.map (·.1)).map V.str).length = L.length := by rw [List.length_map, List.length_map]
  refine lc_made L.length (by omega) (fun i H' s lt => ⟨_, _, SqL.of (s _ _ oq), List.getElem?_eq_getElem (by rw [ll]; exact lt)⟩) (fun H' s => ⟨_, SqL.of (s _ _ oq), by rw [ll]; exact Nat.le_refl _⟩)
    (fun i y H' => ∃ t e, y = .ref t ∧ L[i]? = some e ∧ StepA H' t (onS e)) (fun i y H1 H2 C l ⟨t, e, ey, ea, st⟩ hC keep => ⟨t, e, ey, ea, keep _ _ (fun z => by unfold StepA at st; rw [z, hC] at st; cases st) st⟩) ?_ ?_
  · rintro i y H2 H3 Cn Nn lt s2 ⟨rfl, ev⟩ yes
    have ev := ev _ (SqL.of (s2 _ _ oq))
    rw [List.getElem?_map, List.getElem?_map] at ev
    obtain ⟨n, en, rfl⟩ := Option.map_eq_some_iff.mp ev
    obtain ⟨e, ee, rfl⟩ := Option.map_eq_some_iff.mp en
    obtain ⟨es, t0, oD, ev0, _, ot⟩ := arc_at at_ (sub e (List.mem_of_getElem? ee))
    have op3 := s2 _ _ ot
    have dg : DGet H3 D (.str e.1) (some (.ref t0)) := .inl ⟨es, Sum.inr e.1, .inl (s2 _ _ oD), rfl, ev0.symm⟩
    refine ⟨rfl, ?_⟩
    refine ⟨_, rfl, _, rfl, _, rfl, D, _, rfl, dg, .inr (.inl ⟨t0, _, _, _, rfl, rfl, SqT.of op3, rfl, ?_⟩)⟩
    refine ⟨_, rfl, _, rfl, D, _, rfl, dg, .inr (.inl ⟨t0, _, _, _, rfl, rfl, SqT.of op3, rfl, ?_⟩)⟩
    exact ⟨(by show 4 ≤ sizeLine; decide), fun t nt => yes _ _ ⟨t, e, rfl, ee, upd_same⟩ (same_new nt)⟩
  · intro H2 r ys nr or ly ry s2
    obtain ⟨ts, rfl, pt⟩ := addrs_of (H := H2) (P := fun i t => ∃ e, L[i]? = some e ∧ StepA H2 t (onS e)) ys 0 fun j y ey => by
      obtain ⟨t, e, rfl, h1, h2⟩ := ry j y ey
      exact ⟨t, rfl, e, by rw [Nat.zero_add]; exact h1, h2⟩
    rw [List.length_map] at ly
    refine hq _ r ts nr or (step_map (paired_of _ _ ly fun i t e et ee => ?_)) s2
    obtain ⟨e', ee', st⟩ := pt i t et
    rw [Nat.zero_add, ee] at ee'
    obtain rfl := Option.some.inj ee'
    exact st
theorem ok_bkL (F : Fun K "back" "back" sBack f fd) : FnOk P w K mg base CX0 1 f fd ["arcs", "names"] (spStp bkS) := by
  refine F.ok scBk (fun vs H Q E h => by obtain ⟨D, q, arcs, L, A, e, _⟩ := h; rw [e]; rfl) fun cdv A outer s H vs Q E hr hsp => ?_
  obtain ⟨D, q, arcs, L, A0, rfl, at_, oq, sub, sh, hq⟩ := hsp
  have nd := scBk.nd
  have hu := hu_of hr
  refine ⟨_, pss_one (ps_ret (pe_lc (own := [("name", 2)]) (tt := tYes) (g := gName 2) (te := tTup (tCons (tVar 2) (tCons (tUn (rU fun i => .int (-i)) (tC (.int 1))) (tCons (tOp (rIx K) (tDGet (tVar 0) (tVar 2)) (tC (.int 1))) (tCons (tOp (rIx K) (tDGet (tVar 0) (tVar 2)) (tC (.int 0))) tNil))))) rfl nd (pi_list (pv 1)) (blkOk_by (N := NOw) (sc := defScope sBack) (by decide +kernel))
    (fun _ _ _ _ _ => pg_name (i := 2) nd rfl (Or.inl rfl)) (fun _ _ _ _ _ => pts_nil) (fun _ _ _ _ _ => pe_tup (pa_cons (pv 2) (pa_cons (pe_un un_neg pe_int) (pa_cons (pe_ix (r := rIx K) ix_seq (pe_dget hu (pv 0) (pv 2) (fun _ _ => rfl)) pe_int (fun _ _ => rfl)) (pa_cons (pe_ix (r := rIx K) ix_seq (pe_dget hu (pv 0) (pv 2) (fun _ _ => rfl)) pe_int (fun _ _ => rfl)) pa_nil))))))), ?_⟩
  refine ⟨_, rfl, q, rfl, ⟨_, SqL.of oq⟩, ?_⟩
  have ll : ((L.map (·.1)).map V.str).length = L.length := by rw [List.length_map, List.length_map]
  refine lc_made L.length (by omega) (fun i H' s lt => ⟨_, _, SqL.of (s _ _ oq), List.getElem?_eq_getElem (by rw [ll]; exact lt)⟩) (fun H' s => ⟨_, SqL.of (s _ _ oq), by rw [ll]; exact Nat.le_refl _⟩)
    (fun i y H' => ∃ t e, y = .ref t ∧ L[i]? = some e ∧ StepA H' t (bkS e)) (fun i y H1 H2 C l ⟨t, e, ey, ea, st⟩ hC keep => ⟨t, e, ey, ea, keep _ _ (fun z => by unfold StepA at st; rw [z, hC] at st; cases st) st⟩) ?_ ?_
  · rintro i y H2 H3 Cn Nn lt s2 ⟨rfl, ev⟩ yes
    have ev := ev _ (SqL.of (s2 _ _ oq))
    rw [List.getElem?_map, List.getElem?_map] at ev
    obtain ⟨n, en, rfl⟩ := Option.map_eq_some_iff.mp ev
    obtain ⟨e, ee, rfl⟩ := Option.map_eq_some_iff.mp en
    obtain ⟨es, t0, oD, ev0, _, ot⟩ := arc_at at_ (sub e (List.mem_of_getElem? ee))
    have op3 := s2 _ _ ot
    have dg : DGet H3 D (.str e.1) (some (.ref t0)) := .inl ⟨es, Sum.inr e.1, .inl (s2 _ _ oD), rfl, ev0.symm⟩
    refine ⟨rfl, ?_⟩
    refine ⟨_, rfl, _, rfl, _, rfl, _, rfl, D, _, rfl, dg, .inr (.inl ⟨t0, _, _, _, rfl, rfl, SqT.of op3, rfl, ?_⟩)⟩
    refine ⟨_, rfl, _, rfl, D, _, rfl, dg, .inr (.inl ⟨t0, _, _, _, rfl, rfl, SqT.of op3, rfl, ?_⟩)⟩
    exact ⟨(by show 4 ≤ sizeLine; decide), fun t nt => yes _ _ ⟨t, e, rfl, ee, upd_same⟩ (same_new nt)⟩
  · intro H2 r ys nr or ly ry s2
    obtain ⟨ts, rfl, pt⟩ := addrs_of (H := H2) (P := fun i t => ∃ e, L[i]? = some e ∧ StepA H2 t (bkS e)) ys 0 fun j y ey => by
      obtain ⟨t, e, rfl, h1, h2⟩ := ry j y ey
      exact ⟨t, rfl, e, by rw [Nat.zero_add]; exact h1, h2⟩
    rw [List.length_map] at ly
    refine hq _ r ts nr or (step_map (paired_of _ _ ly fun i t e et ee => ?_)) s2
    obtain ⟨e', ee', st⟩ := pt i t et
    rw [Nat.zero_add, ee] at ee'
    obtain rfl := Option.some.inj ee'
    exact st
theorem ok_eith (F : Fun K "either_way" "either_way" sEither f fd) (FO : Fun K "onward" "onward" sOnward fO fdO) (gO : mg "onward" = some (.ref fO)) (FB : Fun K "back" "back" sBack fB fdB) (gB : mg "back" = some (.ref fB)) : FnOk P w K mg base CX0 2 f fd ["arcs", "names"] spEith := by
  have GO : FnOk P w K mg base CX0 1 fO fdO ["arcs", "names"] (spStp onS) := ok_onL FO
  have bO := FO.binds (ps := ["arcs", "names"]) fun _ _ _ _ _ _ us hl => match us, hl with | [_, _], _ => rfl
  have GB : FnOk P w K mg base CX0 1 fB fdB ["arcs", "names"] (spStp bkS) := ok_bkL FB
  have bB := FB.binds (ps := ["arcs", "names"]) fun _ _ _ _ _ _ us hl => match us, hl with | [_, _], _ => rfl
  refine F.ok scEi (fun vs H Q E h => by obtain ⟨D, q, arcs, L, A, e, _⟩ := h; rw [e]; rfl) fun cdv A outer s H vs Q E hr hsp => ?_
  obtain ⟨D, q, arcs, L, A0, rfl, at_, oq, sub, sh, hq⟩ := hsp
  refine ⟨_, pss_one (ps_ret (pe_op op_cat (pe_call GO hr rfl gO FO.kp bO .nil pass0 (pa_cons (pv 0) (pa_cons (pv 1) pa_nil))) (pe_call GB hr rfl gB FB.kp bB .nil pass0 (pa_cons (pv 0) (pa_cons (pv 1) pa_nil))))), ?_⟩
  refine ⟨_, rfl, _, rfl, D, q, arcs, L, A0, rfl, at_, oq, sub, by omega, fun H1 r1 ts1 n1 o1 p1 k1 => ?_⟩
  refine ⟨_, rfl, _, rfl, D, q, arcs, L, A0, rfl, PyD.kp at_ (fun b o a e => ⟨a, k1 _ _ e⟩), k1 _ _ oq, sub, by omega, fun H2 r2 ts2 n2 o2 p2 k2 => ?_⟩
  have l1 := Paired.length p1
  have l2 := Paired.length p2
  rw [List.length_map] at l1 l2
  refine ⟨r1, r2, _, _, rfl, rfl, k2 _ _ o1, o2, by rw [List.length_map, List.length_map, sizeLine_eq]; omega, fun r nr => ?_⟩
  have k3 := same_new (o := .lst (ts1.map V.ref ++ ts2.map V.ref)) nr
  refine hq _ r (ts1 ++ ts2) ?_ (by rw [upd_same, List.map_append]) (paired_appR (Paired.mapP p1 fun t s h => (k2.trans k3) _ _ h) (Paired.mapP p2 fun t s h => k3 _ _ h)) ((k1.trans k2).trans k3)
  cases z : H r with
  | none => rfl
  | some o => rw [(k1.trans k2) _ _ z] at nr; cases nr
end
end L2.TB
/-! way_to; is_joined; ring_through -/
namespace L2.TB
open PySem PySem.Spec PyProof.Rows
def spWayTo (K : PySem.W.Frag) : Sp := fun vs H Q _ => ∃ (FD : Addr) (n b : Str) (es : List (Key × V)) (F : FoT) (L : List StpT), vs = [.ref FD, .str n] ∧ H FD = some (.dK es) ∧ Paired (FE H) es F ∧ FOk L b F ∧ n ∈ F.map (·.1) ∧ F.length < 1000 ∧
  ∀ H' q ts W, H q = none → H' q = some (.lst ((ts : List Addr).map V.ref)) → Paired (StepA H') ts W → (∀ s ∈ W, s ∈ L) → W.length < F.length → Same H H' → Q (.ref q) H'
abbrev NWt : List Str := ["found", "node", "way"]
def FV (H : Hp) (v : V) : Option StpT → Prop
  | none => v = .non
  | some s => ∃ t, v = .ref t ∧ StepA H t s
theorem fe_val {H : Hp} {es : List (Key × V)} {F : FoT} (h : Paired (FE H) es F) (nd : (F.map (·.1)).Nodup) {i : Nat} {n : Str} {o : Option StpT} (e : F[i]? = some (n, o)) : ∃ v, valV es (Sum.inr n) = some v ∧ FV H v o := by
  have ek := fe_keys h
  have lt := (List.getElem?_eq_some_iff.mp e).1
  have le : i < es.length := by rw [Paired.length h]; exact lt
  obtain ⟨p, ep, hp⟩ := paired_get h (List.getElem?_eq_getElem le)
  rw [e] at ep
  obtain rfl := Option.some.inj ep
  have ndes : (es.map (·.1)).Nodup := by rw [ek]; exact nd_inr nd
  have z := valV_atN (k := es[i].1) (x := es[i].2) ndes (List.getElem?_eq_getElem le)
  refine ⟨es[i].2, ?_, ?_⟩
  · rw [← z, hp.1]
  · cases o with
    | none => exact hp.2
    | some s => exact hp.2
section
variable {P : Program} {w : World} {K : PySem.W.Frag} {mg : Str → Option Value} {base : Heap} {f : Addr} {fd : FuncData}
end
end L2.TB
/-! Net.__init__ -/
namespace L2.TB
open PySem PySem.Spec PyProof.Rows
def HandArc (K : PySem.W.Frag) (A : Addr → Prop) (H : Hp) (e : Key × V) (q : Str × ArT) : Prop := e.1 = Sum.inr q.1 ∧ ∃ p, e.2 = .ref p ∧ A p ∧ SqA K H p [.str q.2.1, .str q.2.2]
theorem HandArc.keep {K : PySem.W.Frag} {A A' : Addr → Prop} {H H' : Hp} {e : Key × V} {q : Str × ArT} (h : HandArc K A H e q) (k : ∀ b o, A b → H b = some o → A' b ∧ H' b = some o) : HandArc K A' H' e q := by
  obtain ⟨h1, p, h2, a, s⟩ := h
  have hp : ∃ o, H p = some o := s.elim (fun h => ⟨_, h⟩) (fun h => ⟨_, h⟩)
  obtain ⟨o, ho⟩ := hp
  exact ⟨h1, p, h2, (k _ _ a ho).1, s.kp fun o h => (k _ _ a h).2⟩
theorem ha_keys {K : PySem.W.Frag} {A : Addr → Prop} {H : Hp} {es : List (Key × V)} {arcs : NtT} (h : Paired (HandArc K A H) es arcs) : es.map (·.1) = (arcs.map (·.1)).map Sum.inr := by
  induction h with
  | nil => rfl
  | cons h _ ih => rw [List.map_cons, List.map_cons, List.map_cons, ih, h.1]
theorem nm_len {x : Str} (h : NmOk x) : x.cps.toList.length < 1000 := by
  have := h.2.1
  omega
def spNInit (K : PySem.W.Frag) (C : Addr) : Sp := fun vs H Q _ => ∃ (x dx g : Addr) (arcs : NtT) (es : List (Key × V)), vs = [.ref x, .ref g] ∧ H x = some (.ins C dx []) ∧ H g = some (.dK es) ∧ Paired (HandArc K (fun _ => True) H) es arcs ∧ NtOk arcs ∧
  ∀ H', NetA (fun b => H b = none) H' C x arcs → (∀ b o, b ≠ x → H b = some o → H' b = some o) → Q .non H'
abbrev NNi : List Str := ["self", "arcs", "name"]
theorem scNInit : FnScope NNi ["self", "arcs"] (defScope sInit) := ⟨rfl, rfl, rfl, by decide +kernel, rfl, by decide +kernel, by decide +kernel⟩
section
variable {P : Program} {w : World} {K : PySem.W.Frag} {mg : Str → Option Value} {base : Heap} {f C fN fA fO fL : Addr} {fd fdN fdA fdO fdL : FuncData}
theorem ok_nInit (F : Fun K "__init__" "Net.__init__" sInit f fd) (S : NetC K C) (FN : Fun K "is_name" "is_name" sIsName fN fdN) (gN : mg "is_name" = some (.ref fN)) (GN : FnOk P w K mg base CX0 1 fN fdN ["thing"] (spIsNameG K)) (FA : Fun K "_is_arc" "_is_arc" sIsArc fA fdA) (gA : mg "_is_arc" = some (.ref fA)) (GA : FnOk P w K mg base CX0 3 fA fdA ["thing"] (spArcG K))
    (FO : Fun K "_nodes_of" "_nodes_of" sNodesOf fO fdO) (gO : mg "_nodes_of" = some (.ref fO)) (mL : Meth K C "_is_live" fL) (GL : FnOk P w K mg base CX0 2 fL fdL ["self", "name"] (spIsLive C)) (bL : Binds K fdL ["self", "name"] [])
    (nI : mg "isinstance" = none) (nD : mg "dict" = none) (nN : mg "len" = none) (nLi : mg "list" = none) : FnOk P w K mg base CX0 5 f fd ["self", "arcs"] (spNInit K C) := by
  have GO : FnOk P w K mg base CX0 1 fO fdO ["arcs"] spNodesOf := ok_nodesOf FO nLi
  have bO := FO.binds (ps := ["arcs"]) fun _ _ _ _ _ _ us hl => match us, hl with | [_], _ => rfl
  have bN := FN.binds (ps := ["thing"]) fun _ _ _ _ _ _ us hl => match us, hl with | [_], _ => rfl
  have bA := FA.binds (ps := ["thing"]) fun _ _ _ _ _ _ us hl => match us, hl with | [_], _ => rfl
  refine F.ok scNInit (fun vs H Q E h => by obtain ⟨x, dx, g, arcs, es, e, _⟩ := h; rw [e]; rfl) fun cdv A outer s H vs Q E hr hsp => ?_
  obtain ⟨x, dx, g, arcs, es, rfl, hx, hg, hp, ok, hq⟩ := hsp
  have nd := scNInit.nd
  have hu := hu_of (hr.mono (show 1 ≤ 4 by decide))
  refine ⟨_, pss_cons (ps_if (PW.pt (pw_or (pt_not (pt_val (pe_callB (r := rIsi K) call_isi rfl nI boot_isi (pa_cons (pv 1) (pa_cons (pe_bltn (v := .ty "dict") rfl nD boot_dict' rfl) pa_nil))))) (pw_or1 (pt_cmpR op_eq (pe_callB call_lenD rfl nN boot_len (pa_cons (pv 1) pa_nil)) pe_int (nomark _))))) (pss_one ps_never) pss_nil)
    (pss_cons (ps_lock (ps_for PassesOwn.never rfl (pi_keys (pv 1)) (pg_name (i := 2) nd rfl (Or.inl rfl))
      (pss_one (ps_if (PW.pt (pw_or (pt_not (pt_val (pe_call GN (hr.mono (by decide)) rfl gN FN.kp bN .nil pass0 (pa_cons (pv 2) pa_nil)))) (pw_or1 (pt_not (pt_val (pe_call GA (hr.mono (by decide)) rfl gA FA.kp bA .nil pass0 (pa_cons (pe_dget hu (pv 1) (pv 2) (fun _ _ => rfl)) pa_nil))))))) (pss_one ps_never) pss_nil))))
    (pss_cons (ps_fld (pv 0) (pe_lock (pe_dc (own := [("name", 2)]) (tt := tYes) (g := gName 2) (tk := tVar 2) (tv := tTup (tCons (tOp (rIx K) (tDGet (tVar 1) (tVar 2)) (tC (.int 0))) (tCons (tOp (rIx K) (tDGet (tVar 1) (tVar 2)) (tC (.int 1))) tNil))) rfl nd (pi_keys (pv 1)) (blkOk_by (N := NNi) (sc := defScope sInit) (by decide +kernel))
      (fun _ _ _ _ _ => pg_name (i := 2) nd rfl (Or.inl rfl)) (fun _ _ _ _ _ => pts_nil) (fun _ _ _ _ _ => pv 2)
      (fun _ _ _ _ _ => pe_tup (pa_cons (pe_ix (r := rIx K) ix_seq (pe_dget hu (pv 1) (pv 2) (fun _ _ => rfl)) pe_int (fun _ _ => rfl)) (pa_cons (pe_ix (r := rIx K) ix_seq (pe_dget hu (pv 1) (pv 2) (fun _ _ => rfl)) pe_int (fun _ _ => rfl)) pa_nil))))) rfl)
    (pss_cons (ps_fld (pv 0) (pe_call GO (hr.mono (by decide)) rfl gO FO.kp bO .nil pass0 (pa_cons (pe_fld (pv 0) rfl) pa_nil)) rfl)
    (pss_one (ps_fld (pv 0) (pe_lock (pe_lc (own := [("name", 2)]) (g := gName 2) (te := tVar 2) (tt := tTest (tMeth C "_is_live" (spIsLive C) [] E0 (tVar 0) (tCons (tVar 2) tNil))) rfl nd (pi_keys (pe_fld (pv 0) rfl)) (blkOk_by (N := NNi) (sc := defScope sInit) (by decide +kernel)) (fun _ _ _ _ _ => pg_name (i := 2) nd rfl (Or.inl rfl))
      (fun _ _ _ _ _ => pts_one (pt_val (pe_meth (pv 0) S.cl mL GL (hr.mono (by decide)) bL .nil pass0 (pa_cons (pv 2) pa_nil)))) (fun _ _ _ _ _ => pv 2))) rfl))))), ?_⟩
  have les : es.length = arcs.length := Paired.length hp
  have kes := ha_keys hp
  have ndes : (es.map (·.1)).Nodup := by rw [kes]; exact nd_inr ok.nd
  have n0 := ok.n0
  have n1 := ok.n1
  have got : ∀ (i : Nat) (k : Key) (v : V), es[i]? = some (k, v) → ∃ q p, arcs[i]? = some q ∧ k = Sum.inr q.1 ∧ v = .ref p ∧ valV es (Sum.inr q.1) = some v ∧ SqA K H p [.str q.2.1, .str q.2.2] := fun i k v e => by
    obtain ⟨q, eq, h1, p, h2, _, h3⟩ := paired_get hp e
    have h1 : k = Sum.inr q.1 := h1
    have h2 : v = .ref p := h2
    subst h1 h2
    exact ⟨q, p, eq, rfl, rfl, valV_atN ndes e, h3⟩
  have sqn : ∀ {p : Addr} {xs : List V}, SqA K H p xs → p ≠ g ∧ p ≠ x := fun h => by
    rcases h with h | h
    · exact ⟨(fun z => by rw [z, hg] at h; cases h), (fun z => by rw [z, hx] at h; cases h)⟩
    · exact ⟨(fun z => by rw [z, hg] at h; cases h), (fun z => by rw [z, hx] at h; cases h)⟩
  have gx : g ≠ x := fun z => by rw [z, hx] at hg; cases hg
  refine ⟨_, rfl, _, _, _, _, true, rfl, .ty _, .base (.dK hg), kit_ty (by decide +kernel), _, rfl, iteF ?_⟩
  refine ⟨_, rfl, g, es, rfl, hg, rfl, false, congrArg V.bl (decide_eq_false fun z => by have z := V.int.inj z; omega), iteF ?_⟩
  refine ⟨g, _, hg, trivial, fun od => ⟨_, rfl, g, od, rfl, .inl ⟨es, upd_same, for_it walk_keys (fun i σ H' => Same (upd H g (.frz od (.dK es))) H' ∧ ∃ s2, σ = [some (.ref x), some (.ref g), s2]) ⟨Same.refl _, _, rfl⟩ (fun i σ H' _ h => h.1 _ _ upd_same) ?_ ?_⟩⟩⟩
  · rintro i y σ H2 H3 lt ⟨k2, s2, rfl⟩ ⟨rfl, k0, v0, ekv, rfl⟩
    obtain ⟨q, p, eq, rfl, rfl, ev, sq⟩ := got i _ _ ekv
    have up : ∀ {H' : Hp}, Same H3 H' → ∀ b o, b ≠ g → H b = some o → H' b = some o := fun s b o nb e => s _ _ (k2 _ _ (by rw [upd_ne nb]; exact e))
    obtain ⟨m1, m2, m3⟩ := ok.nm q (List.mem_of_getElem? eq)
    refine ⟨_, rfl, _, rfl, .inl ⟨q.1, rfl, nm_len m1, fun H4 k4 => ?_⟩⟩
    rw [nmB_ok m1]
    refine ⟨_, rfl, iteF ?_⟩
    refine ⟨_, rfl, _, rfl, g, _, rfl, .inl ⟨es, Sum.inr q.1, .inr ⟨od, k4 _ _ (k2 _ _ upd_same)⟩, rfl, ev.symm⟩, ?_⟩
    refine ⟨.ref p, _, rfl, .two (sq.kp fun o e => up k4 p o (sqn sq).1 e) (.str (nm_len m2)) (.str (nm_len m3)), fun H5 k5 => ?_⟩
    rw [nmB_ok m2, nmB_ok m3]
    exact ⟨_, rfl, iteF ⟨(k2.trans k4).trans k5, _, rfl⟩⟩
  rintro σ H2 ⟨k2, s2, rfl⟩
  obtain ⟨e2, k02⟩ := lock_offN hg k2
  refine ⟨e2, ?_⟩
  generalize upd H2 g (.dK es) = H4 at k02
  have hx4 := k02 _ _ hx
  have hg4 := k02 _ _ hg
  refine ⟨g, _, hg4, trivial, fun od2 => ⟨_, rfl, g, od2, rfl, .inl ⟨es, upd_same, ?_⟩⟩⟩
  have oL : upd H4 g (.frz od2 (.dK es)) g = some (.frz od2 (.dK es)) := upd_same
  have xL : upd H4 g (.frz od2 (.dK es)) x = some (.ins C dx []) := by rw [upd_ne (Ne.symm gx)]; exact hx4
  refine dc_madeN (es.map (·.1)) (by rw [List.length_map]; omega) ndes (fun i H' s lt => ⟨s _ _ oL, by rw [List.length_map] at lt; exact lt⟩) (fun H' s => ⟨s _ _ oL, by rw [List.length_map]; exact Nat.le_refl _⟩)
    (fun i y H' => ∃ q t, arcs[i]? = some q ∧ y = .ref t ∧ H t = none ∧ t ≠ g ∧ t ≠ x ∧ H' t = some (.tup [.str q.2.1, .str q.2.2])) ?_ ?_ ?_
  · rintro i y H6 H7 D l ⟨q, t, e1, e2, nt, tg, tx, ot⟩ oD keep
    exact ⟨q, t, e1, e2, nt, tg, tx, keep _ _ (fun z => by rw [z, oD] at ot; cases ot) ot⟩
  · rintro i y k H6 H7 Cn Nn ek s6 ⟨rfl, k2, v0, ek2, rfl⟩ yes
    rw [List.getElem?_map, ek2] at ek
    obtain rfl : k2 = k := Option.some.inj ek
    obtain ⟨q, p, eq, rfl, rfl, ev, sq⟩ := got i _ _ ek2
    have sq7 : SqA K H7 p [.str q.2.1, .str q.2.2] := sq.kp fun o e => s6 _ _ (by rw [upd_ne (sqn sq).1]; exact k02 _ _ e)
    have dg : DGet H7 g (.str q.1) (some (.ref p)) := .inl ⟨es, Sum.inr q.1, .inr ⟨od2, s6 _ _ oL⟩, rfl, ev.symm⟩
    have ixa : ∀ {j : Int} {y : V} {R : VK}, atI [V.str q.2.1, .str q.2.2] j = some y → R y H7 → rIx K (.ref p) (.int j) H7 R := fun e r => by
      rcases sq7 with z | z
      · exact .inl ⟨p, _, _, _, rfl, rfl, SqL.of z, e, r⟩
      · exact .inr (.inl ⟨p, _, _, _, rfl, rfl, SqT.of z, e, r⟩)
    refine ⟨rfl, ?_⟩
    refine ⟨_, rfl, _, rfl, _, rfl, g, _, rfl, dg, ixa rfl ⟨_, rfl, _, rfl, g, _, rfl, dg, ixa rfl ⟨(by show 2 ≤ sizeLine; decide), fun t nt => ?_⟩⟩⟩
    have nt0 : H t = none := by
      cases e : H t with
      | none => rfl
      | some o =>
        by_cases c : t = g
        · rw [c, s6 _ _ oL] at nt; cases nt
        · rw [s6 _ _ (by rw [upd_ne c]; exact k02 _ _ e)] at nt; cases nt
    exact yes _ _ ⟨q, t, eq, rfl, nt0, (fun z => by rw [z, s6 _ _ oL] at nt; cases nt), (fun z => by rw [z, s6 _ _ xL] at nt; cases nt), upd_same⟩ (same_new nt)
  · intro H6 D kvs2 nD oD ek2 hR s6
    obtain ⟨b1, s46⟩ := lock_offN hg4 s6
    have Dg : D ≠ g := fun z => by rw [z, oL] at nD; cases nD
    have Dx : D ≠ x := fun z => by rw [z, xL] at nD; cases nD
    have nD0 : H D = none := k02.free (by rw [upd_ne Dg] at nD; exact nD)
    refine ⟨b1, ?_⟩
    have k06 := k02.trans s46
    have oD7 : upd H6 g (.dK es) D = some (.dK kvs2) := by rw [upd_ne Dg]; exact oD
    have pr7 : Paired (DcE (fun b => H b = none ∧ b ≠ x) (upd H6 g (.dK es))) kvs2 arcs := by
      refine paired_of _ _ (by have z := congrArg List.length ek2; rw [List.length_map, List.length_map] at z; omega) fun j e q e1 e2 => ?_
      obtain ⟨q', t, e3, e4, nt, tg, tx, ot⟩ := hR j e.1 e.2 e1
      rw [e2] at e3
      obtain rfl := Option.some.inj e3
      have ekj : e.1 = Sum.inr q.1 := by
        have z := congrArg (fun l => l[j]?) (ek2.trans kes)
        simp only [List.getElem?_map, e1, e2, Option.map_some] at z
        exact Option.some.inj z
      exact ⟨ekj, t, .str q.2.1, .str q.2.2, e4, ⟨nt, tx⟩, by rw [upd_ne tg]; exact ot, rfl, rfl⟩
    have hx7 := k06 _ _ hx
    generalize upd H6 g (.dK es) = H7 at k06 oD7 pr7 hx7
    refine ⟨_, rfl, x, C, dx, _, rfl, hx7, S.cl, S.nA, by show 0 < 1000; decide, ?_⟩
    have hx8 : upd H7 x (.ins C dx (putF "_arcs" (.ref D) [])) x = _ := upd_same
    have up8 : ∀ b o, b ≠ x → H7 b = some o → upd H7 x (.ins C dx (putF "_arcs" (.ref D) [])) b = some o := fun b o nb e => by rw [upd_ne nb]; exact e
    have k08 : ∀ b o, b ≠ x → H b = some o → upd H7 x (.ins C dx (putF "_arcs" (.ref D) [])) b = some o := fun b o nb e => up8 b o nb (k06 _ _ e)
    have at8 : PyD.at_ (fun b => H b = none ∧ b ≠ x) (upd H7 x (.ins C dx (putF "_arcs" (.ref D) []))) (.ref D) (Dc.mk arcs) := ⟨D, kvs2, rfl, ⟨nD0, Dx⟩, up8 _ _ Dx oD7, ok.nd, Paired.mapP pr7 fun e q h => ⟨h.1, PyD.kp h.2 fun b o a e => ⟨a, up8 _ _ a.2 e⟩⟩⟩
    generalize upd H7 x (.ins C dx (putF "_arcs" (.ref D) [])) = H8 at hx8 k08 at8
    clear pr7 oD7 hx7 up8 hR ek2 oD s6 s46 b1 nD oL xL hx4 hg4 k02 k06
    refine ⟨_, rfl, x, C, dx, _, _, rfl, hx8, S.cl, S.nA, rfl, D, arcs, _, rfl, at8, by omega, fun H9 Nd nNd oNd k9 => ?_⟩
    have hx9 := k9 _ _ hx8
    have nNd0 : H Nd = none := by
      cases e : H Nd with
      | none => rfl
      | some o =>
        by_cases c : Nd = x
        · rw [c, hx8] at nNd; cases nNd
        · rw [k08 _ _ c e] at nNd; cases nNd
    have Nx : Nd ≠ x := fun z => by rw [z, hx8] at nNd; cases nNd
    have k09 : ∀ b o, b ≠ x → H b = some o → H9 b = some o := fun b o nb e => k9 _ _ (k08 _ _ nb e)
    have at9 := PyD.kp at8 (A' := fun b => H b = none ∧ b ≠ x) fun b o a e => ⟨a, k9 _ _ e⟩
    clear hx8 k08 at8 k9 nNd
    refine ⟨_, rfl, x, C, dx, _, rfl, hx9, S.cl, S.nN, by show 1 < 1000; decide, ?_⟩
    have up10 : ∀ b o, b ≠ x → H9 b = some o → upd H9 x (.ins C dx (putF "_nodes" (.ref Nd) (putF "_arcs" (.ref D) []))) b = some o := fun b o nb e => by rw [upd_ne nb]; exact e
    have hx10 : upd H9 x (.ins C dx (putF "_nodes" (.ref Nd) (putF "_arcs" (.ref D) []))) x = _ := upd_same
    have at10 := PyD.kp at9 (A' := fun b => H b = none ∧ b ≠ x) fun b o a e => ⟨a, up10 _ _ a.2 e⟩
    have oN10 := up10 _ _ Nx oNd
    have k10 : ∀ b o, b ≠ x → H b = some o → upd H9 x (.ins C dx (putF "_nodes" (.ref Nd) (putF "_arcs" (.ref D) []))) b = some o := fun b o nb e => up10 _ _ nb (k09 _ _ nb e)
    generalize upd H9 x (.ins C dx (putF "_nodes" (.ref Nd) (putF "_arcs" (.ref D) []))) = H10 at hx10 at10 oN10 k10
    clear up10 hx9 k09 at9 oNd
    have at10' := at10
    obtain ⟨D', es3, e3, aD, oD3, rnd, pr3⟩ := at10
    obtain rfl := V.ref.inj e3
    have xD : x ≠ D := fun z => aD.2 z.symm
    refine ⟨D, _, oD3, trivial, fun oo => ⟨_, rfl, x, C, dx, _, _, rfl, (by rw [upd_ne xD]; exact hx10), S.cl, S.nA, rfl, D, oo, rfl, .inl ⟨es3, upd_same, ?_⟩⟩⟩
    have oL3 : upd H10 D (.frz oo (.dK es3)) D = some (.frz oo (.dK es3)) := upd_same
    have xL3 : upd H10 D (.frz oo (.dK es3)) x = _ := (upd_ne xD).trans hx10
    have les3 : es3.length = arcs.length := Paired.length pr3
    have prL : Paired (DcE (fun b => H b = none ∧ b ≠ x) (upd H10 D (.frz oo (.dK es3)))) es3 arcs := Paired.mapP pr3 fun e q h => by
      obtain ⟨h1, t, u1, u2, h2, a, ot, h3, h4⟩ := h
      exact ⟨h1, t, u1, u2, h2, a, by rw [upd_ne (fun z => by rw [z, oD3] at ot; cases ot)]; exact ot, h3, h4⟩
    refine lc_genON (arcs.map fun e => if liveB arcs e = true then some (V.str e.1) else none) (by rw [List.length_map]; omega) (fun i H' s lt => ⟨s _ _ oL3, by rw [List.length_map] at lt; omega⟩) (fun H' s => ⟨s _ _ oL3, by rw [List.length_map]; omega⟩) ?_ ?_
    · rintro i y o H11 H12 Cn Nn eo s11 ⟨rfl, k0, v0, ekv, rfl⟩ yes no
      obtain ⟨e, ee, hk, _⟩ := paired_get prL ekv
      have hk : k0 = Sum.inr e.1 := hk
      subst hk
      have ee : arcs[i]? = some e := ee
      rw [List.getElem?_map, ee] at eo
      obtain rfl := Option.some.inj eo
      refine ⟨rfl, ?_⟩
      refine ⟨_, rfl, x, dx, _, rfl, s11 _ _ xL3, rfl, _, rfl, x, dx, D, _, oo, es3, arcs, _, e, rfl, s11 _ _ xL3, rfl, s11 _ _ oL3, Paired.mapP prL fun e q h => ⟨h.1, PyD.kp h.2 fun b o a e => ⟨a, s11 _ _ e⟩⟩, ok.nd, by omega, List.mem_of_getElem? ee, fun H13 b hb k13 => ⟨b, rfl, ?_⟩⟩
      cases b with
      | true =>
        have hl : liveB arcs e = true := liveB_iff.mpr (hb.mp rfl)
        exact iteT ⟨_, rfl, yes _ (by show (if liveB arcs e = true then some (V.str e.1) else none) = _; rw [if_pos hl]; rfl) H13 k13⟩
      | false =>
        have hl : ¬ liveB arcs e = true := fun z => by have := hb.mpr (liveB_iff.mp z); cases this
        exact iteF (no (by show (if liveB arcs e = true then some (V.str e.1) else none) = _; rw [if_neg hl]) H13 k13)
    · intro H11 q nq oq s11
      obtain ⟨b1, s1011⟩ := lock_offN oD3 s11
      have qD : q ≠ D := fun z => by rw [z, oL3] at nq; cases nq
      have qx : q ≠ x := fun z => by rw [z, xL3] at nq; cases nq
      have nq10 : H10 q = none := by rw [upd_ne qD] at nq; exact nq
      have nq0 : H q = none := by
        cases e : H q with
        | none => rfl
        | some o => rw [k10 _ _ qx e] at nq10; cases nq10
      have el : (arcs.map fun e => if liveB arcs e = true then some (V.str e.1) else none).filterMap id = (liveL arcs).map V.str := by
        rw [opt_listN (fun e => liveB arcs e) (fun e => V.str e.1)]
        unfold liveL
        rw [List.map_map]
        rfl
      rw [el] at oq
      refine ⟨b1, ?_⟩
      have oq12 : upd H11 D (.dK es3) q = _ := (upd_ne qD).trans oq
      have hx12 := s1011 _ _ hx10
      refine ⟨_, rfl, x, C, dx, _, rfl, hx12, S.cl, S.nL, by show 2 < 1000; decide, ?_⟩
      have up13 : ∀ b o, b ≠ x → H10 b = some o → upd (upd H11 D (.dK es3)) x (.ins C dx (putF "_live" (.ref q) (putF "_nodes" (.ref Nd) (putF "_arcs" (.ref D) [])))) b = some o := fun b o nb e => by rw [upd_ne nb]; exact s1011 _ _ e
      refine hq _ ⟨dx, D, Nd, q, by rw [upd_same]; rfl, PyD.kp at10' fun b o a e => ⟨a.1, up13 _ _ a.2 e⟩, nNd0, up13 _ _ Nx oN10, nq0, by rw [upd_ne qx]; exact oq12⟩ fun b o nb e => up13 _ _ nb (k10 _ _ nb e)
end
end L2.TB
/-! Net: ==, questions, home, arcs, nodes, live -/
namespace L2.TB
open PySem PySem.Spec PyProof.Rows
def spNQs (C : Addr) : Sp := fun vs H Q _ => ∃ (x : Addr) (arcs : NtT) (A : Addr → Prop), vs = [.ref x] ∧ NetA A H C x arcs ∧ ∀ H' q, H q = none → H' q = some (.lst ((arcs.map (·.1)).map V.str)) → Same H H' → Q (.ref q) H'
def spNNodes (C : Addr) : Sp := fun vs H Q _ => ∃ (x : Addr) (arcs : NtT) (A : Addr → Prop), vs = [.ref x] ∧ NetA A H C x arcs ∧ ∀ H' q, H q = none → H' q = some (.lst ((nodesL arcs).map V.str)) → Same H H' → Q (.ref q) H'
def spNLive (C : Addr) : Sp := fun vs H Q _ => ∃ (x : Addr) (arcs : NtT) (A : Addr → Prop), vs = [.ref x] ∧ NetA A H C x arcs ∧ ∀ H' q, H q = none → H' q = some (.lst ((liveL arcs).map V.str)) → Same H H' → Q (.ref q) H'
def valD (vv : Str → V) (arcs : NtT) : List (Key × V) := arcs.map fun e => (Sum.inr e.1, vv e.1)
def spNHome (C : Addr) : Sp := fun vs H Q _ => ∃ (x : Addr) (arcs : NtT) (A : Addr → Prop), vs = [.ref x] ∧ NetA A H C x arcs ∧ arcs.length < 1000 ∧ ∀ H' q, H q = none → H' q = some (.dK (valD (fun _ => .int 0) arcs)) → Same H H' → Q (.ref q) H'
def spNArcs (C : Addr) : Sp := fun vs H Q _ => ∃ (x : Addr) (arcs : NtT) (A : Addr → Prop), vs = [.ref x] ∧ NetA A H C x arcs ∧ arcs.length < 1000 ∧ ∀ H' q, H q = none → PyD.at_ (fun b => b = q ∨ A b) H' (.ref q) (Dc.mk arcs) → Same H H' → Q (.ref q) H'
abbrev NNh : List Str := ["self", "name"]
theorem scNLive : FnScope ["self"] ["self"] (defScope sLive) := ⟨rfl, rfl, rfl, by decide +kernel, rfl, by decide +kernel, by decide +kernel⟩
theorem scNArcs : FnScope NNh ["self"] (defScope sArcs) := ⟨rfl, rfl, rfl, by decide +kernel, rfl, by decide +kernel, by decide +kernel⟩
section
variable {P : Program} {w : World} {K : PySem.W.Frag} {mg : Str → Option Value} {base : Heap} {f C : Addr} {fd : FuncData}
theorem ok_nLive (F : Fun K "live" "Net.live" sLive f fd) (S : NetC K C) (nL : mg "list" = none) : FnOk P w K mg base CX0 1 f fd ["self"] (spNLive C) := by
  refine F.ok scNLive (fun vs H Q E h => by obtain ⟨x, arcs, A, e, _⟩ := h; rw [e]; rfl) fun cdv A outer s H vs Q E hr hsp => ?_
  obtain ⟨x, arcs, _, rfl, hx, hq⟩ := hsp
  obtain ⟨dx, D, _, Lv, h1, _, _, _, _, oL⟩ := hx.ex
  refine ⟨_, pss_one (ps_ret (pe_callTy call_list_of rfl nL boot_list' (pa_cons (pe_fld (pv 0) rfl) pa_nil))), ?_⟩
  exact ⟨_, rfl, x, C, dx, _, _, rfl, h1, S.cl, S.nL, rfl, Lv, _, rfl, .inl (SqL.of oL), fun q nq => hq _ q nq upd_same (same_new nq)⟩
end
end L2.TB
/-! Net: home, arcs, answers -/
namespace L2.TB
open PySem PySem.Spec PyProof.Rows
theorem valD_of {kvs : List (Key × V)} {arcs : NtT} {vv : Str → V} (ek : kvs.map (·.1) = (arcs.map (·.1)).map Sum.inr) (hv : ∀ (j : Nat) (k : Key) (y : V), kvs[j]? = some (k, y) → ∃ e : Str × ArT, arcs[j]? = some e ∧ y = vv e.1) : kvs = valD vv arcs := by
  have len : kvs.length = arcs.length := by
    have z := congrArg List.length ek
    rwa [List.length_map, List.length_map, List.length_map] at z
  refine List.ext_getElem? fun j => ?_
  unfold valD
  by_cases lt : j < kvs.length
  · have e1 := List.getElem?_eq_getElem lt
    obtain ⟨e, ee, ey⟩ := hv j kvs[j].1 kvs[j].2 e1
    rw [e1, List.getElem?_map, ee]
    have e2 : (kvs.map (·.1))[j]? = some kvs[j].1 := by rw [List.getElem?_map, e1]; rfl
    rw [ek, List.getElem?_map, List.getElem?_map, ee] at e2
    exact congrArg some (Prod.ext (Option.some.inj e2).symm ey)
  · rw [List.getElem?_eq_none (by omega), List.getElem?_map, List.getElem?_eq_none (by omega)]
    rfl
section
variable {P : Program} {w : World} {K : PySem.W.Frag} {mg : Str → Option Value} {base : Heap} {f C CB fW : Addr} {fd fdW : FuncData}
theorem ok_nArcs (F : Fun K "arcs" "Net.arcs" sArcs f fd) (S : NetC K C) : FnOk P w K mg base CX0 1 f fd ["self"] (spNArcs C) := by
  refine F.ok scNArcs (fun vs H Q E h => by obtain ⟨x, arcs, A, e, _⟩ := h; rw [e]; rfl) fun cdv A outer s H vs Q E hr hsp => ?_
  obtain ⟨x, arcs, A0, rfl, hx, sh, hq⟩ := hsp
  have nd := scNArcs.nd
  have hu := hu_of hr
  refine ⟨_, pss_one (ps_ret (pe_lock (pe_dc (own := [("name", 1)]) (tt := tYes) (g := gName 1) (tk := tVar 1) (tv := tDGet (tFld K (tVar 0) "_arcs") (tVar 1)) rfl nd (pi_keys (pe_fld (pv 0) rfl)) (blkOk_by (N := NNh) (sc := defScope sArcs) (by decide +kernel)) (fun _ _ _ _ _ => pg_name (i := 1) nd rfl (Or.inl rfl)) (fun _ _ _ _ _ => pts_nil) (fun _ _ _ _ _ => pv 1) (fun _ _ _ _ _ => pe_dget hu (pe_fld (pv 0) rfl) (pv 1) (fun _ _ => rfl))))), ?_⟩
  obtain ⟨dx, D, _, _, h1, ⟨D', es, e1, aD, oD, rnd, pr⟩, _⟩ := hx.ex
  obtain rfl := V.ref.inj e1
  have ek : es.map (·.1) = (arcs.map (·.1)).map Sum.inr := dc_keys pr
  have les : es.length = arcs.length := Paired.length pr
  have ndes : (es.map (·.1)).Nodup := by rw [ek]; exact nd_inr rnd
  have xD : x ≠ D := fun z => by rw [z, oD] at h1; cases h1
  refine ⟨D, _, oD, trivial, fun oo => ⟨_, rfl, x, C, dx, _, _, rfl, (by rw [upd_ne xD]; exact h1), S.cl, S.nA, rfl, D, oo, rfl, .inl ⟨es, upd_same, ?_⟩⟩⟩
  have oL : upd H D (.frz oo (.dK es)) D = some (.frz oo (.dK es)) := upd_same
  have xL : upd H D (.frz oo (.dK es)) x = _ := (upd_ne xD).trans h1
  refine dc_madeN (es.map (·.1)) (by rw [List.length_map]; omega) ndes (fun i H' s lt => ⟨s _ _ oL, by rw [List.length_map] at lt; exact lt⟩) (fun H' s => ⟨s _ _ oL, by rw [List.length_map]; exact Nat.le_refl _⟩)
    (fun i y H' => ∃ e t, arcs[i]? = some e ∧ y = .ref t ∧ A0 t ∧ H t = some (.tup [.str e.2.1, .str e.2.2])) (fun i y H6 H7 D2 l h _ _ => h) ?_ ?_
  · rintro i y k H6 H7 Cn Nn ek2 s6 ⟨rfl, k2, v0, ekv, rfl⟩ yes
    rw [List.getElem?_map, ekv] at ek2
    obtain rfl : k2 = k := Option.some.inj ek2
    obtain ⟨e, ee, hk, t, u1, u2, hv, at_, ot, hu1, hu2⟩ := paired_get pr ekv
    have hk : k2 = Sum.inr e.1 := hk
    have hv : v0 = .ref t := hv
    have hu1 : u1 = .str e.2.1 := hu1
    have hu2 : u2 = .str e.2.2 := hu2
    subst hk hv hu1 hu2
    refine ⟨rfl, _, rfl, _, rfl, x, C, dx, _, _, rfl, s6 _ _ xL, S.cl, S.nA, rfl, _, rfl, D, _, rfl, .inl ⟨es, Sum.inr e.1, .inr ⟨oo, s6 _ _ oL⟩, rfl, (valV_atN ndes ekv).symm⟩, ?_⟩
    exact yes _ _ ⟨e, t, ee, rfl, at_, ot⟩ (Same.refl _)
  · intro H6 q kvs nq oq ek3 hR s6
    obtain ⟨b1, s16⟩ := lock_offN oD s6
    have qD : q ≠ D := fun z => by rw [z, oL] at nq; cases nq
    refine ⟨b1, hq _ q (by rw [upd_ne qD] at nq; exact nq) ⟨q, kvs, rfl, .inl rfl, by rw [upd_ne qD]; exact oq, rnd, ?_⟩ s16⟩
    refine paired_of _ _ (by have z := congrArg List.length (ek3.trans ek); rw [List.length_map, List.length_map, List.length_map] at z; exact z) fun j kv e e1 e2 => ?_
    obtain ⟨e', t, e3, e4, a, ot⟩ := hR j kv.1 kv.2 e1
    have e2 : arcs[j]? = some e := e2
    rw [e2] at e3
    obtain rfl := Option.some.inj e3
    have ekj : kv.1 = Sum.inr e.1 := by
      have z := congrArg (fun l => l[j]?) (ek3.trans ek)
      simp only [List.getElem?_map, e1, e2, Option.map_some] at z
      exact Option.some.inj z
    exact ⟨ekj, t, _, _, e4, .inr a, s16 _ _ ot, rfl, rfl⟩
end
end L2.TB
/-! is_joined, ring_through, shifted -/
namespace L2.TB
open PySem PySem.Spec PyProof.Rows
/-- a dict comprehension of whole numbers, with any keys -/
theorem dc_ints {J : It} {g : TG} {tt : TT} {tk tv : TE} {vs : List Nat} {σ : L2.St} {H1 : Hp} {Q : Addr → Hp → Prop} (n : Nat) (p : Int → Prop) (short : n < 100000) (go : ∀ i H, Same H1 H → i < n → J.go i H) (stop : ∀ H, Same H1 H → J.stop n H)
    (turn : ∀ (i : Nat) (x : V) (H H' : Hp) (C : V → V → Hp → Prop) (N : Hp → Prop), i < n → Same H1 H → J.yld i H x H' → (∀ (k : Str) (z : Int) H5, p z → Same H H5 → C (.str k) (.int z) H5) →
      g x (wipe σ vs) H' fun σ2 H2 => wipe σ2 vs = wipe σ vs ∧ tt σ2 H2 fun b H3 => if b = true then tk σ2 H3 fun y H4 => tv σ2 H4 fun z H5 => C y z H5 else N H3)
    (fin : ∀ H D kvs, H1 D = none → H D = some (.dK kvs) → (∀ k v, valV kvs k = some v → ∃ z, v = .int z ∧ p z) → Same H1 H → Q D H) : DcW J g tt tk tv vs σ H1 Q := by
  intro D nD
  refine ⟨fun i m H => m = n - i ∧ i ≤ n ∧ (∃ kvs : List (Key × V), H D = some (.dK kvs) ∧ kvs.length ≤ i ∧ ∀ k v, valV kvs k = some v → ∃ z, v = .int z ∧ p z) ∧ Same H1 H, ⟨_, rfl, Nat.zero_le _, ⟨[], upd_same, Nat.le_refl _, fun k v e => by cases e⟩, same_new nD⟩, ?_⟩
  rintro i m H ⟨rfl, le, ⟨kvs, oD, lk, al⟩, s1⟩
  by_cases lt : i < n
  · refine .inr ⟨go i H s1 lt, fun H' => (∃ kvs : List (Key × V), H' D = some (.dK kvs) ∧ kvs.length ≤ i + 1 ∧ ∀ k v, valV kvs k = some v → ∃ z, v = .int z ∧ p z) ∧ Same H1 H', fun H' h => ⟨n - (i + 1), by omega, rfl, lt, h⟩, fun x H' yl => ?_⟩
    refine turn i x H H' _ _ lt s1 yl fun k z H5 pz s5 => ⟨kvs, Sum.inr k, rfl, s5 _ _ oD, by rw [sizeLine_eq]; omega, ⟨_, upd_same, ?_, fun k' v e => ?_⟩, fun b u e => ?_⟩
    · have := length_putK kvs (Sum.inr k) (.int z)
      omega
    · rw [valV_put] at e
      by_cases c : k' = Sum.inr k
      · rw [if_pos c] at e
        exact ⟨z, (Option.some.inj e).symm, pz⟩
      · rw [if_neg c] at e
        exact al k' v e
    · rw [upd_ne (ne_of_none e nD)]
      exact s5 _ _ (s1 _ _ e)
  · obtain rfl : i = n := by omega
    exact .inl ⟨stop H s1, fin H D kvs nD oD al s1⟩
theorem valD_ndK {x : Str → Int} {arcs : NtT} (nd : (arcs.map (·.1)).Nodup) : ((valD (fun n => .int (x n)) arcs).map (·.1)).Nodup := by
  have e : (valD (fun n => V.int (x n)) arcs).map (·.1) = (arcs.map (·.1)).map Sum.inr := by unfold valD; rw [List.map_map, List.map_map]; rfl
  rw [e]
  exact nd_inr nd
theorem valD_getI {vv : Str → V} {arcs : NtT} (nd : (arcs.map (·.1)).Nodup) {e : Str × ArT} (h : e ∈ arcs) : valV (valD vv arcs) (Sum.inr e.1) = some (vv e.1) := by
  obtain ⟨i, hi⟩ := List.getElem?_of_mem h
  have n2 : ((valD vv arcs).map (·.1)).Nodup := by
    have e : (valD vv arcs).map (·.1) = (arcs.map (·.1)).map Sum.inr := by unfold valD; rw [List.map_map, List.map_map]; rfl
    rw [e]
    exact nd_inr nd
  exact valV_atN (kvs := valD vv arcs) (i := i) n2 (by unfold valD; rw [List.getElem?_map, hi]; rfl)
def spJoin : Sp := fun vs H Q _ => ∃ (D q : Addr) (arcs L : NtT) (A : Addr → Prop) (e : Str × ArT), vs = [.ref D, .ref q, .str e.1] ∧ PyD.at_ A H (.ref D) (Dc.mk arcs) ∧ H q = some (.lst ((L.map (·.1)).map V.str)) ∧ (∀ e ∈ L, e ∈ arcs) ∧ L.length < 400 ∧ e ∈ arcs ∧
  ∀ H' b, (b = true ↔ Reach (eithE L) e.2.2 e.2.1) → Same H H' → Q (.bl b) H'
def spRing : Sp := fun vs H Q _ => ∃ (D q : Addr) (arcs L : NtT) (A : Addr → Prop) (e : Str × ArT), vs = [.ref D, .ref q, .str e.1] ∧ PyD.at_ A H (.ref D) (Dc.mk arcs) ∧ H q = some (.lst ((L.map (·.1)).map V.str)) ∧ (∀ e ∈ L, e ∈ arcs) ∧ L.length < 400 ∧ e ∈ arcs ∧ Reach (eithE L) e.2.2 e.2.1 ∧
  ∀ H' r ts W, H' r = some (.lst ((ts : List Addr).map V.ref)) → Paired (StepA H') ts W → W.length < 2000 → (∀ s ∈ W, s.2.1 = 1 ∨ s.2.1 = -1) → Same H H' → Q (.ref r) H'
def spShift : Sp := fun vs H Q _ => ∃ (W r : Addr) (arcs : NtT) (x : Str → Int) (ts : List Addr) (S : List StpT), vs = [.ref W, .ref r, .int 1] ∧ H W = some (.dK (valD (fun n => .int (x n)) arcs)) ∧ (arcs.map (·.1)).Nodup ∧ arcs.length < 1000 ∧ H r = some (.lst (ts.map V.ref)) ∧ Paired (StepA H) ts S ∧ S.length < 2000 ∧ (∀ s ∈ S, s.2.1 = 1 ∨ s.2.1 = -1) ∧
  ∀ H' q (y : Str → Int), H q = none → H' q = some (.dK (valD (fun n => .int (y n)) arcs)) → Same H H' → Q (.ref q) H'
theorem reach_short {L : List StpT} {b : Str} {F : FoT} (h : FOk L b F) : F.length ≤ L.length + 1 := by
  have z := nd_sub_len (l' := b :: L.map fun s => s.2.2.2) h.nd fun n hn => by
    obtain ⟨p, hp, rfl⟩ := List.mem_map.mp hn
    obtain ⟨i, hi⟩ := List.getElem?_of_mem hp
    by_cases c : i = 0
    · rw [c, h.hd] at hi
      rw [← Option.some.inj hi]
      exact List.mem_cons_self
    · obtain ⟨s, h1, h2, h3, _⟩ := h.st i p.1 p.2 hi (by omega)
      exact List.mem_cons_of_mem _ (List.mem_map.mpr ⟨s, h2, h3⟩)
  rw [List.length_map, List.length_cons, List.length_map] at z
  exact z
theorem eiS_len (L : NtT) : (eiS L).length = 2 * L.length := by
  unfold eiS
  rw [List.length_append, List.length_map, List.length_map]
  omega
theorem scJo : FnScope ["arcs", "names", "asked"] ["arcs", "names", "asked"] (defScope sJoined) := ⟨rfl, rfl, rfl, by decide +kernel, rfl, by decide +kernel, by decide +kernel⟩
abbrev NSh : List Str := ["world", "ring", "much", "signs", "step", "name"]
section
variable {P : Program} {w : World} {K : PySem.W.Frag} {mg : Str → Option Value} {base : Heap} {f fE fR fO fW : Addr} {fd fdE fdR fdO fdW : FuncData}
theorem ok_join (F : Fun K "is_joined" "is_joined" sJoined f fd) (FE : Fun K "either_way" "either_way" sEither fE fdE) (gE : mg "either_way" = some (.ref fE)) (GE : FnOk P w K mg base CX0 2 fE fdE ["arcs", "names"] spEith) (FR : Fun K "reached" "reached" sReached fR fdR) (gR : mg "reached" = some (.ref fR)) (nN : mg "len" = none) : FnOk P w K mg base CX0 3 f fd ["arcs", "names", "asked"] spJoin := by
  have bE := FE.binds (ps := ["arcs", "names"]) fun _ _ _ _ _ _ us hl => match us, hl with | [_, _], _ => rfl
  have GR : FnOk P w K mg base CX0 1 fR fdR ["steps", "begin"] spReachG := ok_reachG FR nN
  have bR := FR.binds (ps := ["steps", "begin"]) fun _ _ _ _ _ _ us hl => match us, hl with | [_, _], _ => rfl
  refine F.ok scJo (fun vs H Q E h => by obtain ⟨D, q, arcs, L, A, e, e', _⟩ := h; rw [e']; rfl) fun cdv A outer s H vs Q E hr hsp => ?_
  obtain ⟨D, q, arcs, L, A0, e, rfl, at_, oq, sub, sh, he, hq⟩ := hsp
  have hu := hu_of (hr.mono (show 1 ≤ 2 by decide))
  refine ⟨_, pss_one (ps_ret (pe_cmp (pc_din hu (pe_ix (r := rIx K) ix_seq (pe_dget hu (pv 0) (pv 2) (fun _ _ => rfl)) pe_int (fun _ _ => rfl)) (pe_call GR (hr.mono (by decide)) rfl gR FR.kp bR .nil pass0 (pa_cons (pe_call GE hr rfl gE FE.kp bE .nil pass0 (pa_cons (pv 0) (pa_cons (pv 1) pa_nil))) (pa_cons (pe_ix (r := rIx K) ix_seq (pe_dget hu (pv 0) (pv 2) (fun _ _ => rfl)) pe_int (fun _ _ => rfl)) pa_nil)))))), ?_⟩
  obtain ⟨es, t0, oD, ev0, _, ot⟩ := arc_at at_ he
  have dg : ∀ {G : Hp}, Same H G → DGet G D (.str e.1) (some (.ref t0)) := fun s => .inl ⟨es, Sum.inr e.1, .inl (s _ _ oD), rfl, ev0.symm⟩
  refine ⟨_, rfl, _, rfl, D, _, rfl, dg (Same.refl _), .inr (.inl ⟨t0, _, _, _, rfl, rfl, SqT.of ot, rfl, ?_⟩)⟩
  refine ⟨_, rfl, _, rfl, D, q, arcs, L, A0, rfl, at_, oq, sub, sh, fun H1 r ts n1 o1 p1 k1 => ?_⟩
  refine ⟨_, rfl, _, rfl, D, _, rfl, dg k1, .inr (.inl ⟨t0, _, _, _, rfl, rfl, SqT.of (k1 _ _ ot), rfl, ?_⟩)⟩
  refine ⟨r, e.2.2, ts, eiS L, rfl, o1, p1, by rw [eiS_len]; omega, fun H2 FD es2 F n2 o2 p2 FO mem k2 => ?_⟩
  refine ⟨FD, _, rfl, DGet.k (k := Sum.inr e.2.1) o2, ?_⟩
  refine hq H2 _ ⟨fun h => (mem e.2.1).mp ?_, fun h => ?_⟩ (k1.trans k2)
  · refine Classical.byContradiction fun c => ?_
    have h : (valV es2 (Sum.inr e.2.1)).isSome = true := h
    rw [(val_inS (fe_keys p2) e.2.1).2 c] at h
    cases h
  · obtain ⟨v, ev⟩ := (val_inS (fe_keys p2) e.2.1).1 ((mem e.2.1).mpr h)
    show (valV es2 (Sum.inr e.2.1)).isSome = true
    rw [ev]
    rfl
end
end L2.TB
/-! a net made -/
namespace L2.TB
open PySem PySem.Spec PyProof.Rows
theorem made_nt {K : PySem.W.Frag} {C g : Addr} {arcs : NtT} {es : List (Key × V)} {H : Hp} {E : XK} {Q : Addr → Hp → Prop} (hg : H g = some (.dK es)) (hp : Paired (HandArc K (fun _ => True) H) es arcs) (ok : NtOk arcs)
    (fin : ∀ H' x, H x = none → NetA (fun b => H b = none) H' C x arcs → Same H H' → Q x H') :
    ∀ x dx, H x = none → H dx = none → dx ≠ x → spNInit K C (.ref x :: ([.ref g] ++ [])) (upd (upd H dx (.own x)) x (.ins C dx [])) (fun v H2 => v = .non ∧ Q x H2) E := by
  intro x dx nx ndx nex
  have kx : Same H (upd (upd H dx (.own x)) x (.ins C dx [])) := fun b o e => by rw [upd_ne (ne_of_none e nx), upd_ne (ne_of_none e ndx)]; exact e
  exact ⟨x, dx, g, arcs, es, rfl, upd_same, kx _ _ hg, Paired.mapP hp fun e q h => h.keep fun b o a e => ⟨a, kx _ _ e⟩, ok, fun H2 T fr => ⟨rfl, fin H2 x nx (T.keep (fun o e => e) fun b o a e => ⟨kx.free a, e⟩) fun b o e => fr b o (ne_of_none e nx) (kx _ _ e)⟩⟩
theorem paired_appN {α β : Type} {F : α → β → Prop} {as as' : List α} {bs bs' : List β} (h : Paired F as bs) (h' : Paired F as' bs') : Paired F (as ++ as') (bs ++ bs') := by
  induction h with
  | nil => exact h'
  | cons h _ ih => exact .cons h ih
/-- one entry more -/
theorem tab_put {A : Addr → Prop} {H Hc : Hp} {D : Addr} {es : List (Key × V)} {L : NtT} {m : Nat} {k x y : Str} (nD : H D = none) (nd : (L.map (·.1)).Nodup) (oD : Hc D = some (.dK es)) (pr : Paired (DcE A Hc) es (L.take m)) (kc : Same H Hc) (el : L[m]? = some (k, (x, y))) (hA : ∀ b, A b → b ≠ D) {t : Addr} (nt : Hc t = none) (At : A t) :
    ∃ es', putK es (Sum.inr k) (.ref t) = es' ∧ Paired (DcE A (upd (upd Hc t (.tup [.str x, .str y])) D (.dK es'))) es' (L.take (m + 1)) ∧ Same H (upd (upd Hc t (.tup [.str x, .str y])) D (.dK es')) ∧ upd Hc t (.tup [.str x, .str y]) D = some (.dK es) ∧ es.length = m := by
  have lt := (List.getElem?_eq_some_iff.mp el).1
  have les : es.length = m := by
    rw [Paired.length pr, List.length_take]
    omega
  have tD : t ≠ D := fun z => by rw [z, oD] at nt; cases nt
  have tk : L.take (m + 1) = L.take m ++ [(k, (x, y))] := by rw [List.take_succ, el]; rfl
  have out : (Sum.inr k : Key) ∉ es.map (·.1) := fun z => by
    rw [dc_keys pr] at z
    obtain ⟨k', hk, e⟩ := List.mem_map.mp z
    obtain rfl := Sum.inr.inj e
    obtain ⟨q, hq, rfl⟩ := List.mem_map.mp hk
    obtain ⟨j, hj⟩ := List.getElem?_of_mem hq
    have lj := (List.getElem?_eq_some_iff.mp hj).1
    rw [List.length_take] at lj
    rw [List.getElem?_take_of_lt (by omega)] at hj
    have e1 : (L.map (·.1))[j]? = some q.1 := by rw [List.getElem?_map, hj]; rfl
    have e2 : (L.map (·.1))[m]? = some q.1 := by rw [List.getElem?_map, el]; rfl
    have := (List.getElem?_inj (List.getElem?_eq_some_iff.mp e1).1 nd).mp (e1.trans e2.symm)
    omega
  refine ⟨_, put_last out, ?_, fun b o e => ?_, by rw [upd_ne (Ne.symm tD)]; exact oD, les⟩
  · rw [tk]
    have kp : ∀ b o, A b → Hc b = some o → A b ∧ upd (upd Hc t (.tup [.str x, .str y])) D (.dK (es ++ [(Sum.inr k, .ref t)])) b = some o := fun b o a e => ⟨a, by rw [upd_ne (hA b a), upd_ne (ne_of_none e nt)]; exact e⟩
    refine paired_appN (Paired.mapP pr fun e q h => ⟨h.1, PyD.kp h.2 kp⟩) (.cons ⟨rfl, t, .str x, .str y, rfl, At, by rw [upd_ne tD, upd_same], rfl, rfl⟩ .nil)
  · rw [upd_ne (ne_of_none e nD), upd_ne (ne_of_none (kc _ _ e) nt)]
    exact kc _ _ e
end L2.TB
/-! branches that go on alike: what both give is told once -/
namespace L2.TB
open PySem PySem.Spec PyProof.Rows
section
variable {X : Cx}
def tVia (te : TE) : TE := fun σ H Q => ∃ A : V → Hp → Prop, te σ H (fun v H' => A v H') ∧ ∀ v H', A v H' → Q v H'
theorem pe_via {e : Expr} {te : TE} (he : PE X e te) : PE X e (tVia te) := ⟨fun pins s σ H Q I h => by
  obtain ⟨A, h, k⟩ := h
  exact wpAny_mono (he.run pins s σ H _ I h) (fun v s' z => let ⟨x, H1, I1, r, q⟩ := z; ⟨x, H1, I1, r, k _ _ q⟩) fun _ _ z => z⟩
def sVia (ts : TS) : TS := fun D σ H => ∃ N : St → Hp → Prop, ts { D with nx := fun σ' H' => N σ' H' } σ H ∧ ∀ σ' H', N σ' H' → D.nx σ' H'
theorem ps_via {st : Stmt} {ts : TS} (hs : PS X st ts) : PS X st (sVia ts) := ⟨fun pins s σ H D I h => by
  obtain ⟨N, h, k⟩ := h
  refine wpAny_mono (hs.run pins s σ H _ I h) (fun g s' z => ?_) fun _ _ z => z
  cases g with
  | next =>
    obtain ⟨σ2, H2, I2, q⟩ := z
    exact ⟨σ2, H2, I2, k _ _ q⟩
  | ret w2 => exact z
  | brk => exact z
  | cont => exact z⟩
end
end L2.TB
/-! _law_c_arcs -/
namespace L2.TB
open PySem PySem.Spec PyProof.Rows
structure LArcs (arcs : NtT) : Prop where
  n0 : 2 ≤ arcs.length
  n1 : arcs.length ≤ 8
  nd : (arcs.map (·.1)).Nodup
  nm : ∀ e ∈ arcs, NmS e.1 ∧ NmS e.2.1 ∧ NmS e.2.2
theorem LArcs.ok {arcs : NtT} (h : LArcs arcs) : NtOk arcs := ⟨by have := h.n0; omega, by have := h.n1; omega, h.nd, fun e he => ⟨(h.nm e he).1.1, (h.nm e he).2.1.1, (h.nm e he).2.2.1⟩⟩
def spArcsL : Sp := fun vs H Q _ => ∃ (l ls : Addr) (N mo : Int), vs = [.ref l, .int mo] ∧ 2 ≤ mo ∧ mo ≤ 8 ∧ Strm H l ls N ∧ N ≤ 800000 ∧
  ∀ H' D arcs, LArcs arcs → PyD.at_ (fun b => H b = none ∧ b ≠ l ∧ b ≠ ls) H' (.ref D) (Dc.mk arcs) → Strm H' l ls (N + 200) → But l ls H H' → Q (.ref D) H'
abbrev NAl : List Str := ["stream", "most", "nodes", "names", "found", "at", "name", "one", "other"]
theorem scArcsL : FnScope NAl ["stream", "most"] (defScope sArcsL) := ⟨rfl, rfl, rfl, by decide +kernel, rfl, by decide +kernel, by decide +kernel⟩
theorem Strm.low {H H' : Hp} {l ls b : Addr} {N : Int} (S : Strm H' l ls N) (B : But l ls H H') (n : H' b = none) : H b = none ∧ b ≠ l ∧ b ≠ ls := by
  have a := S.apart (Same.refl _) n
  exact ⟨B.free a n, a⟩
section
variable {P : Program} {w : World} {K : PySem.W.Frag} {mg : Str → Option Value} {base : Heap} {f fD fP fN : Addr} {fd fdD fdP fdN : FuncData}
theorem ok_arcsL (F : Fun K "_law_c_arcs" "_law_c_arcs" sArcsL f fd) (FD : Fun K "_law_draw" "_law_draw" sDraw fD fdD) (gD : mg "_law_draw" = some (.ref fD)) (FP : Fun K "_law_pick" "_law_pick" sPick fP fdP) (gP : mg "_law_pick" = some (.ref fP)) (FN : Fun K "_law_names" "_law_names" sNamesL fN fdN) (gNm : mg "_law_names" = some (.ref fN)) (GN : FnOk P w K mg base CX0 4 fN fdN ["stream", "many"] spNames)
    (gI : mg "int" = none) (gN : mg "len" = none) (gE : mg "enumerate" = none) : FnOk P w K mg base CX0 5 f fd ["stream", "most"] spArcsL := by
  have GD : FnOk P w K mg base CX0 1 fD fdD ["stream", "many"] spDraw := ok_draw FD gI
  have bD := FD.binds (ps := ["stream", "many"]) fun _ _ _ _ _ _ us hl => match us, hl with | [_, _], _ => rfl
  have GP : FnOk P w K mg base CX0 2 fP fdP ["stream", "some"] (spPick K) := ok_pick FP FD gD gI gN
  have bP := FP.binds (ps := ["stream", "some"]) fun _ _ _ _ _ _ us hl => match us, hl with | [_, _], _ => rfl
  have bN := FN.binds (ps := ["stream", "many"]) fun _ _ _ _ _ _ us hl => match us, hl with | [_, _], _ => rfl
  refine F.ok scArcsL (fun vs H Q E h => by obtain ⟨l, ls, N, mo, e, _⟩ := h; rw [e]; rfl) fun cdv A outer s H vs Q E hr hsp => ?_
  obtain ⟨l, ls, N, mo, rfl, m2, m8, S, hN, hq⟩ := hsp
  have nd := scArcsL.nd
  have hu := hu_of (hr.mono (show 1 ≤ 4 by decide))
  have hr1 := hr.mono (show 1 ≤ 4 by decide)
  have hr2 := hr.mono (show 2 ≤ 4 by decide)
  refine ⟨_, pss_cons (ps_set (i := 2) nd rfl (Or.inl rfl) (pe_call GN hr rfl gNm FN.kp bN .nil pass0 (pa_cons (pv 0) (pa_cons (pe_op op_add pe_int (pe_call GD hr1 rfl gD FD.kp bD .nil pass0 (pa_cons (pv 0) (pa_cons pe_int pa_nil)))) pa_nil))))
    (pss_cons (ps_par (i := 3) (j := 4) rfl nd rfl rfl (by decide) rfl rfl (pa_cons (pe_call GN hr rfl gNm FN.kp bN .nil pass0 (pa_cons (pv 0) (pa_cons (pe_op op_add pe_int (pe_call GD hr1 rfl gD FD.kp bD .nil pass0 (pa_cons (pv 0) (pa_cons (pe_op op_sub (pv 1) pe_int) pa_nil)))) pa_nil))) (pa_cons pe_dnewK pa_nil)) (by rfl))
    (pss_cons (ps_for PassesOwn.never rfl (pi_enumS rfl gE (pa_cons (pv 3) pa_nil)) (pg_tup rfl (pgs_cons (pg_name (i := 5) nd rfl (Or.inl rfl)) (pgs_cons (pg_name (i := 6) nd rfl (Or.inl rfl)) pgs_nil)))
      (pss_cons (ps_set (i := 7) nd rfl (Or.inl rfl) (pe_via (pe_ifExp (pt_cmpR op_gt (pe_call GD hr1 rfl gD FD.kp bD .nil pass0 (pa_cons (pv 0) (pa_cons pe_int pa_nil))) pe_int (nomark _)) (pe_ix (r := rIxL K) ix_list (pv 2) (pe_op op_mod (pv 5) (pe_callB call_len rfl gN boot_len (pa_cons (pv 2) pa_nil))) (fun _ _ => rfl)) (pe_call GP hr2 rfl gP FP.kp bP .nil pass0 (pa_cons (pv 0) (pa_cons (pv 2) pa_nil))))))
      (pss_cons (ps_set (i := 8) nd rfl (Or.inl rfl) (pe_via (pe_ifExp (pt_cmpR op_gt (pe_call GD hr1 rfl gD FD.kp bD .nil pass0 (pa_cons (pv 0) (pa_cons pe_int pa_nil))) pe_int (nomark _)) (pe_ix (r := rIxL K) ix_list (pv 2) (pe_op op_mod (pe_op op_add (pv 5) pe_int) (pe_callB call_len rfl gN boot_len (pa_cons (pv 2) pa_nil))) (fun _ _ => rfl)) (pe_call GP hr2 rfl gP FP.kp bP .nil pass0 (pa_cons (pv 0) (pa_cons (pv 2) pa_nil))))))
      (pss_one (ps_dput hu (pv 4) (pv 6) (pe_tup (pa_cons (pv 7) (pa_cons (pv 8) pa_nil))) rfl)))))
    (pss_one (ps_ret (pv 4))))), ?_⟩
  refine ⟨_, rfl, _, rfl, l, ls, 4, N, rfl, S, by omega, by decide, by decide, fun H1 d0 z0 z1 S1 B1 => ?_⟩
  refine ⟨_, _, rfl, rfl, l, ls, _, _, rfl, S1, by omega, by omega, by omega, fun H2 nd0 ns nsl nsn nso nnd ond S2 B2 => ?_⟩
  refine ⟨_, rfl, _, rfl, _, rfl, _, _, rfl, rfl, l, ls, _, _, rfl, S2, by omega, by omega, by omega, fun H3 d1 y0 y1 S3 B3 => ?_⟩
  refine ⟨_, _, rfl, rfl, l, ls, _, _, rfl, S3, by omega, by omega, by omega, fun H4 nm ks ksl ksn kso nnm onm S4 B4 => ?_⟩
  have and0 := S1.apart (Same.refl _) nnd
  have anm := S3.apart (Same.refl _) nnm
  have B03 := (B1.trans B2).trans B3
  have B04 := B03.trans B4
  have ond4 := B4 _ _ and0.1 and0.2 (B3 _ _ and0.1 and0.2 ond)
  intro D nD
  have aD := S4.apart (Same.refl _) nD
  have lowD : H D = none := B04.free aD nD
  have kD := same_new (o := .dK []) nD
  have oD5 : upd H4 D (.dK []) D = some (.dK []) := upd_same
  have S5 := S4.same kD
  have B05 := B04.trans (.of kD)
  have ond5 := kD _ _ ond4
  have onm5 := kD _ _ onm
  have ndD : nd0 ≠ D := fun z => by rw [z, nD] at ond4; cases ond4
  have nmD : nm ≠ D := fun z => by rw [z, nD] at onm; cases onm
  generalize upd H4 D (.dK []) = H5 at kD oD5 S5 B05 ond5 onm5
  refine ⟨_, _, rfl, ?_⟩
  have n5 : ns.length ≤ 5 := by omega
  have n2 : 2 ≤ ns.length := by omega
  have k2 : 2 ≤ ks.length := by omega
  have k8 : ks.length ≤ 8 := by omega
  refine ⟨_, rfl, enum_seq (xs := ks.map V.str) (.inl rfl) (fun i σ H' => (∃ (es : List (Key × V)) (arcs : NtT), H' D = some (.dK es) ∧ Paired (DcE (fun b => (H b = none ∧ b ≠ l ∧ b ≠ ls) ∧ b ≠ D) H') es arcs ∧ arcs.map (·.1) = ks.take i ∧ ∀ e ∈ arcs, e.2.1 ∈ ns ∧ e.2.2 ∈ ns) ∧
      Strm H' l ls (N + 140 + 5 * i) ∧ But l ls H H' ∧ H' nd0 = some (.lst (ns.map V.str)) ∧ H' nm = some (.lst (ks.map V.str)) ∧ ∃ s5 s6 s7 s8, σ = [some (.ref l), some (.int mo), some (.ref nd0), some (.ref nm), some (.ref D), s5, s6, s7, s8])
    ⟨⟨[], [], oD5, .nil, by simp, fun e he => by cases he⟩, S5.mono (by omega), B05, ond5, onm5, _, _, _, _, rfl⟩ (fun i σ H' _ h => h.2.2.2.2.1) ?_ ?_⟩
  · rintro i v σ H6 T ev ⟨⟨es, arcs, oD6, pr6, ek6, in6⟩, S6, B6, ond6, onm6, s5, s6, s7, s8, rfl⟩ nT
    rw [List.getElem?_map] at ev
    obtain ⟨n, en, rfl⟩ := Option.map_eq_some_iff.mp ev
    have li : i < ks.length := (List.getElem?_eq_some_iff.mp en).1
    have kT := same_new (o := .tup [.int (i : Nat), .str n]) nT
    have S7 := S6.same kT
    have B7 := B6.trans (.of kT)
    have oT : upd H6 T (.tup [.int (i : Nat), .str n]) T = some (.tup [.int (i : Nat), .str n]) := upd_same
    have B67 : But l ls H6 (upd H6 T (.tup [.int (i : Nat), .str n])) := .of kT
    generalize upd H6 T (.tup [.int (i : Nat), .str n]) = H7 at kT S7 B7 oT B67
    refine ⟨T, _, rfl, SqT.of oT, rfl, _, _, rfl, _, _, rfl, rfl, ?_⟩
    have lenN : ∀ {H' : Hp}, H' nd0 = some (.lst (ns.map V.str)) → LenV K (.ref nd0) H' ns.length := fun e => .inl ⟨_, SqL.of e, by rw [List.length_map]⟩
    have ixn : ∀ j : Nat, ∃ x, ns[(j % ns.length)]? = some x := fun j => ⟨_, List.getElem?_eq_getElem (Nat.mod_lt _ (by omega))⟩
    refine ⟨fun v H' => (∃ x, x ∈ ns ∧ v = .str x) ∧ Strm H' l ls (N + 140 + 5 * i + 2) ∧ But l ls H7 H', ?_, ?_⟩
    · refine ⟨_, rfl, l, ls, 3, _, rfl, S7, by omega, by decide, by decide, fun H8 r r0 r1 S8 B8 => ?_⟩
      refine ⟨_, _, rfl, rfl, _, rfl, ?_⟩
      have B8 := B8
      have ond8 := B8 _ _ and0.1 and0.2 (B67 _ _ and0.1 and0.2 ond6)
      by_cases c : 0 < r
      · rw [decide_eq_true (show r > 0 from c)]
        refine iteT ?_
        obtain ⟨x, ex⟩ := ixn (i)
        refine ⟨_, rfl, _, rfl, _, rfl, .ref nd0, ns.length, rfl, lenN ond8, _, _, rfl, rfl, (by omega), nd0, _, _, .str x, rfl, rfl, SqL.of ond8, atI_nat (j := (i) % ns.length) (by rw [List.getElem?_map, ex]; rfl), ?_⟩
        exact ⟨⟨x, List.mem_of_getElem? ex, rfl⟩, S8.mono (by omega), B8⟩
      · rw [decide_eq_false (show ¬ r > 0 from c)]
        refine iteF ?_
        refine ⟨_, rfl, _, rfl, l, ls, nd0, _, _, rfl, S8, by omega, and0.1, and0.2, ond8, by rw [List.length_map]; omega, by rw [List.length_map]; omega, fun H9 v hv S9 B9 => ?_⟩
        obtain ⟨x, hx, rfl⟩ := List.mem_map.mp hv
        exact ⟨⟨x, hx, rfl⟩, S9.mono (by omega), B8.trans B9⟩
    rintro _ H9 ⟨⟨x, hx, rfl⟩, S9, B9⟩
    refine ⟨fun v H' => (∃ x, x ∈ ns ∧ v = .str x) ∧ Strm H' l ls (N + 140 + 5 * i + 4) ∧ But l ls H7 H', ?_, ?_⟩
    · refine ⟨_, rfl, l, ls, 3, _, rfl, S9, by omega, by decide, by decide, fun H8 r r0 r1 S8 B8 => ?_⟩
      refine ⟨_, _, rfl, rfl, _, rfl, ?_⟩
      have B8 := (B9.trans B8)
      have ond8 := B8 _ _ and0.1 and0.2 (B67 _ _ and0.1 and0.2 ond6)
      by_cases c : 0 < r
      · rw [decide_eq_true (show r > 0 from c)]
        refine iteT ?_
        obtain ⟨x, ex⟩ := ixn (i + 1)
        refine ⟨_, rfl, _, rfl, _, _, rfl, rfl, _, rfl, .ref nd0, ns.length, rfl, lenN ond8, _, _, rfl, rfl, (by omega), nd0, _, _, .str x, rfl, rfl, SqL.of ond8, atI_nat (j := (i + 1) % ns.length) (by rw [List.getElem?_map, ex]; rfl), ?_⟩
        exact ⟨⟨x, List.mem_of_getElem? ex, rfl⟩, S8.mono (by omega), B8⟩
      · rw [decide_eq_false (show ¬ r > 0 from c)]
        refine iteF ?_
        refine ⟨_, rfl, _, rfl, l, ls, nd0, _, _, rfl, S8, by omega, and0.1, and0.2, ond8, by rw [List.length_map]; omega, by rw [List.length_map]; omega, fun H9 v hv S9 B9 => ?_⟩
        obtain ⟨x, hx, rfl⟩ := List.mem_map.mp hv
        exact ⟨⟨x, hx, rfl⟩, S9.mono (by omega), B8.trans B9⟩
    rintro _ H10 ⟨⟨y, hy, rfl⟩, S10, B10⟩
    refine ⟨_, rfl, _, rfl, (by show 2 ≤ sizeLine; decide), fun t nt => ?_⟩
    have kt := same_new (o := .tup [.str x, .str y]) nt
    have ot : upd H10 t (.tup [.str x, .str y]) t = some (.tup [.str x, .str y]) := upd_same
    have B0t := (B7.trans B10).trans (.of kt)
    have lowt := S10.low (B7.trans B10) nt
    have up : ∀ {b : Addr} {o : HO}, b ≠ l → b ≠ ls → H6 b = some o → upd H10 t (.tup [.str x, .str y]) b = some o := fun h1 h2 e => kt _ _ (B10 _ _ h1 h2 (B67 _ _ h1 h2 e))
    have oD11 := up aD.1 aD.2 oD6
    have S11 := S10.same kt
    have tD : t ≠ D := fun z => by rw [z, B10 _ _ aD.1 aD.2 (B67 _ _ aD.1 aD.2 oD6)] at nt; cases nt
    have ll := congrArg List.length ek6
    rw [List.length_map, List.length_take] at ll
    have les : es.length = arcs.length := Paired.length pr6
    have nout : (Sum.inr n : Key) ∉ es.map (·.1) := fun hx => by
      rw [dc_keys pr6, ek6] at hx
      obtain ⟨y, hy, e1⟩ := List.mem_map.mp hx
      obtain rfl := Sum.inr.inj e1
      have et : ks.take (i + 1) = ks.take i ++ [y] := by rw [List.take_succ, en]; rfl
      have z2 : (ks.take (i + 1)).Nodup := ksn.sublist (List.take_sublist _ _)
      rw [et, List.nodup_append] at z2
      exact z2.2.2 y hy y (by simp) rfl
    refine ⟨_, rfl, _, rfl, D, _, rfl, DPut.k (k := Sum.inr n) oD11 (by rw [sizeLine_eq]; omega), ?_⟩
    rw [put_last nout]
    refine ⟨⟨es ++ [(Sum.inr n, .ref t)], arcs ++ [(n, (x, y))], upd_same, ?_, by rw [List.map_append, ek6, List.take_succ, en]; rfl, fun e he => ?_⟩, (strm_upd S11 aD).mono (by omega), ?_, by rw [upd_ne ndD]; exact up and0.1 and0.2 ond6, by rw [upd_ne nmD]; exact up anm.1 anm.2 onm6, _, _, _, _, rfl⟩
    · refine paired_appN (Paired.mapP pr6 fun e q h => ⟨h.1, PyD.kp h.2 fun b o a e => ⟨a, by rw [upd_ne a.2]; exact up a.1.2.1 a.1.2.2 e⟩⟩) (.cons ⟨rfl, t, .str x, .str y, rfl, ⟨lowt, tD⟩, by rw [upd_ne tD]; exact ot, rfl, rfl⟩ .nil)
    · rcases List.mem_append.mp he with h | h
      · exact in6 e h
      · rw [List.mem_singleton.mp h]; exact ⟨hx, hy⟩
    · intro b o h1 h2 e
      rw [upd_ne (ne_of_none e lowD)]
      exact B0t b o h1 h2 e
  · rintro σ H6 ⟨⟨es, arcs, oD6, pr6, ek6, in6⟩, S6, B6, ond6, onm6, s5, s6, s7, s8, rfl⟩
    rw [List.length_map, List.take_length] at ek6
    have la : arcs.length = ks.length := by rw [← ek6, List.length_map]
    refine ⟨_, rfl, hq H6 D arcs ⟨by omega, by omega, by rw [ek6]; exact ksn, fun e he => ⟨kso _ (by rw [← ek6]; exact List.mem_map_of_mem he), nso _ (in6 e he).1, nso _ (in6 e he).2⟩⟩ ⟨D, es, rfl, ⟨lowD, aD⟩, oD6, by rw [ek6]; exact ksn, Paired.mapP pr6 fun e q h => ⟨h.1, PyD.kp h.2 fun b o a e => ⟨a.1, e⟩⟩⟩ (S6.mono ?_) B6⟩
    rw [List.length_map]
    omega
end
end L2.TB
/-! _law_c_leads, _law_c_live, _law_c_nodes -/
namespace L2.TB
open PySem PySem.Spec PyProof.Rows
/-- a list of all that is reached -/
def LeadL (arcs : NtT) (b : Str) (S : List Str) : Prop := S.Nodup ∧ ∀ n, n ∈ S ↔ Reach (arcs.map (·.2)) b n
def spLeads : Sp := fun vs H Q _ => ∃ (D : Addr) (arcs : NtT) (A : Addr → Prop) (b : Str), vs = [.ref D, .str b] ∧ PyD.at_ A H (.ref D) (Dc.mk arcs) ∧ arcs.length < 1000 ∧ ∀ H' q S, H q = none → H' q = some (.lst (S.map V.str)) → LeadL arcs b S → S.length ≤ arcs.length + 1 → Same H H' → Q (.ref q) H'
abbrev NLd : List Str := ["arcs", "first", "found", "turn", "one", "other"]
theorem scLeads : FnScope NLd ["arcs", "first"] (defScope sLeads) := ⟨rfl, rfl, rfl, by decide +kernel, rfl, by decide +kernel, by decide +kernel⟩
theorem closed_all {E : List ArT} {b : Str} {S : List Str} (R : RI E b 0 S) (n : E.length + 1 ≤ S.length) : ∀ e ∈ E, e.2 ∈ S := fun e he => by
  by_cases m : e.2 ∈ S
  · exact m
  · have nd : (e.2 :: S).Nodup := List.nodup_cons.mpr ⟨m, R.nd⟩
    have z := nd_sub_len (l' := b :: E.map (·.2)) nd fun x hx => by
      rcases List.mem_cons.mp hx with rfl | hx
      · exact List.mem_cons_of_mem _ (List.mem_map_of_mem he)
      · rcases R.sub x hx with h | h
        · rw [h]; exact (List.mem_cons_self)
        · exact List.mem_cons_of_mem _ h
    rw [List.length_cons, List.length_cons, List.length_map] at z
    omega
section
variable {P : Program} {w : World} {K : PySem.W.Frag} {mg : Str → Option Value} {base : Heap} {f : Addr} {fd : FuncData}
theorem ok_leads (F : Fun K "_law_c_leads" "_law_c_leads" sLeads f fd) (nR : mg "range" = none) (nN : mg "len" = none) : FnOk P w K mg base CX0 1 f fd ["arcs", "first"] spLeads := by
  refine F.ok scLeads (fun vs H Q E h => by obtain ⟨D, arcs, A, b, e, _⟩ := h; rw [e]; rfl) fun cdv A outer s H vs Q E hr hsp => ?_
  obtain ⟨D, arcs, A0, b, rfl, at_, sh, hq⟩ := hsp
  have nd := scLeads.nd
  refine ⟨_, pss_cons (ps_set (i := 2) nd rfl (Or.inl rfl) (pe_lst (pa_cons (pv 1) pa_nil)))
    (pss_cons (ps_for PassesOwn.never rfl (pi_range1 rfl nR (pa_cons (pe_callB call_lenD rfl nN boot_len (pa_cons (pv 0) pa_nil)) pa_nil)) (pg_name (i := 3) nd rfl (Or.inl rfl))
      (pss_one (ps_lock (ps_for PassesOwn.never rfl (pi_values (pv 0)) (pg_tup rfl (pgs_cons (pg_name (i := 4) nd rfl (Or.inl rfl)) (pgs_cons (pg_name (i := 5) nd rfl (Or.inl rfl)) pgs_nil)))
        (pss_one (ps_via (ps_if (PW.pt (pw_and (pt_cmpR op_in_seq (pv 4) (pv 2) rfl) (pw_and1 (pt_cmpR op_notIn_seq (pv 5) (pv 2) rfl))))
          (pss_one (ps_expr (pe_bm PySem.F.plainAttrs_list PySem.F.slot_list_append PySem.F.type_list_append mt_append (pv 2) (pa_cons (pv 5) pa_nil)))) pss_nil)))))))
    (pss_one (ps_ret (pv 2)))), ?_⟩
  obtain ⟨D', es, e1, aD, oD, rnd, pr⟩ := at_
  obtain rfl := V.ref.inj e1
  have les : es.length = arcs.length := Paired.length pr
  refine ⟨_, rfl, (by show 1 ≤ sizeLine; decide), fun q nq => ?_⟩
  have k1 := same_new (o := .lst [.str b]) nq
  have oq : upd H q (.lst [.str b]) q = some (.lst ([b].map V.str)) := upd_same
  have qD : q ≠ D := fun z => by rw [z, oD] at nq; cases nq
  have oD1 := k1 _ _ oD
  generalize upd H q (.lst [.str b]) = H1 at k1 oq oD1
  have lE : (arcs.map (·.2)).length = arcs.length := List.length_map _
  refine ⟨_, rfl, D, _, rfl, oD1, es.length, rfl, (by omega), (by omega), for_range (n := es.length) (fun i σ H' => ∃ (S : List Str) (s3 s4 s5 : Option V), σ = [some (.ref D), some (.str b), some (.ref q), s3, s4, s5] ∧ H' q = some (.lst (S.map V.str)) ∧ RI (arcs.map (·.2)) b 0 S ∧ Same H H' ∧ (i + 1 ≤ S.length ∨ ∀ e ∈ arcs.map (·.2), e.1 ∈ S → e.2 ∈ S))
    ⟨[b], _, _, _, rfl, oq, ⟨by simp, by simp, fun n hn => by rw [List.mem_singleton.mp hn]; exact .base, Nat.zero_le _, fun j n lt => absurd lt (Nat.not_lt_zero _), fun n hn => .inl (List.mem_singleton.mp hn)⟩, k1, .inl (Nat.le_refl _)⟩ ?_ ?_⟩
  · rintro i σ H2 lt ⟨S, s3, s4, s5, rfl, oq2, R, k2, prog⟩
    have sh2 := R.short
    rw [lE] at sh2
    have oD2 := k2 _ _ oD
    refine ⟨D, _, oD2, trivial, fun od => ⟨_, rfl, D, od, es, rfl, upd_same, for_it walk_values (fun j σ H' => ∃ (S' : List Str) (s4 s5 : Option V), σ = [some (.ref D), some (.str b), some (.ref q), some (.int (0 + (i : Nat))), s4, s5] ∧ H' q = some (.lst (S'.map V.str)) ∧ RI (arcs.map (·.2)) b 0 S' ∧ Same (upd H D (.frz od (.dK es))) H' ∧ (∀ x ∈ S, x ∈ S') ∧ (S' = S ∨ S.length + 1 ≤ S'.length) ∧ ∀ e ∈ (arcs.map (·.2)).take j, e.1 ∈ S → e.2 ∈ S')
      ⟨S, _, _, rfl, by rw [upd_ne qD]; exact oq2, R, fun c o e => ?_, fun x h => h, .inl rfl, fun e he => by rw [List.take_zero] at he; cases he⟩ (fun j σ H' _ h => ?_) ?_ ?_⟩⟩
    · by_cases c1 : c = D
      · rw [c1, upd_same] at e
        rw [c1, upd_same]
        exact e
      · rw [upd_ne c1] at e
        rw [upd_ne c1]
        exact k2 _ _ e
    · obtain ⟨_, _, _, _, _, _, k, _⟩ := h
      exact k _ _ upd_same
    · rintro j y σ H3 H4 lt ⟨S', s4, s5, rfl, oq3, R3, k3, sub, gr, cl⟩ ⟨rfl, k0, ekv⟩
      obtain ⟨e, ee, hk, t0, x, z, hv, ap, op, hx, hz⟩ := paired_get pr ekv
      have hv : y = .ref t0 := hv
      have hx : x = .str e.2.1 := hx
      have hz : z = .str e.2.2 := hz
      subst hv hx hz
      have tD : t0 ≠ D := fun z => by rw [z, oD] at op; cases op
      have op3 := k3 _ _ (show upd H D (.frz od (.dK es)) t0 = _ by rw [upd_ne tD]; exact op)
      have ee : arcs[j]? = some e := ee
      have eE : (arcs.map (·.2))[j]? = some e.2 := by rw [List.getElem?_map, ee]; rfl
      have ein : e.2 ∈ arcs.map (·.2) := List.mem_of_getElem? eE
      have tk : (arcs.map (·.2)).take (j + 1) = (arcs.map (·.2)).take j ++ [e.2] := by rw [List.take_succ, eE]; rfl
      have sh3 := R3.short
      rw [lE] at sh3
      refine ⟨t0, _, rfl, SqT.of op3, rfl, _, _, rfl, _, _, rfl, rfl, ?_⟩
      refine ⟨fun σ' H' => ∃ (S' : List Str) (s4 s5 : Option V), σ' = [some (.ref D), some (.str b), some (.ref q), some (.int (0 + (i : Nat))), s4, s5] ∧ H' q = some (.lst (S'.map V.str)) ∧ RI (arcs.map (·.2)) b 0 S' ∧ Same (upd H D (.frz od (.dK es))) H' ∧ (∀ x ∈ S, x ∈ S') ∧ (S' = S ∨ S.length + 1 ≤ S'.length) ∧ ∀ e ∈ (arcs.map (·.2)).take (j + 1), e.1 ∈ S → e.2 ∈ S', ?_, fun σ' H' h => h⟩
      have stay : (e.2.1 ∈ S' → e.2.2 ∈ S') → ∀ e' ∈ (arcs.map (·.2)).take (j + 1), e'.1 ∈ S → e'.2 ∈ S' := fun h e' he' h1 => by
        rw [tk] at he'
        rcases List.mem_append.mp he' with z | z
        · exact cl e' z h1
        · rw [List.mem_singleton.mp z] at h1 ⊢
          exact h (sub _ h1)
      refine ⟨_, rfl, _, rfl, q, _, rfl, .inl (SqL.of oq3), rfl, flat_strs S', _, rfl, ?_⟩
      rw [if_neg Bool.false_ne_true, inV_strs]
      by_cases c : e.2.1 ∈ S'
      case neg =>
        rw [decide_eq_false c]
        exact iteF (iteF ⟨S', _, _, rfl, oq3, R3, k3, sub, gr, stay fun h => absurd h c⟩)
      rw [decide_eq_true c]
      refine iteT ⟨_, rfl, _, rfl, q, _, rfl, .inl (SqL.of oq3), rfl, flat_strs S', _, rfl, ?_⟩
      rw [if_pos rfl, inV_strs]
      by_cases m : e.2.2 ∈ S'
      · rw [decide_eq_true m]
        exact iteF ⟨S', _, _, rfl, oq3, R3, k3, sub, gr, stay fun _ => m⟩
      · rw [decide_eq_false m]
        refine iteT ⟨_, rfl, .inl ⟨rfl, _, SqL.of oq3⟩, _, rfl, q, _, _, rfl, rfl, oq3, by rw [sizeLine_eq, List.length_map]; omega, ?_⟩
        refine ⟨S' ++ [e.2.2], _, _, rfl, by rw [upd_same, List.map_append]; rfl, R3.add ein c m, fun c' o h => ?_, fun x h => List.mem_append_left _ (sub x h), .inr ?_, fun e' he' h1 => ?_⟩
        · have nb : c' ≠ q := fun z => by
            rw [z, upd_ne qD, nq] at h
            cases h
          rw [upd_ne nb]
          exact k3 _ _ h
        · rw [List.length_append]
          have : S.length ≤ S'.length := by rcases gr with h | h <;> first | (rw [h]; exact Nat.le_refl _) | omega
          show _ ≤ S'.length + 1
          omega
        · rw [tk] at he'
          rcases List.mem_append.mp he' with z | z
          · exact List.mem_append_left _ (cl e' z h1)
          · rw [List.mem_singleton.mp z]; exact List.mem_append_right _ (List.mem_singleton.mpr rfl)
    · rintro σ H3 ⟨S', s4, s5, rfl, oq3, R3, k3, sub, gr, cl⟩
      obtain ⟨b1, k4⟩ := lock_offN oD k3
      rw [les, ← lE, List.take_length] at cl
      refine ⟨b1, S', _, _, _, rfl, by rw [upd_ne qD]; exact oq3, R3, k4, ?_⟩
      rcases gr with rfl | h
      · exact .inr cl
      · rcases prog with p | p
        · exact .inl (by omega)
        · exfalso
          have z := nd_sub_len R3.nd fun x hx => reach_in R.b0 p (R3.r x hx)
          omega
  · rintro σ H2 ⟨S, s3, s4, s5, rfl, oq2, R, k2, prog⟩
    have cl : ∀ e ∈ arcs.map (·.2), e.1 ∈ S → e.2 ∈ S := by
      rcases prog with h | h
      · exact fun e he _ => closed_all R (by rw [lE, ← les]; exact h) e he
      · exact h
    have sh2 := R.short
    rw [lE] at sh2
    exact ⟨_, rfl, hq _ q S nq oq2 ⟨R.nd, fun n => ⟨R.r n, fun h => reach_in R.b0 cl h⟩⟩ sh2 k2⟩
end
end L2.TB
/-! _law_c_leads, _law_c_live, _law_c_nodes -/
namespace L2.TB
open PySem PySem.Spec PyProof.Rows
theorem call_lenR {X : Cx} : CallR X (.builtin "len") (fun xs H Q => ∃ a kvs, xs = [V.ref a] ∧ Rd H a (.dK kvs) ∧ Q (.int kvs.length) H) := by
  intro pins s σ H xs us Q I r h
  obtain ⟨a, kvs, rfl, ha, q⟩ := (h)
  obtain ⟨u, rfl, ru⟩ := vals1 r
  cases ru
  exact d_len I ha fun t s' I' => ⟨.int kvs.length, H, I', ⟨t, rfl⟩, q⟩
def spLeadsF : Sp := fun vs H Q _ => ∃ (D : Addr) (od : Obj) (es : List (Key × V)) (arcs : NtT) (A : Addr → Prop) (b : Str), vs = [.ref D, .str b] ∧ H D = some (.frz od (.dK es)) ∧ Paired (DcE A H) es arcs ∧ (arcs.map (·.1)).Nodup ∧ arcs.length < 1000 ∧ ∀ H' q S, H q = none → H' q = some (.lst (S.map V.str)) → LeadL arcs b S → S.length ≤ arcs.length + 1 → Same H H' → Q (.ref q) H'
def spLiveL : Sp := fun vs H Q _ => ∃ (D : Addr) (arcs : NtT) (A : Addr → Prop), vs = [.ref D] ∧ PyD.at_ A H (.ref D) (Dc.mk arcs) ∧ arcs.length < 1000 ∧ ∀ H' q, H q = none → H' q = some (.lst ((liveL arcs).map V.str)) → Same H H' → Q (.ref q) H'
abbrev NLl : List Str := ["arcs", "name"]
theorem scLiveL : FnScope NLl ["arcs"] (defScope sLiveL) := ⟨rfl, rfl, rfl, by decide +kernel, rfl, by decide +kernel, by decide +kernel⟩
section
variable {P : Program} {w : World} {K : PySem.W.Frag} {mg : Str → Option Value} {base : Heap} {f fL : Addr} {fd fdL : FuncData}
theorem ok_leadsF (F : Fun K "_law_c_leads" "_law_c_leads" sLeads f fd) (nR : mg "range" = none) (nN : mg "len" = none) : FnOk P w K mg base CX0 1 f fd ["arcs", "first"] spLeadsF := by
  refine F.ok scLeads (fun vs H Q E h => by obtain ⟨D, od, es, arcs, A, b, e, _⟩ := h; rw [e]; rfl) fun cdv A outer s H vs Q E hr hsp => ?_
  obtain ⟨D, od, es, arcs, A0, b, rfl, oD, pr, rnd, sh, hq⟩ := hsp
  have nd := scLeads.nd
  refine ⟨_, pss_cons (ps_set (i := 2) nd rfl (Or.inl rfl) (pe_lst (pa_cons (pv 1) pa_nil)))
    (pss_cons (ps_for PassesOwn.never rfl (pi_range1 rfl nR (pa_cons (pe_callB call_lenR rfl nN boot_len (pa_cons (pv 0) pa_nil)) pa_nil)) (pg_name (i := 3) nd rfl (Or.inl rfl))
      (pss_one (ps_for PassesOwn.never rfl (pi_values (pv 0)) (pg_tup rfl (pgs_cons (pg_name (i := 4) nd rfl (Or.inl rfl)) (pgs_cons (pg_name (i := 5) nd rfl (Or.inl rfl)) pgs_nil)))
        (pss_one (ps_via (ps_if (PW.pt (pw_and (pt_cmpR op_in_seq (pv 4) (pv 2) rfl) (pw_and1 (pt_cmpR op_notIn_seq (pv 5) (pv 2) rfl))))
          (pss_one (ps_expr (pe_bm PySem.F.plainAttrs_list PySem.F.slot_list_append PySem.F.type_list_append mt_append (pv 2) (pa_cons (pv 5) pa_nil)))) pss_nil))))))
    (pss_one (ps_ret (pv 2)))), ?_⟩
  have les : es.length = arcs.length := Paired.length pr
  refine ⟨_, rfl, (by show 1 ≤ sizeLine; decide), fun q nq => ?_⟩
  have k1 := same_new (o := .lst [.str b]) nq
  have oq : upd H q (.lst [.str b]) q = some (.lst ([b].map V.str)) := upd_same
  have qD : q ≠ D := fun z => by rw [z, oD] at nq; cases nq
  have oD1 := k1 _ _ oD
  generalize upd H q (.lst [.str b]) = H1 at k1 oq oD1
  have lE : (arcs.map (·.2)).length = arcs.length := List.length_map _
  refine ⟨_, rfl, D, _, rfl, .inr ⟨od, oD1⟩, es.length, rfl, (by omega), (by omega), for_range (n := es.length) (fun i σ H' => ∃ (S : List Str) (s3 s4 s5 : Option V), σ = [some (.ref D), some (.str b), some (.ref q), s3, s4, s5] ∧ H' q = some (.lst (S.map V.str)) ∧ RI (arcs.map (·.2)) b 0 S ∧ Same H H' ∧ (i + 1 ≤ S.length ∨ ∀ e ∈ arcs.map (·.2), e.1 ∈ S → e.2 ∈ S))
    ⟨[b], _, _, _, rfl, oq, ⟨by simp, by simp, fun n hn => by rw [List.mem_singleton.mp hn]; exact .base, Nat.zero_le _, fun j n lt => absurd lt (Nat.not_lt_zero _), fun n hn => .inl (List.mem_singleton.mp hn)⟩, k1, .inl (Nat.le_refl _)⟩ ?_ ?_⟩
  · rintro i σ H2 lt ⟨S, s3, s4, s5, rfl, oq2, R, k2, prog⟩
    have sh2 := R.short
    rw [lE] at sh2
    have oD2 := k2 _ _ oD
    refine ⟨_, rfl, D, od, es, rfl, oD2, for_it walk_values (fun j σ H' => ∃ (S' : List Str) (s4 s5 : Option V), σ = [some (.ref D), some (.str b), some (.ref q), some (.int (0 + (i : Nat))), s4, s5] ∧ H' q = some (.lst (S'.map V.str)) ∧ RI (arcs.map (·.2)) b 0 S' ∧ Same H H' ∧ (∀ x ∈ S, x ∈ S') ∧ (S' = S ∨ S.length + 1 ≤ S'.length) ∧ ∀ e ∈ (arcs.map (·.2)).take j, e.1 ∈ S → e.2 ∈ S')
      ⟨S, _, _, rfl, oq2, R, k2, fun x h => h, .inl rfl, fun e he => by rw [List.take_zero] at he; cases he⟩ (fun j σ H' _ h => ?_) ?_ ?_⟩
    · obtain ⟨_, _, _, _, _, _, k, _⟩ := h
      exact k _ _ oD
    · rintro j y σ H3 H4 lt ⟨S', s4, s5, rfl, oq3, R3, k3, sub, gr, cl⟩ ⟨rfl, k0, ekv⟩
      obtain ⟨e, ee, hk, t0, x, z, hv, ap, op, hx, hz⟩ := paired_get pr ekv
      have hv : y = .ref t0 := hv
      have hx : x = .str e.2.1 := hx
      have hz : z = .str e.2.2 := hz
      subst hv hx hz
      have tD : t0 ≠ D := fun z => by rw [z, oD] at op; cases op
      have op3 := k3 _ _ op
      have ee : arcs[j]? = some e := ee
      have eE : (arcs.map (·.2))[j]? = some e.2 := by rw [List.getElem?_map, ee]; rfl
      have ein : e.2 ∈ arcs.map (·.2) := List.mem_of_getElem? eE
      have tk : (arcs.map (·.2)).take (j + 1) = (arcs.map (·.2)).take j ++ [e.2] := by rw [List.take_succ, eE]; rfl
      have sh3 := R3.short
      rw [lE] at sh3
      refine ⟨t0, _, rfl, SqT.of op3, rfl, _, _, rfl, _, _, rfl, rfl, ?_⟩
      refine ⟨fun σ' H' => ∃ (S' : List Str) (s4 s5 : Option V), σ' = [some (.ref D), some (.str b), some (.ref q), some (.int (0 + (i : Nat))), s4, s5] ∧ H' q = some (.lst (S'.map V.str)) ∧ RI (arcs.map (·.2)) b 0 S' ∧ Same H H' ∧ (∀ x ∈ S, x ∈ S') ∧ (S' = S ∨ S.length + 1 ≤ S'.length) ∧ ∀ e ∈ (arcs.map (·.2)).take (j + 1), e.1 ∈ S → e.2 ∈ S', ?_, fun σ' H' h => h⟩
      have stay : (e.2.1 ∈ S' → e.2.2 ∈ S') → ∀ e' ∈ (arcs.map (·.2)).take (j + 1), e'.1 ∈ S → e'.2 ∈ S' := fun h e' he' h1 => by
        rw [tk] at he'
        rcases List.mem_append.mp he' with z | z
        · exact cl e' z h1
        · rw [List.mem_singleton.mp z] at h1 ⊢
          exact h (sub _ h1)
      refine ⟨_, rfl, _, rfl, q, _, rfl, .inl (SqL.of oq3), rfl, flat_strs S', _, rfl, ?_⟩
      rw [if_neg Bool.false_ne_true, inV_strs]
      by_cases c : e.2.1 ∈ S'
      case neg =>
        rw [decide_eq_false c]
        exact iteF (iteF ⟨S', _, _, rfl, oq3, R3, k3, sub, gr, stay fun h => absurd h c⟩)
      rw [decide_eq_true c]
      refine iteT ⟨_, rfl, _, rfl, q, _, rfl, .inl (SqL.of oq3), rfl, flat_strs S', _, rfl, ?_⟩
      rw [if_pos rfl, inV_strs]
      by_cases m : e.2.2 ∈ S'
      · rw [decide_eq_true m]
        exact iteF ⟨S', _, _, rfl, oq3, R3, k3, sub, gr, stay fun _ => m⟩
      · rw [decide_eq_false m]
        refine iteT ⟨_, rfl, .inl ⟨rfl, _, SqL.of oq3⟩, _, rfl, q, _, _, rfl, rfl, oq3, by rw [sizeLine_eq, List.length_map]; omega, ?_⟩
        refine ⟨S' ++ [e.2.2], _, _, rfl, by rw [upd_same, List.map_append]; rfl, R3.add ein c m, fun c' o h => ?_, fun x h => List.mem_append_left _ (sub x h), .inr ?_, fun e' he' h1 => ?_⟩
        · have nb : c' ≠ q := fun z => by
            rw [z, nq] at h
            cases h
          rw [upd_ne nb]
          exact k3 _ _ h
        · rw [List.length_append]
          have : S.length ≤ S'.length := by rcases gr with h | h <;> first | (rw [h]; exact Nat.le_refl _) | omega
          show _ ≤ S'.length + 1
          omega
        · rw [tk] at he'
          rcases List.mem_append.mp he' with z | z
          · exact List.mem_append_left _ (cl e' z h1)
          · rw [List.mem_singleton.mp z]; exact List.mem_append_right _ (List.mem_singleton.mpr rfl)
    · rintro σ H3 ⟨S', s4, s5, rfl, oq3, R3, k3, sub, gr, cl⟩
      rw [les, ← lE, List.take_length] at cl
      refine ⟨S', _, _, _, rfl, oq3, R3, k3, ?_⟩
      rcases gr with rfl | h
      · exact .inr cl
      · rcases prog with p | p
        · exact .inl (by omega)
        · exfalso
          have z := nd_sub_len R3.nd fun x hx => reach_in R.b0 p (R3.r x hx)
          omega
  · rintro σ H2 ⟨S, s3, s4, s5, rfl, oq2, R, k2, prog⟩
    have cl : ∀ e ∈ arcs.map (·.2), e.1 ∈ S → e.2 ∈ S := by
      rcases prog with h | h
      · exact fun e he _ => closed_all R (by rw [lE, ← les]; exact h) e he
      · exact h
    have sh2 := R.short
    rw [lE] at sh2
    exact ⟨_, rfl, hq _ q S nq oq2 ⟨R.nd, fun n => ⟨R.r n, fun h => reach_in R.b0 cl h⟩⟩ sh2 k2⟩
theorem ok_liveL (F : Fun K "_law_c_live" "_law_c_live" sLiveL f fd) (FL : Fun K "_law_c_leads" "_law_c_leads" sLeads fL fdL) (gL : mg "_law_c_leads" = some (.ref fL)) (nR : mg "range" = none) (nN : mg "len" = none) : FnOk P w K mg base CX0 2 f fd ["arcs"] spLiveL := by
  have GL : FnOk P w K mg base CX0 1 fL fdL ["arcs", "first"] spLeadsF := ok_leadsF FL nR nN
  have bL := FL.binds (ps := ["arcs", "first"]) fun _ _ _ _ _ _ us hl => match us, hl with | [_, _], _ => rfl
  refine F.ok scLiveL (fun vs H Q E h => by obtain ⟨D, arcs, A, e, _⟩ := h; rw [e]; rfl) fun cdv A outer s H vs Q E hr hsp => ?_
  obtain ⟨D, arcs, A0, rfl, at_, sh, hq⟩ := hsp
  have nd := scLiveL.nd
  have hu := hu_of hr
  refine ⟨_, pss_one (ps_ret (pe_lock (pe_lc (own := [("name", 1)]) (g := gName 1) (te := tVar 1) (tt := tTest (tOp (rIn K false) (tOp (rIx K) (tDGet (tVar 0) (tVar 1)) (tC (.int 0))) (tCall spLeadsF [] E0 (tCons (tVar 0) (tCons (tOp (rIx K) (tDGet (tVar 0) (tVar 1)) (tC (.int 1))) tNil))))) rfl nd (pi_keys (pv 0)) (blkOk_by (N := NLl) (sc := defScope sLiveL) (by decide +kernel)) (fun _ _ _ _ _ => pg_name (i := 1) nd rfl (Or.inl rfl))
      (fun _ _ _ _ _ => pts_one (pt_cmpR op_in_seq (pe_ix (r := rIx K) ix_seq (pe_dget hu (pv 0) (pv 1) (fun _ _ => rfl)) pe_int (fun _ _ => rfl)) (pe_call GL hr rfl gL FL.kp bL .nil pass0 (pa_cons (pv 0) (pa_cons (pe_ix (r := rIx K) ix_seq (pe_dget hu (pv 0) (pv 1) (fun _ _ => rfl)) pe_int (fun _ _ => rfl)) pa_nil))) rfl)) (fun _ _ _ _ _ => pv 1)))), ?_⟩
  obtain ⟨D', es, e1, aD, oD, rnd, pr⟩ := at_
  obtain rfl := V.ref.inj e1
  have les : es.length = arcs.length := Paired.length pr
  have ndes : (es.map (·.1)).Nodup := by rw [dc_keys pr]; exact nd_inr rnd
  refine ⟨D, _, oD, trivial, fun od => ⟨_, rfl, D, od, rfl, .inl ⟨es, upd_same, ?_⟩⟩⟩
  have oL : upd H D (.frz od (.dK es)) D = some (.frz od (.dK es)) := upd_same
  have prL : Paired (DcE A0 (upd H D (.frz od (.dK es)))) es arcs := Paired.mapP pr fun e q h => by
    obtain ⟨h1, t, u1, u2, h2, a, ot, h3, h4⟩ := h
    exact ⟨h1, t, u1, u2, h2, a, by rw [upd_ne (fun z => by rw [z, oD] at ot; cases ot)]; exact ot, h3, h4⟩
  refine lc_genON (arcs.map fun e => if liveB arcs e = true then some (V.str e.1) else none) (by rw [List.length_map]; omega) (fun i H' s lt => ⟨s _ _ oL, by rw [List.length_map] at lt; omega⟩) (fun H' s => ⟨s _ _ oL, by rw [List.length_map]; omega⟩) ?_ ?_
  · rintro i y o H11 H12 Cn Nn eo s11 ⟨rfl, k0, v0, ekv, rfl⟩ yes no
    obtain ⟨e, ee, hk, t0, x, z, hv, ap, op, hx, hz⟩ := paired_get prL ekv
    have hk : k0 = Sum.inr e.1 := hk
    have hv : v0 = .ref t0 := hv
    have hx : x = .str e.2.1 := hx
    have hz : z = .str e.2.2 := hz
    subst hk hv hx hz
    have ee : arcs[i]? = some e := ee
    rw [List.getElem?_map, ee] at eo
    obtain rfl := Option.some.inj eo
    have op3 := s11 _ _ op
    have dg : DGet H12 D (.str e.1) (some (.ref t0)) := .inl ⟨es, Sum.inr e.1, .inr ⟨od, s11 _ _ oL⟩, rfl, (valV_atN ndes ekv).symm⟩
    refine ⟨rfl, ?_⟩
    refine ⟨_, rfl, _, rfl, D, _, rfl, dg, .inr (.inl ⟨t0, _, _, _, rfl, rfl, SqT.of op3, rfl, ?_⟩)⟩
    refine ⟨_, rfl, _, rfl, _, rfl, D, _, rfl, dg, .inr (.inl ⟨t0, _, _, _, rfl, rfl, SqT.of op3, rfl, ?_⟩)⟩
    refine ⟨D, od, es, arcs, _, _, rfl, s11 _ _ oL, Paired.mapP prL fun e q h => ⟨h.1, PyD.kp h.2 fun b o a e => ⟨a, s11 _ _ e⟩⟩, rnd, sh, fun H13 q S nq oq LS lS k13 => ?_⟩
    refine ⟨q, _, rfl, .inl (SqL.of oq), rfl, flat_strs S, _, rfl, ?_⟩
    rw [if_neg Bool.false_ne_true, inV_strs]
    by_cases m : e.2.1 ∈ S
    · have hl : liveB arcs e = true := liveB_iff.mpr ((LS.2 _).1 m)
      rw [decide_eq_true m]
      exact iteT ⟨_, rfl, yes _ (by show (if liveB arcs e = true then some (V.str e.1) else none) = _; rw [if_pos hl]; rfl) H13 k13⟩
    · have hl : ¬ liveB arcs e = true := fun z => m ((LS.2 _).2 (liveB_iff.mp z))
      rw [decide_eq_false m]
      exact iteF (no (by show (if liveB arcs e = true then some (V.str e.1) else none) = _; rw [if_neg hl]) H13 k13)
  · intro H11 q nq oq s11
    obtain ⟨b1, s1⟩ := lock_offN oD s11
    have qD : q ≠ D := fun z => by rw [z, oL] at nq; cases nq
    have el : (arcs.map fun e => if liveB arcs e = true then some (V.str e.1) else none).filterMap id = (liveL arcs).map V.str := by
      rw [opt_listN (fun e => liveB arcs e) (fun e => V.str e.1)]
      unfold liveL
      rw [List.map_map]
      rfl
    rw [el] at oq
    exact ⟨b1, hq _ q (by rw [upd_ne qD] at nq; exact nq) (by rw [upd_ne qD]; exact oq) s1⟩
end
end L2.TB
/-! _law_c_nodes -/
namespace L2.TB
open PySem PySem.Spec PyProof.Rows
abbrev NLn : List Str := ["arcs", "found", "one", "other", "node"]
theorem scNodesL : FnScope NLn ["arcs"] (defScope sNodesL) := ⟨rfl, rfl, rfl, by decide +kernel, rfl, by decide +kernel, by decide +kernel⟩
section
variable {P : Program} {w : World} {K : PySem.W.Frag} {mg : Str → Option Value} {base : Heap} {f : Addr} {fd : FuncData}
theorem ok_nodesL (F : Fun K "_law_c_nodes" "_law_c_nodes" sNodesL f fd) (nI : mg "int" = none) : FnOk P w K mg base CX0 1 f fd ["arcs"] spNodesOf := by
  refine F.ok scNodesL (fun vs H Q E h => by obtain ⟨D, arcs, A, e, _⟩ := h; rw [e]; rfl) fun cdv A outer s H vs Q E hr hsp => ?_
  obtain ⟨D, arcs, A0, rfl, at_, sh, hq⟩ := hsp
  have nd := scNodesL.nd
  refine ⟨_, pss_cons (ps_set (i := 1) nd rfl (Or.inl rfl) (pe_lst pa_nil))
    (pss_cons (ps_lock (ps_for PassesOwn.never rfl (pi_values (pv 0)) (pg_tup rfl (pgs_cons (pg_name (i := 2) nd rfl (Or.inl rfl)) (pgs_cons (pg_name (i := 3) nd rfl (Or.inl rfl)) pgs_nil)))
      (pss_one (ps_for PassesOwn.never rfl (pi_seq (pe_tup (pa_cons (pv 2) (pa_cons (pv 3) pa_nil)))) (pg_name (i := 4) nd rfl (Or.inl rfl))
        (pss_one (ps_set (i := 1) nd rfl (Or.inl rfl) (pe_op op_cat (pv 1) (pe_op op_rep (pe_lst (pa_cons (pv 4) pa_nil)) (pe_callTy call_int1 rfl nI boot_int' (pa_cons (pe_cmpR op_notIn_seq (pv 4) (pv 1) rfl) pa_nil))))))))))
    (pss_one (ps_ret (pv 1)))), ?_⟩
  obtain ⟨D', es, e1, aD, oD, rnd, pr⟩ := at_
  obtain rfl := V.ref.inj e1
  have les : es.length = arcs.length := Paired.length pr
  refine ⟨Nat.zero_le _, fun q nq => ?_⟩
  have k1 := same_new (o := .lst []) nq
  have oq : upd H q (.lst []) q = some (.lst (([] : List Str).map V.str)) := upd_same
  have oD1 := k1 _ _ oD
  generalize upd H q (.lst []) = H1 at k1 oq oD1
  have lb : ∀ j, (nodesF [] (arcs.take j)).length ≤ 2 * arcs.length := fun j => by
    have := nodesF_len (arcs.take j) []
    rw [List.length_take, List.length_nil] at this
    omega
  refine ⟨D, _, oD1, trivial, fun od => ⟨_, rfl, D, od, es, rfl, upd_same, for_it walk_values (fun j σ H' => ∃ (p : Addr) (s2 s3 s4 : Option V), σ = [some (.ref D), some (.ref p), s2, s3, s4] ∧ H p = none ∧ H' p = some (.lst ((nodesF [] (arcs.take j)).map V.str)) ∧ Same (upd H1 D (.frz od (.dK es))) H')
    ⟨q, _, _, _, rfl, nq, by rw [upd_ne (fun z => by rw [z, oD] at nq; cases nq)]; exact oq, Same.refl _⟩ (fun j σ H' _ h => by obtain ⟨_, _, _, _, _, _, _, k⟩ := h; exact k _ _ upd_same) ?_ ?_⟩⟩
  · rintro j y σ H3 H4 lt ⟨p, s2, s3, s4, rfl, np, op3, k3⟩ ⟨rfl, k0, ekv⟩
    obtain ⟨e, ee, hk, t0, x, z, hv, ap, op, hx, hz⟩ := paired_get pr ekv
    have hv : y = .ref t0 := hv
    have hx : x = .str e.2.1 := hx
    have hz : z = .str e.2.2 := hz
    subst hv hx hz
    have ee : arcs[j]? = some e := ee
    have tD : t0 ≠ D := fun z => by rw [z, oD] at op; cases op
    have ot3 := k3 _ _ (show upd H1 D (.frz od (.dK es)) t0 = _ by rw [upd_ne tD]; exact k1 _ _ op)
    refine ⟨t0, _, rfl, SqT.of ot3, rfl, _, _, rfl, _, _, rfl, rfl, ?_⟩
    have lb0 := lb j
    rw [nodesF_take [] ee]
    generalize nodesF [] (arcs.take j) = S0 at op3 lb0
    refine ⟨_, rfl, _, rfl, (by show 2 ≤ sizeLine; decide), fun t nt => ?_⟩
    have kt := same_new (o := .tup [.str e.2.1, .str e.2.2]) nt
    have low : ∀ {G : Hp}, Same (upd H1 D (.frz od (.dK es))) G → ∀ {a : Addr}, G a = none → H a = none := fun s a n => by
      have n1 := s.free n
      have aD : a ≠ D := fun z => by rw [z, upd_same] at n1; cases n1
      rw [upd_ne aD] at n1
      exact k1.free n1
    refine for_seq (xs := [V.str e.2.1, V.str e.2.2]) (o := .tup [.str e.2.1, .str e.2.2]) (.inr rfl) (fun i σ H' => ∃ (p : Addr) (s4 : Option V) (S' : List Str), σ = [some (.ref D), some (.ref p), some (.str e.2.1), some (.str e.2.2), s4] ∧ H p = none ∧ H' p = some (.lst (S'.map V.str)) ∧ Same (upd H1 D (.frz od (.dK es))) H' ∧ H' t = some (.tup [.str e.2.1, .str e.2.2]) ∧ S'.length ≤ 2 * arcs.length + i ∧
        ((i = 0 ∧ S' = S0) ∨ (i = 1 ∧ S' = addN S0 e.2.1) ∨ (i = 2 ∧ S' = addN (addN S0 e.2.1) e.2.2)))
      ⟨p, _, S0, rfl, np, kt _ _ op3, k3.trans kt, upd_same, lb0, .inl ⟨rfl, rfl⟩⟩ (fun i σ H' _ h => by obtain ⟨_, _, _, _, _, _, _, h, _⟩ := h; exact h) ?_ ?_
    · rintro i v σ H5 ev ⟨p, s4, S', rfl, np, op5, k5, ot5, ls, st⟩
      obtain ⟨n, rfl, st'⟩ : ∃ n : Str, v = .str n ∧ ((i + 1 = 0 ∧ addN S' n = S0) ∨ (i + 1 = 1 ∧ addN S' n = addN S0 e.2.1) ∨ (i + 1 = 2 ∧ addN S' n = addN (addN S0 e.2.1) e.2.2)) := by
        rcases st with ⟨rfl, rfl⟩ | ⟨rfl, rfl⟩ | ⟨rfl, _⟩
        · exact ⟨_, (Option.some.inj ev).symm, .inr (.inl ⟨rfl, rfl⟩)⟩
        · exact ⟨_, (Option.some.inj ev).symm, .inr (.inr ⟨rfl, rfl⟩)⟩
        · cases ev
      have ln := addN_len S' n
      have li : i < 2 := (List.getElem?_eq_some_iff.mp ev).1
      refine ⟨_, rfl, _, rfl, (by show 1 ≤ sizeLine; decide), fun u nu => ?_⟩
      have ku := same_new (o := .lst [.str n]) nu
      have ou : upd H5 u (.lst [.str n]) u = some (.lst [.str n]) := upd_same
      have op6 := ku _ _ op5
      have k6 := k5.trans ku
      have ot6 := ku _ _ ot5
      generalize upd H5 u (.lst [.str n]) = H6 at ku ou op6 k6 ot6
      refine ⟨_, rfl, _, rfl, p, _, rfl, .inl (SqL.of op6), rfl, flat_strs S', .inr ⟨_, rfl, ?_⟩⟩
      rw [if_pos rfl, inV_strs]
      by_cases m : n ∈ S'
      · rw [decide_eq_true m]
        have ea : addN S' n = S' := by unfold addN; rw [if_pos m]
        refine ⟨u, 0, [.str n], rfl, rfl, ou, by decide, by decide, (by rw [sizeLine_eq]; show 1 * 0 ≤ _; decide), fun a na => ?_⟩
        have ka := same_new (o := .lst (List.replicate (0 : Int).toNat [V.str n]).flatten) na
        have oa : upd H6 a (.lst (List.replicate (0 : Int).toNat [V.str n]).flatten) a = some (.lst []) := upd_same
        have op7 := ka _ _ op6
        have k7 := k6.trans ka
        have ot7 := ka _ _ ot6
        generalize upd H6 a (.lst (List.replicate (0 : Int).toNat [V.str n]).flatten) = H7 at ka oa op7 k7 ot7
        refine ⟨p, a, _, _, rfl, rfl, op7, oa, by rw [List.length_map, List.length_nil, sizeLine_eq]; omega, fun c nc => ?_⟩
        have kc := same_new (o := .lst (S'.map V.str ++ [])) nc
        exact ⟨c, _, addN S' n, rfl, low k7 nc, by rw [upd_same, ea, List.append_nil], k7.trans kc, kc _ _ ot7, by omega, st'⟩
      · rw [decide_eq_false m]
        have ea : addN S' n = S' ++ [n] := by unfold addN; rw [if_neg m]
        refine ⟨u, 1, [.str n], rfl, rfl, ou, by decide, by decide, (by rw [sizeLine_eq]; show 1 * 1 ≤ _; decide), fun a na => ?_⟩
        have ka := same_new (o := .lst (List.replicate (1 : Int).toNat [V.str n]).flatten) na
        have oa : upd H6 a (.lst (List.replicate (1 : Int).toNat [V.str n]).flatten) a = some (.lst [.str n]) := upd_same
        have op7 := ka _ _ op6
        have k7 := k6.trans ka
        have ot7 := ka _ _ ot6
        generalize upd H6 a (.lst (List.replicate (1 : Int).toNat [V.str n]).flatten) = H7 at ka oa op7 k7 ot7
        refine ⟨p, a, _, _, rfl, rfl, op7, oa, by rw [List.length_map, List.length_singleton, sizeLine_eq]; omega, fun c nc => ?_⟩
        have kc := same_new (o := .lst (S'.map V.str ++ [V.str n])) nc
        exact ⟨c, _, addN S' n, rfl, low k7 nc, by rw [upd_same, ea, List.map_append]; rfl, k7.trans kc, kc _ _ ot7, by omega, st'⟩
    · rintro σ H5 ⟨p, s4, S', rfl, np, op5, k5, ot5, ls, st⟩
      rcases st with ⟨e, _⟩ | ⟨e, _⟩ | ⟨_, rfl⟩
      · cases e
      · cases e
      · exact ⟨p, _, _, _, rfl, np, op5, k5⟩
  · rintro σ H3 ⟨p, s2, s3, s4, rfl, np, op3, k3⟩
    obtain ⟨b1, k4⟩ := lock_offN oD1 k3
    rw [les, List.take_length] at op3
    have pD : p ≠ D := fun z => by rw [z, oD] at np; cases np
    exact ⟨b1, _, rfl, hq _ p np (by rw [upd_ne pD]; exact op3) (k1.trans k4)⟩
end
end L2.TB
/-! _law_c_way -/
namespace L2.TB
open PySem PySem.Spec PyProof.Rows
theorem perm_lift {α β : Type} {f : α → β} {ys zs : List β} (h : ys.Perm zs) : ∀ {l : List α}, zs = l.map f → ∃ l' : List α, l'.Perm l ∧ ys = l'.map f := by
  induction h with
  | nil =>
    intro l e
    refine ⟨[], ?_, rfl⟩
    cases l with
    | nil => exact .refl _
    | cons a l => cases e
  | @cons y ys zs _ ih =>
    intro l e
    cases l with
    | nil => cases e
    | cons a l =>
      obtain ⟨e1, e2⟩ := List.cons.inj e
      obtain ⟨l', p, e3⟩ := ih e2
      exact ⟨a :: l', p.cons a, by rw [e1, e3]; rfl⟩
  | @swap x y zs =>
    intro l e
    cases l with
    | nil => cases e
    | cons a l =>
      cases l with
      | nil => cases (List.cons.inj e).2
      | cons b l =>
        obtain ⟨e1, e2⟩ := List.cons.inj e
        obtain ⟨e3, e4⟩ := List.cons.inj e2
        exact ⟨b :: a :: l, .swap _ _ _, by rw [e1, e3, e4]; rfl⟩
  | trans _ _ ih1 ih2 =>
    intro l e
    obtain ⟨l2, p2, e2⟩ := ih2 e
    obtain ⟨l1, p1, e1⟩ := ih1 e2
    exact ⟨l1, p1.trans p2, e1⟩
/-- names of arcs that lead from a to b, one behind the other -/
inductive PathL (arcs : NtT) (a : Str) : List Str → Str → Prop
  | nil : PathL arcs a [] a
  | snoc {p : List Str} {x y n : Str} (h : PathL arcs a p x) (m : (n, (x, y)) ∈ arcs) : PathL arcs a (p ++ [n]) y
theorem valV_get {ec : List (Key × V)} {k : Key} {v : V} (h : valV ec k = some v) : ∃ i : Nat, ec[i]? = some (k, v) := by
  unfold valV at h
  obtain ⟨kv, f1, f2⟩ := Option.map_eq_some_iff.mp h
  obtain ⟨i, hi⟩ := List.getElem?_of_mem (List.mem_of_find?_eq_some f1)
  have e3 := List.find?_some f1
  have e3 : kv.1 = k := by simpa using e3
  exact ⟨i, by rw [hi, ← f2, ← e3]⟩
def CamE (l ls CM : Addr) (H H' : Hp) (e : Key × V) (q : Str × List Str) : Prop := e.1 = Sum.inr q.1 ∧ ∃ t, e.2 = .ref t ∧ H t = none ∧ (t ≠ l ∧ t ≠ ls) ∧ t ≠ CM ∧ H' t = some (.lst (q.2.map V.str))
structure CamI (arcs : NtT) (a : Str) (cs : List (Str × List Str)) : Prop where
  r : RI (arcs.map (·.2)) a 0 (cs.map (·.1))
  p : ∀ q ∈ cs, PathL arcs a q.2 q.1 ∧ q.2.length ≤ cs.length
theorem cam_keys {l ls CM : Addr} {H H' : Hp} {es : List (Key × V)} {cs : List (Str × List Str)} (h : Paired (CamE l ls CM H H') es cs) : es.map (·.1) = (cs.map (·.1)).map Sum.inr := by
  induction h with
  | nil => rfl
  | cons h _ ih => rw [List.map_cons, List.map_cons, List.map_cons, ih, h.1]
def spWay : Sp := fun vs H Q _ => ∃ (l ls D : Addr) (arcs : NtT) (A : Addr → Prop) (a b : Str) (N : Int), vs = [.ref l, .ref D, .str a, .str b] ∧ Strm H l ls N ∧ N ≤ 800000 ∧ PyD.at_ A H (.ref D) (Dc.mk arcs) ∧ (∀ c, A c → c ≠ l ∧ c ≠ ls) ∧ arcs.length ≤ 100 ∧ Reach (arcs.map (·.2)) a b ∧
  ∀ H' t p, H t = none → t ≠ l ∧ t ≠ ls → H' t = some (.lst (p.map V.str)) → PathL arcs a p b → p.length ≤ 101 → Strm H' l ls (N + 100) → But l ls H H' → Q (.ref t) H'
abbrev NWy : List Str := ["stream", "arcs", "start", "goal", "came", "order", "turn", "name", "one", "other"]
section
variable {P : Program} {w : World} {K : PySem.W.Frag} {mg : Str → Option Value} {base : Heap} {f fM : Addr} {fd fdM : FuncData}
end
end L2.TB
/-! _law_c_world: a balanced world -/
namespace L2.TB
open PySem PySem.Spec PyProof.Rows
/-- what goes in less what goes out, at a node -/
def netI (x : Str → Int) (n : Str) : NtT → Int
  | [] => 0
  | e :: r => ((if e.2.2 = n then x e.1 else 0) - (if e.2.1 = n then x e.1 else 0)) + netI x n r
def putI (x : Str → Int) (o : Str) (m : Int) : Str → Int := fun k => if k = o then x k + m else x k
theorem netI_far {x : Str → Int} {n o : Str} {m : Int} : ∀ {arcs : NtT}, o ∉ arcs.map (·.1) → netI (putI x o m) n arcs = netI x n arcs
  | [], _ => rfl
  | e :: r, h => by
    have h1 : ¬ e.1 = o := fun z => h (by rw [List.map_cons, ← z]; exact List.mem_cons_self)
    have h2 := netI_far (x := x) (n := n) (m := m) (arcs := r) fun z => h (by rw [List.map_cons]; exact List.mem_cons_of_mem _ z)
    show _ + netI (putI x o m) n r = _ + netI x n r
    rw [h2]
    unfold putI
    rw [if_neg h1]
theorem netI_put {x : Str → Int} {n o a b : Str} {m : Int} : ∀ {arcs : NtT}, (arcs.map (·.1)).Nodup → (o, (a, b)) ∈ arcs → netI (putI x o m) n arcs = netI x n arcs + ((if b = n then m else 0) - (if a = n then m else 0))
  | [], _, h => by cases h
  | e :: r, nd, h => by
    rw [List.map_cons, List.nodup_cons] at nd
    rcases List.mem_cons.mp h with rfl | h
    · have h2 := netI_far (x := x) (n := n) (m := m) nd.1
      show ((if b = n then putI x o m o else 0) - (if a = n then putI x o m o else 0)) + netI (putI x o m) n r = (((if b = n then x o else 0) - (if a = n then x o else 0)) + netI x n r) + _
      rw [h2]
      have e : putI x o m o = x o + m := if_pos rfl
      rw [e]
      by_cases c : b = n <;> by_cases c' : a = n <;> simp only [c, c', if_true, if_false] <;> omega
    · have ne : ¬ e.1 = o := fun z => nd.1 (by rw [z]; exact List.mem_map_of_mem (f := (·.1)) h)
      have h2 := netI_put (x := x) (n := n) (m := m) nd.2 h
      show _ + netI (putI x o m) n r = (_ + netI x n r) + _
      rw [h2]
      have e1 : putI x o m e.1 = x e.1 := if_neg ne
      rw [e1]
      omega
theorem inwL_from (x : Str → Int) (n : Str) : ∀ (arcs : NtT) (t : Int), arcs.foldl (fun t e => (t + if e.2.2 ∈ [n] ∧ e.2.1 ∉ [n] then x e.1 else 0) - if e.2.1 ∈ [n] ∧ e.2.2 ∉ [n] then x e.1 else 0) t = t + netI x n arcs
  | [], t => by show t = t + 0; omega
  | e :: r, t => by
    rw [List.foldl_cons, inwL_from x n r]
    show _ = t + (_ + netI x n r)
    by_cases c : e.2.2 = n <;> by_cases c' : e.2.1 = n <;> simp only [List.mem_singleton, c, c', not_true, not_false_iff, and_true, and_false, true_and, false_and, if_true, if_false] <;> omega
theorem inwL_net (x : Str → Int) (n : Str) (arcs : NtT) : inwL x [n] arcs = netI x n arcs := by
  unfold inwL
  rw [inwL_from]
  omega
theorem path_cons {arcs : NtT} {s t b n : Str} {p : List Str} (m : (n, (s, t)) ∈ arcs) (h : PathL arcs t p b) : PathL arcs s (n :: p) b := by
  induction h with
  | nil => exact .snoc (p := []) .nil m
  | snoc _ m2 ih => exact .snoc ih m2
theorem path_seq {arcs : NtT} {a b : Str} {p : List Str} (h : PathL arcs a p b) : ∃ f : Nat → Str, f 0 = a ∧ f p.length = b ∧ ∀ (i : Nat) (n : Str), p[i]? = some n → (n, (f i, f (i + 1))) ∈ arcs := by
  induction h with
  | nil => exact ⟨fun _ => a, rfl, rfl, fun i n e => by cases e⟩
  | @snoc p x y n h m ih =>
    obtain ⟨f, f0, f1, fs⟩ := ih
    refine ⟨fun i => if i ≤ p.length then f i else y, by show (if 0 ≤ p.length then f 0 else y) = a; rw [if_pos (Nat.zero_le _)]; exact f0, ?_, fun i z e => ?_⟩
    · show (if (p ++ [n]).length ≤ p.length then _ else y) = y
      rw [if_neg (by rw [List.length_append, List.length_singleton]; omega)]
    · rcases Nat.lt_or_ge i p.length with lt | ge
      · rw [List.getElem?_append_left lt] at e
        show (z, (if i ≤ p.length then f i else y, if i + 1 ≤ p.length then f (i + 1) else y)) ∈ arcs
        rw [if_pos ((by omega)), if_pos (by omega)]
        exact fs i z e
      · rw [List.getElem?_append_right ge] at e
        have lt := (List.getElem?_eq_some_iff.mp e).1
        rw [List.length_singleton] at lt
        have ei : i = p.length := by omega
        subst ei
        rw [Nat.sub_self] at e
        obtain rfl : n = z := Option.some.inj e
        show (n, (if p.length ≤ p.length then f p.length else y, if p.length + 1 ≤ p.length then f (p.length + 1) else y)) ∈ arcs
        rw [if_pos (Nat.le_refl _), if_neg (by omega), f1]
        exact m
theorem valD_get {vv : Str → V} {arcs : NtT} (nd : (arcs.map (·.1)).Nodup) {e : Str × ArT} (h : e ∈ arcs) : valV (valD vv arcs) (Sum.inr e.1) = some (vv e.1) := by
  obtain ⟨j, hj⟩ := List.getElem?_of_mem h
  refine valV_atN (i := j) (by unfold valD; rw [List.map_map]; have z := nd_inr nd; rw [List.map_map] at z; exact z) ?_
  unfold valD
  rw [List.getElem?_map, hj]
  rfl
theorem valD_put {x : Str → Int} {arcs : NtT} {o : Str} {m : Int} (h : o ∈ arcs.map (·.1)) : putK (valD (fun n => .int (x n)) arcs) (Sum.inr o) (.int (x o + m)) = valD (fun n => .int (putI x o m n)) arcs := by
  rw [put_has (by unfold valD; rw [List.map_map]; obtain ⟨e, he, rfl⟩ := List.mem_map.mp h; exact List.mem_map.mpr ⟨e, he, rfl⟩)]
  unfold valD
  rw [List.map_map]
  refine List.map_congr_left fun e _ => ?_
  show (if (Sum.inr e.1 : Key) = Sum.inr o then ((Sum.inr e.1 : Key), V.int (x o + m)) else (Sum.inr e.1, V.int (x e.1))) = (Sum.inr e.1, V.int (putI x o m e.1))
  unfold putI
  by_cases c : e.1 = o
  · rw [if_pos (congrArg Sum.inr c), if_pos c, c]
  · rw [if_neg (fun z => c (Sum.inr.inj z)), if_neg c]
structure BalX (arcs : NtT) (x : Str → Int) : Prop where
  pos : ∀ e ∈ arcs, 0 ≤ x e.1
  bal : ∀ n, netI x n arcs = 0
theorem BalX.vals {arcs : NtT} {x : Str → Int} (h : BalX arcs x) : valsB (fun n => .int (x n)) arcs = true := by
  unfold valsB
  rw [Bool.and_eq_true]
  refine ⟨List.all_eq_true.mpr fun e he => decide_eq_true (h.pos e he), List.all_eq_true.mpr fun n _ => decide_eq_true ?_⟩
  rw [inwL_net]
  exact h.bal n
theorem bal_zero (arcs : NtT) : BalX arcs (fun _ => 0) := ⟨fun _ _ => Int.le_refl _, fun n => by
  induction arcs with
  | nil => rfl
  | cons e r ih =>
    show _ + netI _ n r = 0
    rw [ih]
    simp⟩
theorem valD_nd {vv : Str → V} {arcs : NtT} (nd : (arcs.map (·.1)).Nodup) : ((valD vv arcs).map (·.1)).Nodup := by
  unfold valD
  rw [List.map_map]
  have z := nd_inr nd
  rw [List.map_map] at z
  exact z
theorem valD_merge {vv : Str → V} {arcs : NtT} (nd : (arcs.map (·.1)).Nodup) : mergeK [] (valD vv arcs) = valD vv arcs := by
  have z := merge_new (valD vv arcs) [] (by rw [List.nil_append]; exact valD_nd nd)
  rw [List.nil_append] at z
  exact z
/-- pairs of names and values, as made by a comprehension -/
theorem pairs_valD {K : PySem.W.Frag} {H2 : Hp} {arcs : NtT} {vv : Str → V} (ys : List V) (ly : ys.length = arcs.length) (ry : ∀ (j : Nat) (y : V), ys[j]? = some y → ∃ (t : Addr) (e : Str × ArT), y = .ref t ∧ arcs[j]? = some e ∧ H2 t = some (.tup [.str e.1, vv e.1])) :
    ∃ ts : List Addr, ys = ts.map V.ref ∧ ∀ H3, (∀ t o, t ∈ ts → H2 t = some o → H3 t = some o) → Paired (fun t (e : Key × V) => SqT K H3 t [kV e.1, e.2]) ts (valD vv arcs) := by
  obtain ⟨ts, rfl, pt⟩ := addrs_of (H := H2) (P := fun i t => ∃ e, arcs[i]? = some e ∧ H2 t = some (.tup [.str e.1, vv e.1])) ys 0 fun j y ey => by
    obtain ⟨t, e, rfl, h1, h2⟩ := ry j y ey
    exact ⟨t, rfl, e, by rw [Nat.zero_add]; exact h1, h2⟩
  refine ⟨ts, rfl, fun H3 k => ?_⟩
  rw [List.length_map] at ly
  refine paired_of _ _ (by unfold valD; rw [List.length_map]; exact ly) fun i t q et eq => ?_
  unfold valD at eq
  rw [List.getElem?_map] at eq
  obtain ⟨e, ee, rfl⟩ := Option.map_eq_some_iff.mp eq
  obtain ⟨e', ee', ot⟩ := pt i t et
  rw [Nat.zero_add, ee] at ee'
  obtain rfl := Option.some.inj ee'
  exact SqT.of (k _ _ (List.mem_of_getElem? et) ot)
def spWorldL : Sp := fun vs H Q _ => ∃ (l ls D : Addr) (arcs : NtT) (A : Addr → Prop) (N : Int), vs = [.ref l, .ref D] ∧ Strm H l ls N ∧ N ≤ 700000 ∧ PyD.at_ A H (.ref D) (Dc.mk arcs) ∧ (∀ c, A c → c ≠ l ∧ c ≠ ls) ∧ arcs.length ≤ 8 ∧
  ∀ H' W x, H W = none → W ≠ l ∧ W ≠ ls → H' W = some (.dK (valD (fun n => .int (x n)) arcs)) → BalX arcs x → Strm H' l ls (N + 1000) → But l ls H H' → Q (.ref W) H'
abbrev NWo : List Str := ["stream", "arcs", "name", "found", "much", "other"]
section
variable {P : Program} {w : World} {K : PySem.W.Frag} {mg : Str → Option Value} {base : Heap} {f fD fM fL fW : Addr} {fd fdD fdM fdL fdW : FuncData}
end
end L2.TB
/-! _law_c_is_world -/
namespace L2.TB
open PySem PySem.Spec PyProof.Rows
def inS (x : Str → Int) (n : Str) (arcs : NtT) : List Int := (arcs.filter fun e => decide (e.2.2 = n)).map fun e => x e.1
def outS (x : Str → Int) (n : Str) (arcs : NtT) : List Int := (arcs.filter fun e => decide (e.2.1 = n)).map fun e => x e.1
theorem netI_sums (x : Str → Int) (n : Str) : ∀ arcs : NtT, netI x n arcs = (inS x n arcs).sum - (outS x n arcs).sum
  | [] => rfl
  | e :: r => by
    have ih := netI_sums x n r
    show _ + netI x n r = _
    rw [ih]
    unfold inS outS
    rw [(List.filter_cons), List.filter_cons]
    by_cases c : e.2.2 = n <;> by_cases c' : e.2.1 = n <;> simp only [c, c', decide_true, decide_false, if_true, if_false, List.map_cons, List.sum_cons, Bool.false_eq_true] <;> omega
def spIsWorldL (K : PySem.W.Frag) : Sp := fun vs H Q _ => ∃ (D : Addr) (arcs : NtT) (A : Addr → Prop) (v : V) (b : Bool), vs = [.ref D, v] ∧ PyD.at_ A H (.ref D) (Dc.mk arcs) ∧ 0 < arcs.length ∧ arcs.length < 300 ∧ WTh K H arcs v b ∧ ∀ H', Same H H' → Q (.bl b) H'
abbrev NIwl : List Str := ["arcs", "x", "node", "inner", "name"]
section
variable {P : Program} {w : World} {K : PySem.W.Frag} {mg : Str → Option Value} {base : Heap} {f fN : Addr} {fd fdN : FuncData}
end
end L2.TB
/-! _law_tried(lambda: ..) that is refused -/
namespace L2.TB
open PySem PySem.Spec PyProof.Rows LamX
theorem flyE {ca : Str → Addr} {r : Rz} {H : Hp} {v : V} {Q : VK} {E : XK} (hr : r ∈ rzT) (h : ∀ H' t, Same H H' → H' t = none → Q (.ref t) (upd H' t (.tup [.str r.tag, v]))) (hE : ∀ cls d H', EchE ca Q cls d H' → E cls d H') : Flies (ca r.x) r.fld v H E := fun d H' s nd hd =>
  hE _ _ _ ⟨r, d, _, v, hr, rfl, rfl, hd, by simp [List.lookup], fun t nt => h _ t s nt⟩
/-! what stays where only tables grow -/
theorem ty_ext {K : PySem.W.Frag} {H H' : Hp} {v : V} {t : String} (h : TyX K H v (.type t)) (s : ExtN H H') : TyX K H' v (.type t) := by
  have k : ∀ {b : Addr} {o : HO}, H b = some o → (∀ ps, o ≠ .tbl ps) → H' b = some o := fun e n => s _ _ e n
  generalize e : Value.type t = u at h
  cases h with
  | base b =>
    refine .base ?_
    cases b with
    | non => exact .non
    | bl x => exact .bl x
    | int i => exact .int i
    | str x => exact .str x
    | flt x => exact .flt x
    | lst q => exact .lst (k q fun _ z => by cases z)
    | frz q => exact .frz (k q fun _ z => by cases z)
    | tup q => exact .tup (k q fun _ z => by cases z)
    | dK q => exact .dK (k q fun _ z => by cases z)
    | dT q => exact .dT (k q fun _ z => by cases z)
    | ins q => cases e
  | byt b => exact .byt b
  | set q => exact .set (k q fun _ z => by cases z)
  | kList q c => exact .kList q c
  | kTuple q c => exact .kTuple q c
  | kDict q c => exact .kDict q c
  | fTuple q => exact .fTuple (k q fun _ z => by cases z)
  | fDict q => exact .fDict (k q fun _ z => by cases z)
theorem sq_ext {K : PySem.W.Frag} {H H' : Hp} {a : Addr} {xs : List V} (h : SqA K H a xs) (s : ExtN H H') : SqA K H' a xs := h.imp (fun e => s _ _ e (fun _ z => by cases z)) (fun e => s _ _ e (fun _ z => by cases z))
theorem WTh.ext {K : PySem.W.Frag} {H H' : Hp} {arcs : NtT} {v : V} {b : Bool} (h : WTh K H arcs v b) (s : ExtN H H') : WTh K H' arcs v b := by
  cases h with
  | no h => exact .no (let ⟨t, a, b⟩ := h; ⟨t, ty_ext a s, b⟩)
  | bad o sh j => exact .bad (s _ _ o (fun _ z => by cases z)) sh j
  | val o sh j vv hv => exact .val (s _ _ o (fun _ z => by cases z)) sh j vv hv
theorem AlkF.ext {H H' : Hp} (s : ExtN H H') {n : Nat} {x y : V} (h : AlkF H n x y) : AlkF H' n x y := by
  induction h with
  | one h => exact .one h
  | dic ha hb nd at_ => exact .dic (s _ _ ha (fun _ z => by cases z)) (s _ _ hb (fun _ z => by cases z)) nd at_
  | lst ha hb l sh _ ih => exact .lst (s _ _ ha (fun _ z => by cases z)) (s _ _ hb (fun _ z => by cases z)) l sh ih
  | tup ha hb l sh _ ih => exact .tup (s _ _ ha (fun _ z => by cases z)) (s _ _ hb (fun _ z => by cases z)) l sh ih
  | up _ ih => exact .up ih
theorem arcs_ext {A : Addr → Prop} {H H' : Hp} {D : Addr} {arcs : NtT} (h : PyD.at_ A H (.ref D) (Dc.mk arcs)) (s : ExtN H H') : PyD.at_ A H' (.ref D) (Dc.mk arcs) := by
  obtain ⟨D', es, e1, aD, oD, rnd, pr⟩ := h
  refine ⟨D', es, e1, aD, s _ _ oD (fun _ z => by cases z), rnd, Paired.mapP pr fun e q h => ?_⟩
  obtain ⟨h1, t, u1, u2, h2, a, ot, h3, h4⟩ := h
  exact ⟨h1, t, u1, u2, h2, a, s _ _ ot (fun _ z => by cases z), h3, h4⟩
theorem NetA.ext {A : Addr → Prop} {H H' : Hp} {C x : Addr} {arcs : NtT} (h : NetA A H C x arcs) (s : ExtN H H') : NetA A H' C x arcs := by
  obtain ⟨dx, D, N, Lv, h1, h2, a1, h3, a2, h4⟩ := h.ex
  exact ⟨dx, D, N, Lv, s _ _ h1 (fun _ z => by cases z), arcs_ext h2 s, a1, s _ _ h3 (fun _ z => by cases z), a2, s _ _ h4 (fun _ z => by cases z)⟩
end L2.TB
/-! what stays; small things -/
namespace L2.TB
open PySem PySem.Spec PyProof.Rows LamX
theorem paired_joinN {α β : Type} {F : α → β → Prop} {as : List α} {bs : List β} {a : α} {b : β} (h : Paired F as bs) (k : F a b) : Paired F (as ++ [a]) (bs ++ [b]) := paired_appN h (.cons k .nil)
theorem opt_lcN {α : Type} {J : It} {g : TG} {tt : TT} {te : TE} {vs : List Nat} {σ : St} {H1 : Hp} {Q : Addr → Hp → Prop} (xs : List α) (f : α → Option (Key × V)) (short : xs.length < 1000) (go : ∀ i H, Same H1 H → i < xs.length → J.go i H) (stop : ∀ H, Same H1 H → J.stop xs.length H)
    (turn : ∀ (i : Nat) (v : V) (a : α) (H H' : Hp) (C : V → Hp → Prop) (N : Hp → Prop), xs[i]? = some a → Same H1 H → J.yld i H v H' → (∀ k x, f a = some (k, x) → ∀ t H4, H4 t = some (.tup [kV k, x]) → Same H H4 → C (.ref t) H4) → (f a = none → ∀ H4, Same H H4 → N H4) →
      g v (wipe σ vs) H' fun σ2 H2 => wipe σ2 vs = wipe σ vs ∧ tt σ2 H2 fun b H3 => if b = true then te σ2 H3 C else N H3)
    (fin : ∀ H D ps, H1 D = none → H D = some (.lst ((ps : List Addr).map V.ref)) → Paired (fun p (kv : Key × V) => H p = some (.tup [kV kv.1, kv.2])) ps (xs.filterMap f) → Same H1 H → Q D H) : LcW J g tt te vs σ H1 Q := by
  intro D nD
  refine ⟨fun i m H => m = xs.length - i ∧ i ≤ xs.length ∧ (∃ ps : List Addr, H D = some (.lst (ps.map V.ref)) ∧ ps.length ≤ i ∧ Paired (fun p (kv : Key × V) => H p = some (.tup [kV kv.1, kv.2])) ps ((xs.take i).filterMap f)) ∧ Same H1 H,
    ⟨_, rfl, Nat.zero_le _, ⟨[], upd_same, Nat.le_refl _, by rw [List.take_zero]; exact .nil⟩, same_new nD⟩, ?_⟩
  rintro i m H ⟨rfl, le, ⟨ps, oD, lp, pr⟩, s1⟩
  by_cases lt : i < xs.length
  · refine .inr ⟨go i H s1 lt, fun H' => (∃ ps : List Addr, H' D = some (.lst (ps.map V.ref)) ∧ ps.length ≤ i + 1 ∧ Paired (fun p (kv : Key × V) => H' p = some (.tup [kV kv.1, kv.2])) ps ((xs.take (i + 1)).filterMap f)) ∧ Same H1 H', fun H' h => ⟨xs.length - (i + 1), by omega, rfl, lt, h⟩, fun x H' yl => ?_⟩
    have ea : xs[i]? = some xs[i] := List.getElem?_eq_getElem lt
    have et : (xs.take (i + 1)).filterMap f = (xs.take i).filterMap f ++ (f xs[i]).toList := by
      rw [List.take_succ, ea, List.filterMap_append]
      show _ ++ List.filterMap f [xs[i]] = _
      cases e : f xs[i] <;> simp [e]
    refine turn i x xs[i] H H' _ _ ea s1 yl (fun k x ek t H4 ot s4 => ?_) (fun en H4 s4 => ?_)
    · have oD4 := s4 _ _ oD
      have tD : t ≠ D := fun z => by rw [z, oD4] at ot; cases ot
      have up : ∀ {l : List V} b o, b ≠ D → H4 b = some o → upd H4 D (.lst l) b = some o := fun b o nb e => by rw [upd_ne nb]; exact e
      refine ⟨_, oD4, by rw [sizeLine_eq, List.length_map]; omega, ⟨ps ++ [t], by rw [upd_same, List.map_append]; rfl, by rw [List.length_append]; show _ + 1 ≤ _; omega, ?_⟩, ?_⟩
      · rw [et, ek]
        exact paired_joinN (Paired.mapP pr fun p kv h => up _ _ (fun z => by rw [z, oD] at h; cases h) (s4 _ _ h)) (up _ _ tD ot)
      · intro b u e
        rw [upd_ne (ne_of_none e nD)]
        exact s4 _ _ (s1 _ _ e)
    · refine ⟨⟨ps, s4 _ _ oD, by omega, ?_⟩, s1.trans s4⟩
      rw [et, en]
      simp only [Option.toList_none, List.append_nil]
      exact Paired.mapP pr fun p kv h => s4 _ _ h
  · obtain rfl : i = xs.length := by omega
    rw [List.take_length] at pr
    exact .inl ⟨stop H s1, fin H D ps nD oD pr s1⟩
/-- all but the spring and the tables stays -/
def BE (l ls : Addr) (H H' : Hp) : Prop := ∀ b o, b ≠ l → b ≠ ls → H b = some o → (∀ ps, o ≠ .tbl ps) → H' b = some o
theorem BE.trans {l ls : Addr} {H H1 H2 : Hp} (a : BE l ls H H1) (b : BE l ls H1 H2) : BE l ls H H2 := fun c o h1 h2 e no => b c o h1 h2 (a c o h1 h2 e no) no
theorem BE.of {l ls : Addr} {H H1 : Hp} (a : But l ls H H1) : BE l ls H H1 := fun c o h1 h2 e _ => a c o h1 h2 e
theorem BE.ext {l ls : Addr} {H H1 : Hp} (a : ExtN H H1) : BE l ls H H1 := fun c o _ _ e no => a c o e no
theorem Tabs.but {T : List (Addr × Str)} {l ls : Addr} {N : Int} {H H' : Hp} (t : Tabs T H) (S : Strm H l ls N) (B : But l ls H H') : Tabs T H' := fun p hp => by
  obtain ⟨cs, g, k, m, S⟩ := S
  obtain ⟨ps, h1, h2, h3⟩ := t p hp
  have far : ∀ {b : Addr} {o : HO}, H b = some o → (∀ xs, o ≠ .lst xs) → H' b = some o := fun {b o} e no => B b o (fun z => by rw [z, S.o] at e; exact no _ (Option.some.inj e).symm) (fun z => by rw [z, S.c] at e; exact no _ (Option.some.inj e).symm) e
  refine ⟨ps, far h1 (fun _ z => by cases z), h2, fun pos cv hc => ?_⟩
  obtain ⟨c, e1, e2⟩ := h3 pos cv hc
  exact ⟨c, e1, far e2 (fun _ z => by unfold CodeO at z; cases z)⟩
theorem Strm.ext {H H' : Hp} {l ls : Addr} {N : Int} (h : Strm H l ls N) (s : ExtN H H') : Strm H' l ls N := by
  obtain ⟨cs, g, k, m, S⟩ := h
  exact ⟨cs, g, k, m, s _ _ S.o (fun _ z => by cases z), s _ _ S.c (fun _ z => by cases z), S.ne, S.g0, S.k0, S.k1, S.m0, S.m1, S.sz⟩
/-- a thing that may be no world -/
structure ThOk (K : PySem.W.Frag) (H : Hp) (arcs : NtT) (v : V) : Prop where
  w : ∃ b, WTh K H arcs v b
  a : AlkF H 1 v v
theorem ThOk.ext {K : PySem.W.Frag} {H H' : Hp} {arcs : NtT} {v : V} (h : ThOk K H arcs v) (s : ExtN H H') : ThOk K H' arcs v := ⟨let ⟨b, w⟩ := h.w; ⟨b, w.ext s⟩, h.a.ext s⟩
theorem ThOk.same {K : PySem.W.Frag} {H H' : Hp} {arcs : NtT} {v : V} (h : ThOk K H arcs v) (s : Same H H') : ThOk K H' arcs v := h.ext (ExtN.of s)
theorem th_dict {K : PySem.W.Frag} {H : Hp} {arcs : NtT} {d : Addr} {kvs : List (Key × V)} (o : H d = some (.dK kvs)) (nd : (kvs.map (·.1)).Nodup) (at_ : ∀ kv ∈ kvs, Atom kv.2) (sh : kvs.length < 2000) : ThOk K H arcs (.ref d) := by
  refine ⟨?_, .up (.dic o o nd at_)⟩
  cases hj : justB kvs (arcs.map (·.1)) with
  | false => exact ⟨_, .bad o sh hj⟩
  | true =>
    refine ⟨_, .val o sh hj (fun n => (valV kvs (Sum.inr n)).getD .non) fun e he => ?_⟩
    unfold justB at hj
    rw [Bool.and_eq_true] at hj
    have z := List.all_eq_true.mp hj.2 e.1 (List.mem_map_of_mem he)
    cases q : valV kvs (Sum.inr e.1) with
    | none => rw [q] at z; cases z
    | some v =>
      obtain ⟨i, hi⟩ := valV_get q
      exact ⟨rfl, at_ _ (List.mem_of_getElem? hi)⟩
theorem put_fine {kvs : List (Key × V)} {k : Key} {v : V} (nd : (kvs.map (·.1)).Nodup) (at_ : ∀ kv ∈ kvs, Atom kv.2) (a : Atom v) : ((putK kvs k v).map (·.1)).Nodup ∧ ∀ kv ∈ putK kvs k v, Atom kv.2 := by
  by_cases h : (k ∈ kvs.map (·.1))
  · rw [put_has h]
    refine ⟨?_, fun kv hk => ?_⟩
    · rw [List.map_map]
      have e : ((fun x : Key × V => x.1) ∘ fun kv : Key × V => if kv.1 = k then (kv.1, v) else kv) = fun x : Key × V => x.1 := by
        funext x
        show (if x.1 = k then (x.1, v) else x).1 = x.1
        split <;> rfl
      rw [e]
      exact nd
    · obtain ⟨q, hq, rfl⟩ := List.mem_map.mp hk
      by_cases c : q.1 = k
      · rw [if_pos c]; exact a
      · rw [if_neg c]; exact at_ q hq
  · rw [put_last h]
    refine ⟨?_, fun kv hk => ?_⟩
    · rw [List.map_append, List.nodup_append]
      exact ⟨nd, by simp, fun x hx y hy z => h (by
        have e : y = k := by simpa using hy
        rw [← e, ← z]; exact hx)⟩
    · rcases List.mem_append.mp hk with z | z
      · exact at_ kv z
      · rw [List.mem_singleton.mp z]; exact a
theorem valD_atoms {vv : Str → V} {arcs : NtT} (h : ∀ e ∈ arcs, Atom (vv e.1)) : ∀ kv ∈ valD vv arcs, Atom kv.2 := fun kv hk => by
  unfold valD at hk
  obtain ⟨e, he, rfl⟩ := List.mem_map.mp hk
  exact h e he
theorem fm_valD (c : V) : ∀ arcs : NtT, arcs.filterMap (fun e => some ((Sum.inr e.1 : Key), c)) = valD (fun _ => c) arcs
  | [] => rfl
  | e :: r => by
    rw [List.filterMap_cons]
    show (Sum.inr e.1, c) :: List.filterMap _ r = (Sum.inr e.1, c) :: valD (fun _ => c) r
    rw [fm_valD c r]
theorem fm_nd {f : Str × ArT → Option (Key × V)} (hf : ∀ e k v, f e = some (k, v) → k = Sum.inr e.1) : ∀ {arcs : NtT}, (arcs.map (·.1)).Nodup → ((arcs.filterMap f).map (·.1)).Nodup
  | [], _ => by simp
  | e :: r, nd => by
    rw [List.map_cons, List.nodup_cons] at nd
    have ih := fm_nd hf nd.2
    rw [List.filterMap_cons]
    cases q : f e with
    | none => exact ih
    | some kv =>
      show ((kv :: List.filterMap f r).map (·.1)).Nodup
      rw [(List.map_cons), List.nodup_cons]
      refine ⟨fun z => ?_, ih⟩
      obtain ⟨kv2, h2, e2⟩ := List.mem_map.mp z
      obtain ⟨e3, h3, h4⟩ := List.mem_filterMap.mp h2
      have a1 := hf e kv.1 kv.2 q
      have a2 := hf e3 kv2.1 kv2.2 h4
      have a3 : e3.1 = e.1 := Sum.inr.inj (a2.symm.trans (e2.trans a1))
      exact nd.1 (by rw [← a3]; exact List.mem_map_of_mem h3)
theorem passesN {X : Cx} {E : XK} (tk : Takes X fun cls d _ H => E cls d H) : Passes (L2.CX X.prog X.w) X E := fun pins σ H s e s' I c => passAt tk σ pins H s e s' I c
theorem hu_out {k : Nat} {A : Around} (hr : Room k A) : A.units + 8 < cLine := by
  have := hr.un
  omega
theorem tabs_list {T : List (Addr × Str)} {H : Hp} {q : Addr} {us vs : List V} (t : Tabs T H) (hq : H q = some (.lst us)) : Tabs T (upd H q (.lst vs)) := fun p hp => by
  obtain ⟨ps, h1, h2, h3⟩ := t p hp
  refine ⟨ps, by rw [upd_ne (fun z => by rw [z, hq] at h1; cases h1)]; exact h1, h2, fun pos cv hc => ?_⟩
  obtain ⟨c, e1, e2⟩ := h3 pos cv hc
  refine ⟨c, e1, ?_⟩
  have ne : c ≠ q := fun z => by
    rw [z, hq] at e2
    have e3 := Option.some.inj e2
    unfold CodeO at e3
    cases e3
  rw [upd_ne ne]
  exact e2
theorem hand_of {K : PySem.W.Frag} {A : Addr → Prop} {H : Hp} {es : List (Key × V)} {arcs : NtT} (h : Paired (DcE A H) es arcs) : Paired (HandArc K (fun _ => True) H) es arcs := Paired.mapP h fun e q h => by
  obtain ⟨h1, t, u1, u2, h2, a, ot, h3, h4⟩ := h
  have h3 : u1 = .str q.2.1 := h3
  have h4 : u2 = .str q.2.2 := h4
  subst h3 h4
  exact ⟨h1, t, h2, trivial, .inr ot⟩
end L2.TB
/-! first_bad and the checks over a dict or a list of names, of things of any kind, both ways -/
namespace L2.TB
open PySem PySem.Spec PyProof.Rows
/-- the first place at which a thing is no name or stood before -/
def badAt (ns : List Str) : List V → List Str → Nat → Option Nat
  | [], _, _ => none
  | v :: r, seen, i => match strOf v with
    | some x => if x ∈ ns ∧ x ∉ seen then badAt ns r (seen ++ [x]) (i + 1) else some i
    | none => some i
def optV : Option Nat → V
  | none => .non
  | some i => .int (i : Nat)
/-- names in a dict or in a list -/
def NmsC (H : Hp) (c : Addr) (ns : List Str) : Prop := (∃ es, H c = some (.dK es) ∧ es.map (·.1) = ns.map Sum.inr) ∨ H c = some (.lst (ns.map V.str))
theorem NmsC.same {H H' : Hp} {c : Addr} {ns : List Str} (h : NmsC H c ns) (s : Same H H') : NmsC H' c ns := h.imp (fun ⟨es, a, b⟩ => ⟨es, s _ _ a, b⟩) (fun h => s _ _ h)
theorem fn_either {P : Program} {w : World} {K : PySem.W.Frag} {mg : Str → Option Value} {base : Heap} {CX : CXT} {k : Nat} {f : Addr} {fd : FuncData} {ps : List Str} {sp1 sp2 : Sp} (h1 : FnOk P w K mg base CX k f fd ps sp1) (h2 : FnOk P w K mg base CX k f fd ps sp2) : FnOk P w K mg base CX k f fd ps (fun vs H Q E => sp1 vs H Q E ∨ sp2 vs H Q E) :=
  ⟨fun vs H Q E h => h.elim (h1.len vs H Q E) (h2.len vs H Q E), fun A outer s H args us vs Q E hr he hb hv hs => hs.elim (fun z => h1.run A outer s H args us vs Q E hr he hb hv z) (fun z => h2.run A outer s H args us vs Q E hr he hb hv z)⟩
def spIsOneN (K : PySem.W.Frag) : Sp := fun vs H Q _ => ∃ (c : Addr) (ns : List Str) (v : V), vs = [.ref c, v] ∧ NmsC H c ns ∧ ((∃ x, v = .str x ∧ Q (.bl (decide (x ∈ ns))) H) ∨ (NoStr K H v ∧ Q (.bl false) H))
/-- what first_bad says of v -/
inductive Bad (K : PySem.W.Frag) (H : Hp) (ns : List Str) : V → Option Nat → Prop
  | no {v : V} (h : NoSeq K H v) : Bad K H ns v (some 0)
  | seq {a : Addr} {xs : List V} (h : SqA K H a xs) (at_ : ∀ x ∈ xs, strOf x = none → NoStr K H x) (short : xs.length < 1000) : Bad K H ns (.ref a) (badAt ns xs [] 0)
theorem Bad.same {K : PySem.W.Frag} {H H' : Hp} {ns : List Str} {v : V} {r : Option Nat} (h : Bad K H ns v r) (s : Same H H') : Bad K H' ns v r := by
  cases h with
  | no h => exact .no (h.same s)
  | seq h a l => exact .seq (h.same s) (fun x hx e => (a x hx e).same s) l
def spFirstG (K : PySem.W.Frag) : Sp := fun vs H Q _ => ∃ (c : Addr) (ns : List Str) (v : V) (r : Option Nat), vs = [.ref c, v] ∧ NmsC H c ns ∧ Bad K H ns v r ∧ ∀ H', Same H H' → Q (optV r) H'
/-- what is asked is no question -/
def BadAsk (K : PySem.W.Frag) (H : Hp) (ns : List Str) (v : V) : Prop := (∃ x, v = .str x ∧ x ∉ ns) ∨ NoStr K H v
theorem BadAsk.same {K : PySem.W.Frag} {H H' : Hp} {ns : List Str} {v : V} (h : BadAsk K H ns v) (s : Same H H') : BadAsk K H' ns v := h.imp id fun h => h.same s
def spCkKX (K : PySem.W.Frag) (CK : Addr) : Sp := fun vs H Q E => ∃ (c : Addr) (ns : List Str) (v : V) (r : Option Nat), vs = [.ref c, v] ∧ NmsC H c ns ∧ Bad K H ns v r ∧ (r = none → ∀ H', Same H H' → Q .non H') ∧ ∀ i : Nat, r = some i → Flies CK "index" (.int i) H E
def spCkAX (K : PySem.W.Frag) (CQ : Addr) : Sp := fun vs H Q E => ∃ (c : Addr) (ns : List Str) (v : V), vs = [.ref c, v] ∧ NmsC H c ns ∧ ((∃ x, v = .str x ∧ x ∈ ns ∧ Q .non H) ∨ (BadAsk K H ns v ∧ Flies CQ "name" v H E))
def spCkBX (K : PySem.W.Frag) (CK CQ : Addr) : Sp := fun vs H Q E => ∃ (c : Addr) (ns : List Str) (v x : V) (r : Option Nat), vs = [.ref c, v, x] ∧ NmsC H c ns ∧ Bad K H ns v r ∧
  ((∃ i : Nat, r = some i ∧ Flies CK "index" (.int i) H E) ∨ (r = none ∧ ((∃ y, x = .str y ∧ y ∈ ns ∧ ∀ H', Same H H' → Q .non H') ∨ (BadAsk K H ns x ∧ Flies CQ "name" x H E))))
section
variable {P : Program} {w : World} {K : PySem.W.Frag} {mg : Str → Option Value} {base : Heap} {f fL fO CK CQ aF aL aO aK aA aB : Addr} {fd fdL fdO fdK fdA : FuncData}
theorem ok_isOneN (F : Fun K "is_one_of" "is_one_of" sIsOne f fd) (gI : mg "isinstance" = none) (gS : mg "str" = none) : FnOk P w K mg base CX0 1 f fd ["names", "thing"] (spIsOneN K) := by
  have G1 : FnOk P w K mg base CX0 1 f fd ["names", "thing"] (fun vs H Q _ => ∃ (c : Addr) (ns : List Str) (v : V), vs = [.ref c, v] ∧ H c = some (.lst (ns.map V.str)) ∧ ((∃ x, v = .str x ∧ Q (.bl (decide (x ∈ ns))) H) ∨ (NoStr K H v ∧ Q (.bl false) H))) := by
    refine F.ok scIsOne (fun vs H Q E h => by obtain ⟨c, ns, x, e, _⟩ := h; rw [e]; rfl) fun cdv A outer s H vs Q E hr hsp => ?_
    obtain ⟨c, ns, v, rfl, hS, hq⟩ := hsp
    refine ⟨_, pss_one (ps_ret (pe_and (pe_callB (r := rIsi K) call_isi rfl gI boot_isi (pa_cons (pv 1) (pa_cons (pe_bltn (v := .ty "str") rfl gS boot_str' rfl) pa_nil)))
      (pe_one (pe_cmpR op_in_seq (pv 1) (pv 0) rfl)))), ?_⟩
    rcases hq with ⟨x, rfl, hq⟩ | ⟨⟨t, h1, h2⟩, hq⟩
    · refine ⟨_, rfl, _, _, _, _, true, rfl, .ty _, .base (.str x), kit_ty (by decide +kernel), true, rfl, _, rfl, _, rfl, c, _, rfl, .inl (SqL.of hS), rfl, flat_strs ns, ?_⟩
      rw [inV_strs]
      exact hq
    · exact ⟨_, rfl, _, _, _, _, false, rfl, .ty _, h1, kit_ty h2, false, rfl, hq⟩
  have G2 : FnOk P w K mg base CX0 1 f fd ["names", "thing"] (fun vs H Q _ => ∃ (c : Addr) (ns : List Str) (v : V), vs = [.ref c, v] ∧ (∃ es, H c = some (.dK es) ∧ es.map (·.1) = ns.map Sum.inr) ∧ ((∃ x, v = .str x ∧ Q (.bl (decide (x ∈ ns))) H) ∨ (NoStr K H v ∧ Q (.bl false) H))) := by
    refine F.ok scIsOne (fun vs H Q E h => by obtain ⟨c, ns, x, e, _⟩ := h; rw [e]; rfl) fun cdv A outer s H vs Q E hr hsp => ?_
    obtain ⟨c, ns, v, rfl, ⟨es, hS, ek⟩, hq⟩ := hsp
    have hu := hu_of hr
    refine ⟨_, pss_one (ps_ret (pe_and (pe_callB (r := rIsi K) call_isi rfl gI boot_isi (pa_cons (pv 1) (pa_cons (pe_bltn (v := .ty "str") rfl gS boot_str' rfl) pa_nil)))
      (pe_one (pe_cmp (pc_din hu (pv 1) (pv 0)))))), ?_⟩
    rcases hq with ⟨x, rfl, hq⟩ | ⟨⟨t, h1, h2⟩, hq⟩
    · refine ⟨_, rfl, _, _, _, _, true, rfl, .ty _, .base (.str x), kit_ty (by decide +kernel), true, rfl, _, rfl, _, rfl, c, _, rfl, DGet.k (k := Sum.inr x) hS, ?_⟩
      have e : (valV es (Sum.inr x)).isSome = decide (x ∈ ns) := by
        by_cases h : x ∈ ns
        · obtain ⟨v, ev⟩ := (val_inS ek x).1 h
          rw [ev, decide_eq_true h]
          rfl
        · rw [(val_inS ek x).2 h, decide_eq_false h]
          rfl
      show Q (.bl (valV es (Sum.inr x)).isSome) H
      rw [e]
      exact hq
    · exact ⟨_, rfl, _, _, _, _, false, rfl, .ty _, h1, kit_ty h2, false, rfl, hq⟩
  have G := fn_either G1 G2
  refine ⟨fun vs H Q E h => by obtain ⟨c, ns, v, e, _⟩ := h; rw [e]; rfl, fun A outer s H args us vs Q E hr he hb hv hs => ?_⟩
  obtain ⟨c, ns, v, rfl, hc, hq⟩ := hs
  rcases hc with h | h
  · exact G.run A outer s H args us _ Q E hr he hb hv (.inr ⟨c, ns, v, rfl, h, hq⟩)
  · exact G.run A outer s H args us _ Q E hr he hb hv (.inl ⟨c, ns, v, rfl, h, hq⟩)
theorem badAt_step {ns : List Str} {xs : List V} {us : List Str} {i : Nat} {v : V} (hv : xs[i]? = some v) :
    badAt ns (xs.drop i) us i = match strOf v with | some x => if x ∈ ns ∧ x ∉ us then badAt ns (xs.drop (i + 1)) (us ++ [x]) (i + 1) else some i | none => some i := by
  have e : xs.drop i = v :: xs.drop (i + 1) := by
    obtain ⟨h, e⟩ := List.getElem?_eq_some_iff.mp hv
    rw [List.drop_eq_getElem_cons h, e]
  rw [e]
  rfl
theorem ok_firstG (F : Fun K "first_bad" "first_bad" sFirst f fd) (FL : Fun K "is_list" "is_list" sIsList fL fdL) (gIL : mg "is_list" = some (.ref fL)) (FO : Fun K "is_one_of" "is_one_of" sIsOne fO fdO) (gIO : mg "is_one_of" = some (.ref fO))
    (gI : mg "isinstance" = none) (gL : mg "list" = none) (gT : mg "tuple" = none) (gS : mg "str" = none) (gE : mg "enumerate" = none) : FnOk P w K mg base CX0 2 f fd ["names", "things"] (spFirstG K) := by
  have GL : FnOk P w K mg base CX0 1 fL fdL ["thing"] (spIsListG K) := ok_isListG FL gI gL gT
  have bL := FL.binds (ps := ["thing"]) fun _ _ _ _ _ _ us hl => match us, hl with | [_], _ => rfl
  have GO : FnOk P w K mg base CX0 1 fO fdO ["names", "thing"] (spIsOneN K) := ok_isOneN FO gI gS
  have bO := FO.binds (ps := ["names", "thing"]) fun _ _ _ _ _ _ us hl => match us, hl with | [_, _], _ => rfl
  refine F.ok scFirst (fun vs H Q E h => by obtain ⟨c, ns, v, r, e, _⟩ := h; rw [e]; rfl) fun cdv A outer s H vs Q E hr hsp => ?_
  obtain ⟨c, ns, v, r, rfl, hc, hB, hq⟩ := hsp
  have nd := scFirst.nd
  have hu := hu_of hr
  refine ⟨_, pss_cons (ps_if (pt_not (pt_val (pe_call GL hr rfl gIL FL.kp bL .nil pass0 (pa_cons (pv 1) pa_nil)))) (pss_one (ps_ret pe_int)) pss_nil)
    (pss_cons (ps_set (i := 2) nd rfl (Or.inl rfl) pe_dnewK)
    (pss_cons (ps_for PassesOwn.never rfl (pi_enumS rfl gE (pa_cons (pv 1) pa_nil)) (pg_tup rfl (pgs_cons (pg_name (i := 3) nd rfl (Or.inl rfl)) (pgs_cons (pg_name (i := 4) nd rfl (Or.inl rfl)) pgs_nil)))
      (pss_cons (ps_if (PW.pt (pw_or (pt_not (pt_val (pe_call GO hr rfl gIO FO.kp bO .nil pass0 (pa_cons (pv 0) (pa_cons (pv 4) pa_nil))))) (pw_or1 (pt_cmp (pc_din hu (pv 4) (pv 2)))))) (pss_one (ps_ret (pv 3))) pss_nil)
      (pss_one (ps_dput hu (pv 2) (pv 4) pe_bl rfl))))
    (pss_one (ps_ret pe_non)))), ?_⟩
  cases hB with
  | no hN => exact ⟨_, rfl, _, rfl, .inr ⟨hN, fun H1 k1 => ⟨_, rfl, iteT (hq H1 k1)⟩⟩⟩
  | @seq a xs hS hA short =>
  refine ⟨_, rfl, _, rfl, .inl ⟨⟨a, xs, rfl, hS⟩, fun H1 k1 => ⟨_, rfl, iteF fun d nd2 => ?_⟩⟩⟩
  have kd := same_new (o := .dK []) nd2
  obtain ⟨o, ho, ko⟩ : ∃ o, H1 a = some o ∧ (o = .lst xs ∨ o = .tup xs) := by
    rcases hS.same k1 with e | e
    · exact ⟨_, e, .inl rfl⟩
    · exact ⟨_, e, .inr rfl⟩
  refine ⟨_, rfl, enum_seq ko (fun i σ H' => ∃ us : List Str, us.length = i ∧ badAt ns xs [] 0 = badAt ns (xs.drop i) us i ∧ H' d = some (.dK (seenD us)) ∧ Same H1 H' ∧ ∃ s3 s4, σ = [some (.ref c), some (.ref a), some (.ref d), s3, s4])
    ⟨[], rfl, by rw [List.drop_zero], upd_same, kd, _, _, rfl⟩ (fun i σ H' _ ⟨us, h⟩ => h.2.2.2.1 _ _ ho) ?_ ?_⟩
  · rintro i v σ H2 T ev ⟨us, lu, eb, od, s2, s3, s4, rfl⟩ nT
    have hi : i < xs.length := (List.getElem?_eq_some_iff.mp ev).1
    have kT := same_new (o := .tup [.int (i : Nat), v]) nT
    refine ⟨T, _, rfl, SqT.of upd_same, rfl, ?_⟩
    refine ⟨_, _, rfl, _, _, rfl, rfl, ?_⟩
    rw [badAt_step ev] at eb
    refine ⟨_, rfl, _, rfl, c, ns, v, rfl, hc.same ((k1.trans s2).trans kT), ?_⟩
    cases hs : strOf v with
    | none =>
      rw [hs] at eb
      refine .inr ⟨(hA v (List.mem_of_getElem? ev) hs).same ((k1.trans s2).trans kT), _, rfl, iteT ?_⟩
      have z := hq _ (k1.trans (s2.trans kT))
      rw [eb] at z
      exact iteT ⟨_, rfl, z⟩
    | some x =>
      obtain rfl := strOf_some hs
      rw [hs] at eb
      refine .inl ⟨x, rfl, _, rfl, ?_⟩
      by_cases xin : x ∈ ns
      · rw [decide_eq_true xin]
        refine iteF ⟨_, rfl, _, rfl, d, _, rfl, DGet.k (k := Sum.inr x) (kT _ _ od), ?_⟩
        by_cases xs' : x ∈ us
        · obtain ⟨v2, e2⟩ := (val_inS (es := seenD us) (S := us) (by unfold seenD; rw [List.map_map]; rfl) x).1 xs'
          rw [e2]
          dsimp only at eb
          rw [if_neg (fun z => z.2 xs')] at eb
          have z := hq _ (k1.trans (s2.trans kT))
          rw [eb] at z
          exact ⟨_, rfl, iteT ⟨_, rfl, z⟩⟩
        · rw [seen_none xs']
          refine ⟨_, rfl, iteF ?_⟩
          dsimp only at eb
          rw [if_pos ⟨xin, xs'⟩] at eb
          have small : (seenD us).length < sizeLine := by
            rw [sizeLine_eq]
            unfold seenD
            rw [List.length_map]; omega
          refine ⟨_, rfl, _, rfl, d, _, rfl, DPut.k (k := Sum.inr x) (kT _ _ od) small, us ++ [x], by rw [List.length_append, lu]; rfl, eb, ?_, ?_, _, _, rfl⟩
          · rw [upd_same, seen_put xs']
          · intro b u e
            have nb : b ≠ d := ne_of_none e nd2
            rw [upd_ne nb]
            exact kT _ _ (s2 _ _ e)
      · rw [decide_eq_false xin]
        dsimp only at eb
        rw [if_neg (fun z => xin z.1)] at eb
        have z := hq _ (k1.trans (s2.trans kT))
        rw [eb] at z
        exact iteT ⟨_, rfl, z⟩
  · rintro σ H2 ⟨us, lu, eb, od, s2, s3, s4, rfl⟩
    rw [List.drop_length] at eb
    have z := hq _ (k1.trans s2)
    rw [eb] at z
    exact z
theorem ok_ckKX (C : Chk K mg aF aL aO aK aA aB) (EK : ErrF P w K mg base "BadKnown" CK "index") (F : Fun K "check_known" "check_known" sCkK f fd) : FnOk P w K mg base (L2.CX P w) 3 f fd ["names", "known"] (spCkKX K CK) := by
  obtain ⟨fdF, FF⟩ := C.F
  obtain ⟨fdL, FL⟩ := C.L
  obtain ⟨fdO, FO⟩ := C.O
  have G : FnOk P w K mg base CX0 2 aF fdF ["names", "things"] (spFirstG K) := ok_firstG FF FL C.gL FO C.gO C.nI C.nL C.nT C.nS C.nE
  have b := FF.binds (ps := ["names", "things"]) fun _ _ _ _ _ _ us hl => match us, hl with | [_, _], _ => rfl
  refine F.okX scCkK (fun vs H Q E h => by obtain ⟨c, ns, v, r, e, _⟩ := h; rw [e]; rfl) fun cdv A outer s H vs Q E hr hsp => ?_
  obtain ⟨c, ns, v, r, rfl, hc, hB, hq, hf⟩ := hsp
  have nd := scCkK.nd
  refine ⟨_, pss_cons (ps_set (i := 2) nd rfl (Or.inl rfl) (pe_call G hr rfl C.gF FF.kp b .nil pass0 (pa_cons (pv 0) (pa_cons (pv 1) pa_nil))))
    (pss_one (ps_if (pt_cmp (pc_notN (pv 2))) (pss_one (ps_raiseE rfl (takes_of rfl rfl rfl rfl) EK hr rfl (pv 2))) pss_nil)), ?_⟩
  refine ⟨_, rfl, _, rfl, c, ns, v, r, rfl, hc, hB, fun H1 k1 => ?_⟩
  cases r with
  | none => exact ⟨_, rfl, _, rfl, iteF (hq rfl H1 k1)⟩
  | some i => exact ⟨_, rfl, _, rfl, iteT ⟨_, rfl, ((hf i rfl).same k1).up EK⟩⟩
theorem ok_ckAX (C : Chk K mg aF aL aO aK aA aB) (EQ : ErrF P w K mg base "NoQuestion" CQ "name") (F : Fun K "check_asked" "check_asked" sCkA f fd) : FnOk P w K mg base (L2.CX P w) 3 f fd ["names", "asked"] (spCkAX K CQ) := by
  obtain ⟨fdO, FO⟩ := C.O
  have G : FnOk P w K mg base CX0 1 aO fdO ["names", "thing"] (spIsOneN K) := ok_isOneN FO C.nI C.nS
  have b := FO.binds (ps := ["names", "thing"]) fun _ _ _ _ _ _ us hl => match us, hl with | [_, _], _ => rfl
  refine F.okX scCkA (fun vs H Q E h => by obtain ⟨c, ns, x, e, _⟩ := h; rw [e]; rfl) fun cdv A outer s H vs Q E hr hsp => ?_
  obtain ⟨c, ns, v, rfl, hc, hq⟩ := hsp
  refine ⟨_, pss_one (ps_if (pt_not (pt_val (pe_call G (hr.mono (by decide)) rfl C.gO FO.kp b .nil pass0 (pa_cons (pv 0) (pa_cons (pv 1) pa_nil))))) (pss_one (ps_raiseE rfl (takes_of rfl rfl rfl rfl) EQ hr rfl (pv 1))) pss_nil), ?_⟩
  refine ⟨_, rfl, _, rfl, c, ns, v, rfl, hc, ?_⟩
  rcases hq with ⟨x, rfl, xin, hq⟩ | ⟨⟨x, rfl, xin⟩ | hN, hf⟩
  · exact .inl ⟨x, rfl, _, rfl, by rw [decide_eq_true xin]; exact iteF hq⟩
  · exact .inl ⟨x, rfl, _, rfl, by rw [decide_eq_false xin]; exact iteT ⟨_, rfl, hf.up EQ⟩⟩
  · exact .inr ⟨hN, _, rfl, iteT ⟨_, rfl, hf.up EQ⟩⟩
theorem ok_ckBX (C : Chk K mg aF aL aO aK aA aB) (EK : ErrF P w K mg base "BadKnown" CK "index") (EQ : ErrF P w K mg base "NoQuestion" CQ "name") (F : Fun K "check_both" "check_both" sCkB f fd) : FnOk P w K mg base (L2.CX P w) 4 f fd ["names", "known", "asked"] (spCkBX K CK CQ) := by
  obtain ⟨fdK, FK⟩ := C.CK
  obtain ⟨fdA, FA⟩ := C.CA
  have GK : FnOk P w K mg base (L2.CX P w) 3 aK fdK ["names", "known"] (spCkKX K CK) := ok_ckKX C EK FK
  have GA : FnOk P w K mg base (L2.CX P w) 3 aA fdA ["names", "asked"] (spCkAX K CQ) := ok_ckAX C EQ FA
  have bK := FK.binds (ps := ["names", "known"]) fun _ _ _ _ _ _ us hl => match us, hl with | [_, _], _ => rfl
  have bA := FA.binds (ps := ["names", "asked"]) fun _ _ _ _ _ _ us hl => match us, hl with | [_, _], _ => rfl
  refine F.okX scCkB (fun vs H Q E h => by obtain ⟨c, ns, v, x, r, e, _⟩ := h; rw [e]; rfl) fun cdv A outer s H vs Q E hr hsp => ?_
  obtain ⟨c, ns, v, x, r, rfl, hc, hB, hq⟩ := hsp
  refine ⟨_, pss_cons (ps_expr (pe_callS GK hr rfl C.gCK FK.kp bK (fun σ => passAt (takes_of rfl rfl rfl rfl) σ) (pa_cons (pv 0) (pa_cons (pv 1) pa_nil))))
    (pss_one (ps_expr (pe_callS GA hr rfl C.gCA FA.kp bA (fun σ => passAt (takes_of rfl rfl rfl rfl) σ) (pa_cons (pv 0) (pa_cons (pv 2) pa_nil))))), ?_⟩
  refine ⟨_, rfl, _, rfl, c, ns, v, r, rfl, hc, hB, fun er H1 k1 => ?_, fun i er => ?_⟩
  · rcases hq with ⟨i, e2, _⟩ | ⟨_, hq⟩
    · rw [er] at e2; cases e2
    · refine ⟨_, rfl, _, rfl, c, ns, x, rfl, hc.same k1, ?_⟩
      rcases hq with ⟨y, rfl, yin, hq⟩ | ⟨hb, hf⟩
      · exact .inl ⟨y, rfl, yin, hq H1 k1⟩
      · exact .inr ⟨hb.same k1, hf.same k1⟩
  · rcases hq with ⟨j, e2, hf⟩ | ⟨e2, _⟩
    · rw [er] at e2; cases e2; exact hf
    · rw [er] at e2; cases e2
end
end L2.TB
/-! what the checks say stays; a net's names -/
namespace L2.TB
open PySem PySem.Spec PyProof.Rows LamX
theorem Bad.ext {K : PySem.W.Frag} {H H' : Hp} {ns : List Str} {v : V} {r : Option Nat} (h : Bad K H ns v r) (s : ExtN H H') : Bad K H' ns v r := by
  cases h with
  | no h => exact .no (let ⟨t, a, b, c⟩ := h; ⟨t, ty_ext a s, b, c⟩)
  | seq h a l => exact .seq (sq_ext h s) (fun x hx e => let ⟨t, a, b⟩ := a x hx e; ⟨t, ty_ext a s, b⟩) l
theorem BadAsk.ext {K : PySem.W.Frag} {H H' : Hp} {ns : List Str} {v : V} (h : BadAsk K H ns v) (s : ExtN H H') : BadAsk K H' ns v := h.imp id fun ⟨t, a, b⟩ => ⟨t, ty_ext a s, b⟩
theorem net_nms {A : Addr → Prop} {H : Hp} {C x : Addr} {arcs : NtT} (h : NetA A H C x arcs) : ∃ dx D N Lv, H x = some (.ins C dx (ntF D N Lv)) ∧ NmsC H D (arcs.map (·.1)) := by
  obtain ⟨dx, D, N, Lv, h1, ⟨D', es, e1, _, oD, _, pr⟩, _⟩ := h.ex
  obtain rfl := V.ref.inj e1
  exact ⟨dx, _, N, Lv, h1, .inl ⟨es, oD, dc_keys pr⟩⟩
/-! known ones -/
theorem bad_go {ns : List Str} : ∀ (us : List Str) (r : List V) (seen : List Str) (i : Nat), (∀ x ∈ us, x ∈ ns) → (seen ++ us).Nodup → badAt ns (us.map V.str ++ r) seen i = badAt ns r (seen ++ us) (i + us.length)
  | [], r, seen, i, _, _ => by rw [List.append_nil]; rfl
  | u :: us, r, seen, i, h, nd => by
    have h1 : u ∈ ns ∧ u ∉ seen := ⟨h u List.mem_cons_self, fun z => (List.nodup_append.mp nd).2.2 u z u List.mem_cons_self rfl⟩
    show (if u ∈ ns ∧ u ∉ seen then badAt ns (us.map V.str ++ r) (seen ++ [u]) (i + 1) else some i) = _
    rw [if_pos h1, bad_go us r (seen ++ [u]) (i + 1) (fun x hx => h x (List.mem_cons_of_mem _ hx)) (by rw [List.append_assoc]; exact nd), List.append_assoc, List.length_cons]
    show badAt ns r (seen ++ u :: us) (i + 1 + us.length) = badAt ns r (seen ++ u :: us) (i + (us.length + 1))
    rw [show i + 1 + us.length = i + (us.length + 1) by omega]
theorem bad_all {ns us : List Str} (h : ∀ x ∈ us, x ∈ ns) (nd : us.Nodup) : badAt ns (us.map V.str) [] 0 = none := by
  have z := bad_go us [] [] 0 h nd
  rw [List.append_nil] at z
  rw [z]
  rfl
theorem bad_at {ns us : List Str} {b : V} {r : List V} (h : ∀ x ∈ us, x ∈ ns) (nd : us.Nodup) (hb : ∀ x, strOf b = some x → ¬(x ∈ ns ∧ x ∉ us)) : badAt ns (us.map V.str ++ b :: r) [] 0 = some us.length := by
  rw [bad_go us (b :: r) [] 0 h nd, List.nil_append, Nat.zero_add]
  show (match strOf b with
    | some x => if x ∈ ns ∧ x ∉ us then badAt ns r (us ++ [x]) (us.length + 1) else some us.length
    | none => some us.length) = _
  cases e : strOf b with
  | none => rfl
  | some x => exact if_neg (hb x e)
theorem names_bad {K : PySem.W.Frag} {H : Hp} {a : Addr} {ns : List Str} (h : H a = some (.lst (ns.map V.str))) (nd : ns.Nodup) (sh : ns.length < 1000) : Bad K H ns (.ref a) none := by
  have z : Bad K H ns (.ref a) (badAt ns (ns.map V.str) [] 0) := .seq (.inl h) (fun x hx e => by
    obtain ⟨s, _, rfl⟩ := List.mem_map.mp hx
    cases e) (by rw [List.length_map]; exact sh)
  rwa [bad_all (fun _ h => h) nd] at z
end L2.TB
/-! a net: the free arcs, what is given, what is told, a plan -/
namespace L2.TB
open PySem PySem.Spec PyProof.Rows LamX
/-- some of a list of texts -/
theorem lc_selN {K : PySem.W.Frag} {q : Addr} {xs : List Str} {i : Nat} {tt : TT} {vs : List Nat} {σ : L2.St} {H1 : Hp} {Q : Addr → Hp → Prop} (f : Str → Bool) (oq : H1 q = some (.lst (xs.map V.str))) (short : xs.length < 100000) (hi : ∀ v : V, ((wipe σ vs).set i (some v))[i]? = some (some v))
    (hw : ∀ v : V, wipe ((wipe σ vs).set i (some v)) vs = wipe σ vs) (test : ∀ n H (T : Bool → Hp → Prop), n ∈ xs → Same H1 H → (∀ H', Same H H' → T (f n) H') → tt ((wipe σ vs).set i (some (.str n))) H T)
    (fin : ∀ H D, H1 D = none → H D = some (.lst ((xs.filter f).map V.str)) → Same H1 H → Q D H) : LcW (Itl K q) (gName i) tt (tVar i) vs σ H1 Q := by
  have lx : (xs.map V.str).length = xs.length := List.length_map _
  refine lc_genON (xs.map fun n => if f n = true then some (V.str n) else none) (by rw [List.length_map]; omega) (fun i H' s lt => ⟨_, _, SqL.of (s _ _ oq), List.getElem?_eq_getElem (by rw [List.length_map] at lt; rw [lx]; exact lt)⟩) (fun H' s => ⟨_, SqL.of (s _ _ oq), by rw [List.length_map, List.length_map]; exact Nat.le_refl _⟩) ?_ ?_
  · rintro j v o H2 H3 Cn Nn eo s2 ⟨rfl, ev⟩ yes no
    have ev := ev _ (SqL.of (s2 _ _ oq))
    rw [List.getElem?_map] at ev eo
    obtain ⟨n, en, rfl⟩ := Option.map_eq_some_iff.mp ev
    rw [en] at eo
    have eo := Option.some.inj eo
    refine ⟨hw _, test n H3 _ (List.mem_of_getElem? en) s2 fun H' s' => ?_⟩
    by_cases c : f n = true
    · rw [c]
      refine iteT ⟨_, hi _, yes _ ?_ H' s'⟩
      rw [← eo]
      exact if_pos c
    · have c' : f n = false := by cases h : f n <;> simp_all
      rw [c']
      refine iteF (no ?_ H' s')
      rw [← eo]
      exact if_neg c
  · intro H2 D nD oD s2
    rw [opt_listN f V.str xs] at oD
    exact fin H2 D nD oD s2
/-- known ones, as a list -/
structure KnA (K : PySem.W.Frag) (H : Hp) (kn : Addr) (arcs : NtT) (ks : List Str) : Prop where
  o : SqA K H kn (ks.map V.str)
  sub : ∀ n ∈ ks, n ∈ arcs.map (·.1)
  nd : ks.Nodup
theorem KnA.same {K : PySem.W.Frag} {H H' : Hp} {kn : Addr} {arcs : NtT} {ks : List Str} (h : KnA K H kn arcs ks) (s : Same H H') : KnA K H' kn arcs ks := ⟨h.o.same s, h.sub, h.nd⟩
theorem seqOr {K : PySem.W.Frag} {H : Hp} {a : Addr} {xs : List V} (h : SqA K H a xs) : SqL K H a xs ∨ SqT K H a xs := h.imp SqL.of SqT.of
theorem KnA.len {K : PySem.W.Frag} {H : Hp} {kn : Addr} {arcs : NtT} {ks : List Str} (h : KnA K H kn arcs ks) : ks.length ≤ arcs.length := by
  have z := nd_sub_len (l' := arcs.map (·.1)) h.nd h.sub
  rwa [List.length_map] at z
noncomputable def freeN (arcs : NtT) (ks : List Str) : List Str := (liveL arcs).filter fun n => decide (n ∉ ks)
noncomputable def othN (arcs : NtT) (ks : List Str) (a : Str) : List Str := (freeN arcs ks).filter fun n => decide (n ≠ a)
noncomputable def othE (arcs : NtT) (ks : List Str) (a : Str) : NtT := arcs.filter fun e => liveB arcs e && (decide (e.1 ∉ ks) && decide (e.1 ≠ a))
theorem oth_names (arcs : NtT) (ks : List Str) (a : Str) : (othE arcs ks a).map (·.1) = othN arcs ks a := by
  unfold othE othN freeN liveL
  rw [List.filter_map, List.filter_map, List.filter_filter, List.filter_filter]
  congr 1
  refine List.filter_congr fun e _ => ?_
  show (liveB arcs e && (decide (e.1 ∉ ks) && decide (e.1 ≠ a))) = ((decide (e.1 ≠ a) && decide (e.1 ∉ ks)) && liveB arcs e)
  cases liveB arcs e <;> cases decide (e.1 ∉ ks) <;> cases decide (e.1 ≠ a) <;> rfl
theorem oth_sub {arcs : NtT} {ks : List Str} {a : Str} : ∀ e ∈ othE arcs ks a, e ∈ arcs := fun e h => (List.mem_filter.mp h).1
theorem oth_len (arcs : NtT) (ks : List Str) (a : Str) : (othE arcs ks a).length ≤ arcs.length := List.length_filter_le _ _
noncomputable def givB (arcs : NtT) (ks : List Str) (a : Str) : Bool := decide (a ∈ ks) || decide (a ∉ liveL arcs)
def Told (arcs : NtT) (ks : List Str) (e : Str × ArT) : Prop := givB arcs ks e.1 = true ∨ ¬ Reach (eithE (othE arcs ks e.1)) e.2.2 e.2.1
theorem live_len (arcs : NtT) : (liveL arcs).length ≤ arcs.length := by
  unfold liveL
  rw [List.length_map]
  exact List.length_filter_le _ _
def spFree (K : PySem.W.Frag) (C : Addr) : Sp := fun vs H Q _ => ∃ (x kn : Addr) (arcs : NtT) (A : Addr → Prop) (ks : List Str), vs = [.ref x, .ref kn] ∧ NetA A H C x arcs ∧ arcs.length < 1000 ∧ SqA K H kn (ks.map V.str) ∧ ∀ H' q, H q = none → H' q = some (.lst ((freeN arcs ks).map V.str)) → Same H H' → Q (.ref q) H'
def spOth (K : PySem.W.Frag) (C : Addr) : Sp := fun vs H Q _ => ∃ (x kn : Addr) (arcs : NtT) (A : Addr → Prop) (ks : List Str) (a : Str), vs = [.ref x, .ref kn, .str a] ∧ NetA A H C x arcs ∧ arcs.length < 1000 ∧ SqA K H kn (ks.map V.str) ∧ ∀ H' q, H q = none → H' q = some (.lst (((othE arcs ks a).map (·.1)).map V.str)) → Same H H' → Q (.ref q) H'
def spGiv (K : PySem.W.Frag) (C : Addr) : Sp := fun vs H Q _ => ∃ (x kn : Addr) (arcs : NtT) (A : Addr → Prop) (ks : List Str) (a : Str), vs = [.ref x, .ref kn, .str a] ∧ NetA A H C x arcs ∧ SqA K H kn (ks.map V.str) ∧ Q (.bl (givB arcs ks a)) H
def spTold (K : PySem.W.Frag) (C : Addr) : Sp := fun vs H Q _ => ∃ (x kn : Addr) (arcs : NtT) (A : Addr → Prop) (ks : List Str) (e : Str × ArT), vs = [.ref x, .ref kn, .str e.1] ∧ NetA A H C x arcs ∧ NtOk arcs ∧ KnA K H kn arcs ks ∧ e ∈ arcs ∧ ∀ H' b, (b = true ↔ Told arcs ks e) → Same H H' → Q (.bl b) H'
def spPlanN (K : PySem.W.Frag) (C : Addr) : Sp := fun vs H Q _ => ∃ (x kn : Addr) (arcs : NtT) (A : Addr → Prop) (ks : List Str) (e : Str × ArT), vs = [.ref x, .ref kn, .str e.1] ∧ NetA A H C x arcs ∧ NtOk arcs ∧ KnA K H kn arcs ks ∧ e ∈ arcs ∧
  (¬ Told arcs ks e → ∀ H', Same H H' → Q .non H') ∧ (Told arcs ks e → ∀ H' q S, H q = none → H' q = some (.lst ((S : List Str).map V.str)) → S.Nodup → (∀ n ∈ S, n ∈ nodesL arcs) → (givB arcs ks e.1 = true → S = []) → (givB arcs ks e.1 = false → ∀ n, n ∈ S ↔ n ∈ nodesL arcs ∧ Reach (eithE (othE arcs ks e.1)) e.2.2 n) → Same H H' → Q (.ref q) H')
abbrev NFa : List Str := ["net", "known", "name"]
theorem scFa : FnScope NFa ["net", "known"] (defScope sFree) := ⟨rfl, rfl, rfl, by decide +kernel, rfl, by decide +kernel, by decide +kernel⟩
abbrev NOt : List Str := ["self", "known", "asked", "name"]
theorem scOt : FnScope NOt ["self", "known", "asked"] (defScope sOthers) := ⟨rfl, rfl, rfl, by decide +kernel, rfl, by decide +kernel, by decide +kernel⟩
theorem scGv : FnScope ["self", "known", "asked"] ["self", "known", "asked"] (defScope sIsGiven) := ⟨rfl, rfl, rfl, by decide +kernel, rfl, by decide +kernel, by decide +kernel⟩
theorem scTo : FnScope ["self", "known", "asked"] ["self", "known", "asked"] (defScope sIsTold) := ⟨rfl, rfl, rfl, by decide +kernel, rfl, by decide +kernel, by decide +kernel⟩
abbrev NPl : List Str := ["self", "known", "asked", "side", "node"]
/-- what the methods call -/
structure NtC (P : Program) (w : World) (K : PySem.W.Frag) (mg : Str → Option Value) (base : Heap) (C : Addr) (ca : Str → Addr) : Prop where
  S : NetC K C
  nL : mg "list" = none
  live : ∃ f fd, Meth K C "live" f ∧ Binds K fd ["self"] [] ∧ FnOk P w K mg base CX0 1 f fd ["self"] (spNLive C)
  ckB : ∃ f fd, mg "check_both" = some (.ref f) ∧ PySem.W.keepIn K (.ref f) = true ∧ Binds K fd ["names", "known", "asked"] [] ∧ FnOk P w K mg base (L2.CX P w) 4 f fd ["names", "known", "asked"] (spCkBX K (ca "BadKnown") (ca "NoQuestion"))
  jo : ∃ f fd, mg "is_joined" = some (.ref f) ∧ PySem.W.keepIn K (.ref f) = true ∧ Binds K fd ["arcs", "names", "asked"] [] ∧ FnOk P w K mg base CX0 3 f fd ["arcs", "names", "asked"] spJoin
  rc : ∃ f fd, mg "reached" = some (.ref f) ∧ PySem.W.keepIn K (.ref f) = true ∧ Binds K fd ["steps", "begin"] [] ∧ FnOk P w K mg base CX0 1 f fd ["steps", "begin"] spReachG
  ei : ∃ f fd, mg "either_way" = some (.ref f) ∧ PySem.W.keepIn K (.ref f) = true ∧ Binds K fd ["arcs", "names"] [] ∧ FnOk P w K mg base CX0 2 f fd ["arcs", "names"] spEith
section
variable {P : Program} {w : World} {K : PySem.W.Frag} {mg : Str → Option Value} {base : Heap} {f C fF fO fG fT : Addr} {fd fdF fdO fdG fdT : FuncData} {ca : Str → Addr}
theorem ok_free (F : Fun K "free_arcs" "free_arcs" sFree f fd) (L : NtC P w K mg base C ca) : FnOk P w K mg base CX0 2 f fd ["net", "known"] (spFree K C) := by
  obtain ⟨fL, fdL, mL, bL, GL⟩ := L.live
  refine F.ok scFa (fun vs H Q E h => by obtain ⟨x, kn, arcs, A, ks, e, _⟩ := h; rw [e]; rfl) fun cdv A outer s H vs Q E hr hsp => ?_
  obtain ⟨x, kn, arcs, A0, ks, rfl, hx, sh, ok, hq⟩ := hsp
  have nd := scFa.nd
  refine ⟨_, pss_one (ps_ret (pe_lc (own := [("name", 2)]) (tt := tTest (tOp (rIn K true) (tVar 2) (tVar 1))) (g := gName 2) (te := tVar 2) rfl nd (pi_list (pe_meth0 (pv 0) L.S.cl mL GL hr bL .nil pass0)) (blkOk_by (N := NFa) (sc := defScope sFree) (by decide +kernel)) (fun _ _ _ _ _ => pg_name (i := 2) nd rfl (Or.inl rfl)) (fun _ _ _ _ _ => pts_one (pt_cmpR op_notIn_seq (pv 2) (pv 1) rfl)) (fun _ _ _ _ _ => pv 2))), ?_⟩
  obtain ⟨dx, _, _, _, h1, _⟩ := id hx.ex
  have ll := live_len arcs
  refine ⟨_, rfl, x, dx, _, rfl, h1, rfl, x, arcs, A0, rfl, hx, fun H1 q nq oq k1 => ⟨q, rfl, ⟨_, SqL.of oq⟩, ?_⟩⟩
  refine lc_selN (fun n => decide (n ∉ ks)) oq (by omega) (fun _ => rfl) (fun _ => rfl) (fun n H2 T _ s2 go => ?_) fun H2 D nD oD s2 => ?_
  · refine ⟨_, rfl, _, rfl, kn, _, rfl, seqOr ((ok.same k1).same s2), rfl, flat_strs ks, _, rfl, ?_⟩
    have z := go H2 (Same.refl _)
    rw [inV_strs]
    have e : (if true = true then !decide (n ∈ ks) else decide (n ∈ ks)) = decide (n ∉ ks) := by
      rw [if_pos rfl]
      by_cases c : n ∈ ks
      · rw [decide_eq_true c, decide_eq_false (fun h => h c)]; rfl
      · rw [decide_eq_false c, decide_eq_true c]; rfl
    rw [e]
    exact z
  · refine hq H2 D ?_ oD (k1.trans s2)
    cases z : H D with
    | none => rfl
    | some o => rw [k1 _ _ z] at nD; cases nD
theorem ok_oth (F : Fun K "_others" "Net._others" sOthers f fd) (FF : Fun K "free_arcs" "free_arcs" sFree fF fdF) (gF : mg "free_arcs" = some (.ref fF)) (GF : FnOk P w K mg base CX0 2 fF fdF ["net", "known"] (spFree K C)) : FnOk P w K mg base CX0 3 f fd ["self", "known", "asked"] (spOth K C) := by
  have bF := FF.binds (ps := ["net", "known"]) fun _ _ _ _ _ _ us hl => match us, hl with | [_, _], _ => rfl
  refine F.ok scOt (fun vs H Q E h => by obtain ⟨x, kn, arcs, A, ks, a, e, _⟩ := h; rw [e]; rfl) fun cdv A outer s H vs Q E hr hsp => ?_
  obtain ⟨x, kn, arcs, A0, ks, a, rfl, hx, sh, ok, hq⟩ := hsp
  have nd := scOt.nd
  refine ⟨_, pss_one (ps_ret (pe_lc (own := [("name", 3)]) (tt := tTest (tOp rNe (tVar 3) (tVar 2))) (g := gName 3) (te := tVar 3) rfl nd (pi_list (pe_call GF hr rfl gF FF.kp bF .nil pass0 (pa_cons (pv 0) (pa_cons (pv 1) pa_nil)))) (blkOk_by (N := NOt) (sc := defScope sOthers) (by decide +kernel)) (fun _ _ _ _ _ => pg_name (i := 3) nd rfl (Or.inl rfl)) (fun _ _ _ _ _ => pts_one (pt_cmpR op_ne (pv 3) (pv 2) (nomark _))) (fun _ _ _ _ _ => pv 3))), ?_⟩
  have lf : (freeN arcs ks).length ≤ arcs.length := by
    unfold freeN
    exact Nat.le_trans (List.length_filter_le _ _) (live_len arcs)
  refine ⟨_, rfl, _, rfl, x, kn, arcs, A0, ks, rfl, hx, sh, ok, fun H1 q nq oq k1 => ⟨q, rfl, ⟨_, SqL.of oq⟩, ?_⟩⟩
  refine lc_selN (fun n => decide (n ≠ a)) oq (by omega) (fun _ => rfl) (fun _ => rfl) (fun n H2 T _ s2 go => ?_) fun H2 D nD oD s2 => ?_
  · refine ⟨_, rfl, _, rfl, rfl, _, rfl, ?_⟩
    have z := go H2 (Same.refl _)
    have e : (!decide (V.str n = V.str a)) = decide (n ≠ a) := by
      by_cases c : n = a
      · rw [decide_eq_true (by rw [c]), decide_eq_false (fun h => h c)]; rfl
      · rw [decide_eq_false (fun h => c (V.str.inj h)), decide_eq_true c]; rfl
    rw [e]
    exact z
  · refine hq H2 D ?_ ?_ (k1.trans s2)
    · cases z : H D with
      | none => rfl
      | some o => rw [k1 _ _ z] at nD; cases nD
    · rw [oth_names]
      exact oD
theorem ok_giv (F : Fun K "_is_given" "Net._is_given" sIsGiven f fd) (S : NetC K C) : FnOk P w K mg base CX0 1 f fd ["self", "known", "asked"] (spGiv K C) := by
  refine F.ok scGv (fun vs H Q E h => by obtain ⟨x, kn, arcs, A, ks, a, e, _⟩ := h; rw [e]; rfl) fun cdv A outer s H vs Q E hr hsp => ?_
  obtain ⟨x, kn, arcs, A0, ks, a, rfl, hx, ok, hq⟩ := hsp
  refine ⟨_, pss_one (ps_ret (pe_or (pe_cmpR op_in_seq (pv 2) (pv 1) rfl) (pe_one (pe_cmpR op_notIn_seq (pv 2) (pe_fld (pv 0) rfl) rfl)))), ?_⟩
  obtain ⟨dx, D, _, Lv, h1, _, _, _, _, oL⟩ := hx.ex
  refine ⟨_, rfl, _, rfl, kn, _, rfl, seqOr ok, rfl, flat_strs ks, _, rfl, ?_⟩
  rw [if_neg Bool.false_ne_true, inV_strs]
  unfold givB at hq
  by_cases c : a ∈ ks
  · rw [decide_eq_true c]
    rw [decide_eq_true c, Bool.true_or] at hq
    exact iteT hq
  · rw [decide_eq_false c]
    rw [decide_eq_false c, Bool.false_or] at hq
    refine iteF ⟨_, rfl, _, rfl, x, C, dx, _, _, rfl, h1, S.cl, S.nL, rfl, Lv, _, rfl, .inl (SqL.of oL), rfl, flat_strs _, ?_⟩
    rw [if_pos rfl, inV_strs]
    by_cases c2 : a ∈ liveL arcs
    · rw [decide_eq_false (fun h => h c2)] at hq
      rw [decide_eq_true c2]
      exact hq
    · rw [decide_eq_true c2] at hq
      rw [decide_eq_false c2]
      exact hq
end
end L2.TB
/-! a.update(b) -/
namespace L2.TB
open PySem PySem.Spec PyProof.Rows
def rDUpd : V → List V → Hp → VK → Prop := fun x vs H Q => ∃ (a b : Addr) (ka kb : List (Key × V)), x = .ref a ∧ vs = [.ref b] ∧ b ≠ a ∧ H a = some (.dK ka) ∧ H b = some (.dK kb) ∧ ka.length ≤ 1000 ∧ kb.length ≤ 1000 ∧ Q .non (upd H a (.dK (mergeK ka kb)))
theorem mt_dupd {X : Cx} : MtR X "dict.update" rDUpd := by
  intro pins s σ H x xs v us Q I rx rxs got
  obtain ⟨a, b, ka, kb, rfl, rfl, ne, oa, ob, la, lb, q⟩ := got
  obtain ⟨u, rfl, ru⟩ := (rxs.one)
  obtain rfl : v = Value.ref a := rx
  obtain rfl : u = Value.ref b := ru
  obtain ⟨_, sp, ks, ra, da⟩ := dk_of I.hok oa
  obtain ⟨_, sb, ws, rb, db⟩ := dk_of I.hok ob
  have l1 := ra.length
  have l2 := rb.length
  refine call_meetsIn PySem.F.slot_dict_update da.typeIs PySem.F.entry_dict_update (PySem.F.args_dict_update_2 _ _) (meets_dict_update (mixKind X.prog X.w) a b (Ne.symm ne) sb)
    ⟨ks, ws, da, db, (by rw [sizeLine_eq]; omega), fun h2 at2 _ but2 => ⟨.non, _, ?_, rfl, q⟩⟩
  have there : ∃ o, h2.get? a = some o := let ⟨o, _, _, e, _⟩ := at2; ⟨o, e⟩
  refine d_write I (by rw [oa]; exact True.intro) but2 there (dk_new ?_ sp (rb.merge ra) at2)
  have := length_mergeK kb ka
  rw [sizeLine_eq]
  omega
section
theorem passN {P : Program} {w : World} {X : Cx} : Passes (L2.CX P w) X E0 := fun _ _ _ _ _ _ _ h => by
  obtain ⟨_, _, _, _, _, _, _, _, _, _, _, _, z⟩ := (h)
  exact z.elim
end
end L2.TB
/-! a net: is_told, plan -/
namespace L2.TB
open PySem PySem.Spec PyProof.Rows LamX
section
variable {P : Program} {w : World} {K : PySem.W.Frag} {mg : Str → Option Value} {base : Heap} {f C fF fO fG fT : Addr} {fd fdF fdO fdG fdT : FuncData} {ca : Str → Addr}
theorem kna_bad {H : Hp} {kn : Addr} {arcs : NtT} {ks : List Str} (h : KnA K H kn arcs ks) (sh : arcs.length < 1000) : Bad K H (arcs.map (·.1)) (.ref kn) none := by
  have l := h.len
  have z : Bad K H (arcs.map (·.1)) (.ref kn) (badAt (arcs.map (·.1)) (ks.map V.str) [] 0) := .seq h.o (fun x hx e => by
    obtain ⟨s, _, rfl⟩ := List.mem_map.mp hx
    cases e) (by rw [List.length_map]; omega)
  rwa [bad_all h.sub h.nd] at z
theorem ok_told (F : Fun K "is_told" "Net.is_told" sIsTold f fd) (L : NtC P w K mg base C ca) (mG : Meth K C "_is_given" fG) (GG : FnOk P w K mg base CX0 1 fG fdG ["self", "known", "asked"] (spGiv K C)) (bG : Binds K fdG ["self", "known", "asked"] []) (mO : Meth K C "_others" fO) (GO : FnOk P w K mg base CX0 3 fO fdO ["self", "known", "asked"] (spOth K C)) (bO : Binds K fdO ["self", "known", "asked"] []) : FnOk P w K mg base CX0 5 f fd ["self", "known", "asked"] (spTold K C) := by
  obtain ⟨fB, fdB, gB, kB, bB, GB⟩ := L.ckB
  obtain ⟨fJ, fdJ, gJ, kJ, bJ, GJ⟩ := L.jo
  refine F.ok scTo (fun vs H Q E h => by obtain ⟨x, kn, arcs, A, ks, e, e', _⟩ := h; rw [e']; rfl) fun cdv A outer s H vs Q E hr hsp => ?_
  obtain ⟨x, kn, arcs, A0, ks, e, rfl, hx, nok, ka, he, hq⟩ := hsp
  refine ⟨_, pss_cons (ps_expr (pe_call GB hr rfl gB kB bB .nil passN (pa_cons (pe_fld (pv 0) rfl) (pa_cons (pv 1) (pa_cons (pv 2) pa_nil)))))
    (pss_one (ps_ret (pe_or (pe_meth (pv 0) L.S.cl mG GG (hr.mono (by decide)) bG .nil pass0 (pa_cons (pv 1) (pa_cons (pv 2) pa_nil)))
      (pe_one (pe_not (pe_call GJ (hr.mono (by decide)) rfl gJ kJ bJ .nil pass0 (pa_cons (pe_fld (pv 0) rfl) (pa_cons (pe_meth (pv 0) L.S.cl mO GO (hr.mono (by decide)) bO .nil pass0 (pa_cons (pv 1) (pa_cons (pv 2) pa_nil))) (pa_cons (pv 2) pa_nil))))))))), ?_⟩
  have sh := nok.n1
  obtain ⟨dx, D, Nd, Lv, h1, at_, _⟩ := hx.ex
  obtain ⟨D', es, e1, aD, oD, rnd, pr⟩ := id at_
  obtain rfl := V.ref.inj e1
  refine ⟨_, rfl, x, C, dx, _, _, rfl, h1, L.S.cl, L.S.nA, rfl, _, rfl, _, rfl, D, arcs.map (·.1), _, _, _, rfl, .inl ⟨es, oD, dc_keys pr⟩, kna_bad (arcs := arcs) ka (by omega), .inr ⟨rfl, .inl ⟨e.1, rfl, List.mem_map_of_mem he, fun H1 k1 => ?_⟩⟩⟩
  have hx1 := hx.same k1
  have h11 := k1 _ _ h1
  refine ⟨_, rfl, x, dx, _, rfl, h11, rfl, _, rfl, _, rfl, x, kn, arcs, A0, ks, e.1, rfl, hx1, ka.o.same k1, _, rfl, ?_⟩
  cases g : givB arcs ks e.1 with
  | true => exact iteT (hq H1 true ⟨fun _ => .inl g, fun _ => rfl⟩ k1)
  | false =>
    refine iteF ?_
    refine ⟨_, rfl, x, C, dx, _, _, rfl, h11, L.S.cl, L.S.nA, rfl, ?_⟩
    refine ⟨_, rfl, x, dx, _, rfl, h11, rfl, _, rfl, _, rfl, x, kn, arcs, A0, ks, e.1, rfl, hx1, by omega, ka.o.same k1, fun H2 q nq oq k2 => ?_⟩
    have k12 := k1.trans k2
    refine ⟨_, rfl, D, q, arcs, othE arcs ks e.1, A0, e, rfl, PyD.kp at_ (fun b o a e => ⟨a, k12 _ _ e⟩), oq, oth_sub, by have := oth_len arcs ks e.1; omega, he, fun H3 b hb k3 => ⟨_, rfl, ?_⟩⟩
    refine hq H3 (!b) ⟨fun h => .inr fun r => ?_, fun h => ?_⟩ (k12.trans k3)
    · rw [hb.mpr r] at h
      cases h
    · cases b with
      | false => rfl
      | true =>
        rcases h with h | h
        · rw [g] at h; cases h
        · exact absurd (hb.mp rfl) h
end
end L2.TB
/-! levels: rounds of relaxing, what they come to -/
namespace L2.TB
open PySem PySem.Spec PyProof.Rows
def wS (ks : List Str) (s : StpT) : Int := if s.1 ∈ ks then 1 else 0
theorem wS_nn (ks : List Str) (s : StpT) : 0 ≤ wS ks s := by unfold wS; split <;> omega
def updO {α : Type} (f : Str → Option α) (n : Str) (a : α) : Str → Option α := fun m => if m = n then some a else f m
theorem updO_same {α : Type} {f : Str → Option α} {n : Str} {a : α} : updO f n a n = some a := if_pos rfl
theorem updO_ne {α : Type} {f : Str → Option α} {n m : Str} {a : α} (h : m ≠ n) : updO f n a m = f m := if_neg h
/-- from a node along the last steps to the first node, in so many steps -/
inductive Ch (la : Str → Option StpT) (b : Str) : Nat → Str → Prop
  | base : Ch la b 0 b
  | step {k : Nat} {n : Str} {s : StpT} (e : la n = some s) (ne : n ≠ b) (h : Ch la b k s.2.2.1) : Ch la b (k + 1) n
theorem Ch.one {la : Str → Option StpT} {b : Str} {k j : Nat} {n : Str} (h : Ch la b k n) (h' : Ch la b j n) : k = j := by
  induction h generalizing j with
  | base => cases h' with
    | base => rfl
    | step _ ne _ => exact absurd rfl ne
  | step e ne _ ih => cases h' with
    | base => exact absurd rfl ne
    | step e' _ h' =>
      rw [e] at e'
      obtain rfl := Option.some.inj e'
      rw [ih h']
structure LvI (L : List StpT) (ks : List Str) (b : Str) (lv : Str → Option Int) (la : Str → Option StpT) : Prop where
  b0 : lv b = some 0
  nn : ∀ n x, lv n = some x → 0 ≤ x
  src : ∀ n x, lv n = some x → n ≠ b → ∃ s ∈ L, la n = some s ∧ s.2.2.2 = n ∧ ∃ y, lv s.2.2.1 = some y ∧ y + wS ks s ≤ x
  ch : ∀ n x, lv n = some x → ∃ k, Ch la b k n
theorem lvi_nil (L : List StpT) (ks : List Str) (b : Str) : LvI L ks b (updO (fun _ => none) b 0) fun _ => none := by
  have key : ∀ {n : Str} {x : Int}, updO (fun _ => none) b (0 : Int) n = some x → n = b ∧ x = 0 := fun {n x} h => by
    by_cases c : n = b
    · rw [c, updO_same] at h; exact ⟨c, (Option.some.inj h).symm⟩
    · rw [updO_ne c] at h; cases h
  exact ⟨updO_same, fun n x h => by rw [(key h).2]; exact Int.le_refl _, fun n x h ne => absurd (key h).1 ne, fun n x h => ⟨0, by rw [(key h).1]; exact .base⟩⟩
/-- whether a step makes its end nearer -/
def nearS (lv : Str → Option Int) (ks : List Str) (s : StpT) : Prop := ∃ x, lv s.2.2.1 = some x ∧ ∀ y, lv s.2.2.2 = some y → x + wS ks s < y
theorem LvI.relax {L : List StpT} {ks : List Str} {b : Str} {lv : Str → Option Int} {la : Str → Option StpT} (I : LvI L ks b lv la) {s : StpT} (hs : s ∈ L) {x : Int} (hx : lv s.2.2.1 = some x) (hy : ∀ y, lv s.2.2.2 = some y → x + wS ks s < y) :
    LvI L ks b (updO lv s.2.2.2 (x + wS ks s)) (updO la s.2.2.2 s) := by
  have w0 := wS_nn ks s
  have x0 := I.nn _ _ hx
  have vb : s.2.2.2 ≠ b := fun z => by
    have := hy 0 (by rw [z]; exact I.b0)
    omega
  have uv : s.2.2.1 ≠ s.2.2.2 := fun z => by
    have := hy x (by rw [← z]; exact hx)
    omega
  have keepC : ∀ {k : Nat} {n : Str}, Ch la b k n → ∀ xn, lv n = some xn → (∀ y, lv s.2.2.2 = some y → xn < y) → Ch (updO la s.2.2.2 s) b k n := fun {k n} h => by
    induction h with
    | base => exact fun _ _ _ => .base
    | step e ne h ih =>
      rename_i k n s'
      intro xn en lt
      have nv : n ≠ s.2.2.2 := fun z => by
        have := lt xn (by rw [← z]; exact en)
        omega
      obtain ⟨s2, _, e2, _, y, ey, le⟩ := I.src n xn en ne
      rw [e] at e2
      obtain rfl := Option.some.inj e2
      have w1 := wS_nn ks s'
      exact .step (by rw [updO_ne nv]; exact e) ne (ih y ey fun z ez => by have := lt z ez; omega)
  obtain ⟨ku, cu⟩ := I.ch _ _ hx
  have cu' := keepC cu x hx fun y ey => by have := hy y ey; omega
  have cv : Ch (updO la s.2.2.2 s) b (ku + 1) s.2.2.2 := .step updO_same vb cu'
  have all : ∀ {k : Nat} {n : Str}, Ch la b k n → ∃ k', Ch (updO la s.2.2.2 s) b k' n := fun {k n} h => by
    induction h with
    | base => exact ⟨0, .base⟩
    | step e ne h ih =>
      rename_i k n s'
      by_cases c : n = s.2.2.2
      · rw [c]; exact ⟨_, cv⟩
      · obtain ⟨k', h'⟩ := ih
        exact ⟨k' + 1, .step (by rw [updO_ne c]; exact e) ne h'⟩
  refine ⟨by rw [updO_ne (Ne.symm vb)]; exact I.b0, fun n z h => ?_, fun n z h ne => ?_, fun n z h => ?_⟩
  · by_cases c : n = s.2.2.2
    · rw [c, updO_same] at h
      have := Option.some.inj h
      omega
    · rw [updO_ne c] at h; exact I.nn n z h
  · by_cases c : n = s.2.2.2
    · rw [c, updO_same] at h
      rw [c]
      exact ⟨s, hs, updO_same, rfl, x, by rw [updO_ne uv]; exact hx, by rw [Option.some.inj h]; exact Int.le_refl _⟩
    · rw [updO_ne c] at h
      obtain ⟨s', h1, h2, h3, y, h4, h5⟩ := I.src n z h ne
      refine ⟨s', h1, by rw [updO_ne c]; exact h2, h3, ?_⟩
      by_cases d : s'.2.2.1 = s.2.2.2
      · rw [d] at h4 ⊢
        have := hy y h4
        exact ⟨_, updO_same, by omega⟩
      · exact ⟨y, by rw [updO_ne d]; exact h4, h5⟩
  · by_cases c : n = s.2.2.2
    · rw [c]; exact ⟨_, cv⟩
    · rw [updO_ne c] at h
      obtain ⟨k, hk⟩ := I.ch n z h
      exact all hk
def MonoL (lv lv' : Str → Option Int) : Prop := ∀ n y, lv n = some y → ∃ z, lv' n = some z ∧ z ≤ y
theorem MonoL.refl (lv : Str → Option Int) : MonoL lv lv := fun n y h => ⟨y, h, Int.le_refl _⟩
theorem MonoL.trans {a b c : Str → Option Int} (h : MonoL a b) (h' : MonoL b c) : MonoL a c := fun n y e => by
  obtain ⟨z, e1, l1⟩ := h n y e
  obtain ⟨z', e2, l2⟩ := h' n z e1
  exact ⟨z', e2, by omega⟩
theorem mono_upd {lv : Str → Option Int} {n : Str} {l : Int} (h : ∀ y, lv n = some y → l < y) : MonoL lv (updO lv n l) := fun m y e => by
  by_cases c : m = n
  · rw [c] at e ⊢
    have := h y e
    exact ⟨l, updO_same, by omega⟩
  · exact ⟨y, by rw [updO_ne c]; exact e, Int.le_refl _⟩
/-- what holds behind so many steps of a round -/
def DoneS (ks : List Str) (lv0 lv : Str → Option Int) (L : List StpT) : Prop := ∀ s ∈ L, ∀ y0, lv0 s.2.2.1 = some y0 → ∃ z, lv s.2.2.2 = some z ∧ z ≤ y0 + wS ks s
theorem DoneS.mono {ks : List Str} {lv0 lv lv' : Str → Option Int} {L : List StpT} (h : DoneS ks lv0 lv L) (m : MonoL lv lv') : DoneS ks lv0 lv' L := fun s hs y0 e => by
  obtain ⟨z, e1, l1⟩ := h s hs y0 e
  obtain ⟨z', e2, l2⟩ := m _ z e1
  exact ⟨z', e2, by omega⟩
inductive Wk (L : List StpT) (ks : List Str) (b : Str) : Nat → Str → Int → Prop
  | base : Wk L ks b 0 b 0
  | step {k : Nat} {x : Int} {s : StpT} (hs : s ∈ L) (h : Wk L ks b k s.2.2.1 x) : Wk L ks b (k + 1) s.2.2.2 (x + wS ks s)
def RndK (L : List StpT) (ks : List Str) (b : Str) (k : Nat) (lv : Str → Option Int) : Prop := ∀ j, j ≤ k → ∀ n x, Wk L ks b j n x → ∃ y, lv n = some y ∧ y ≤ x
theorem rnd_0 {L : List StpT} {ks : List Str} {b : Str} {lv : Str → Option Int} (b0 : lv b = some 0) : RndK L ks b 0 lv := fun j hj n x h => by
  cases h with
  | base => exact ⟨0, b0, Int.le_refl _⟩
  | step _ _ => omega
theorem rnd_up {L : List StpT} {ks : List Str} {b : Str} {k : Nat} {lv0 lv : Str → Option Int} (R : RndK L ks b k lv0) (b0 : lv b = some 0) (d : DoneS ks lv0 lv L) : RndK L ks b (k + 1) lv := fun j hj n x h => by
  cases h with
  | base => exact ⟨0, b0, Int.le_refl _⟩
  | step hs h =>
    obtain ⟨y, e, l⟩ := R _ (by omega) _ _ h
    obtain ⟨z, e2, l2⟩ := d _ hs y e
    exact ⟨z, e2, by omega⟩
theorem ch_wk {L : List StpT} {ks : List Str} {b : Str} {lv : Str → Option Int} {la : Str → Option StpT} (I : LvI L ks b lv la) {k : Nat} {n : Str} (h : Ch la b k n) : ∀ x, lv n = some x → ∃ x', x' ≤ x ∧ Wk L ks b k n x' := by
  induction h with
  | base => exact fun x e => ⟨0, by rw [I.b0] at e; have := Option.some.inj e; omega, .base⟩
  | step e ne h ih =>
    rename_i k n s
    intro x ex
    obtain ⟨s', hs, e', hn, y, ey, le⟩ := I.src n x ex ne
    rw [e] at e'
    obtain rfl := Option.some.inj e'
    obtain ⟨x', lx, wk⟩ := ih y ey
    have z := Wk.step hs wk
    rw [hn] at z
    exact ⟨_, by omega, z⟩
theorem ch_list {L : List StpT} {ks : List Str} {b : Str} {lv : Str → Option Int} {la : Str → Option StpT} (I : LvI L ks b lv la) {k : Nat} {n : Str} (h : Ch la b k n) : ∀ x, lv n = some x → ∃ l : List Str, l.length = k + 1 ∧ l.Nodup ∧ ∀ m ∈ l, (∃ j, j ≤ k ∧ Ch la b j m) ∧ ∃ y, lv m = some y := by
  induction h with
  | base => exact fun x ex => ⟨[b], rfl, by simp, fun m hm => by rw [List.mem_singleton.mp hm]; exact ⟨⟨0, Nat.le_refl _, .base⟩, x, ex⟩⟩
  | step e ne h ih =>
    rename_i k n s
    intro x ex
    obtain ⟨s', hs, e', hn, y, ey, le⟩ := I.src n x ex ne
    rw [e] at e'
    obtain rfl := Option.some.inj e'
    obtain ⟨l, h1, h2, h3⟩ := ih y ey
    refine ⟨n :: l, by rw [List.length_cons, h1], List.nodup_cons.mpr ⟨fun z => ?_, h2⟩, fun m hm => ?_⟩
    · obtain ⟨⟨j, hj, cj⟩, _⟩ := h3 n z
      have := cj.one (.step e ne h)
      omega
    · rcases (List.mem_cons.mp hm) with rfl | hm
      · exact ⟨⟨k + 1, Nat.le_refl _, .step e ne h⟩, x, ex⟩
      · obtain ⟨⟨j, hj, cj⟩, ym⟩ := h3 m hm
        exact ⟨⟨j, by omega, cj⟩, ym⟩
/-- what the rounds come to -/
structure LvFin (L : List StpT) (ks : List Str) (b : Str) (lv : Str → Option Int) (la : Str → Option StpT) : Prop where
  I : LvI L ks b lv la
  fix : ∀ s ∈ L, ∀ y, lv s.2.2.1 = some y → ∃ z, lv s.2.2.2 = some z ∧ z ≤ y + wS ks s
theorem lv_fin {L : List StpT} {ks ns : List Str} {b : Str} {lv : Str → Option Int} {la : Str → Option StpT} (I : LvI L ks b lv la) (R : RndK L ks b ns.length lv) (hb : b ∈ ns) (hn : ∀ s ∈ L, s.2.2.2 ∈ ns) : LvFin L ks b lv la := by
  refine ⟨I, fun s hs y ey => ?_⟩
  obtain ⟨k, ck⟩ := I.ch _ _ ey
  obtain ⟨x', lx, wk⟩ := ch_wk I ck y ey
  obtain ⟨l, h1, h2, h3⟩ := ch_list I ck y ey
  have inN : ∀ m ∈ l, m ∈ ns := fun m hm => by
    obtain ⟨_, x, ex⟩ := h3 m hm
    by_cases c : m = b
    · rw [c]; exact hb
    · obtain ⟨s', h1', _, h3', _⟩ := I.src m x ex c
      rw [← h3']; exact hn s' h1'
  have := nd_sub_len h2 inN
  obtain ⟨z, ez, lz⟩ := R (k + 1) (by omega) _ _ (.step hs wk)
  exact ⟨z, ez, by omega⟩
/-- the last step is as long as it should be -/
theorem LvFin.last {L : List StpT} {ks : List Str} {b : Str} {lv : Str → Option Int} {la : Str → Option StpT} (F : LvFin L ks b lv la) {n : Str} {x : Int} (h : lv n = some x) (ne : n ≠ b) : ∃ s ∈ L, la n = some s ∧ s.2.2.2 = n ∧ lv s.2.2.1 = some (x - wS ks s) := by
  obtain ⟨s, h1, h2, h3, y, h4, h5⟩ := F.I.src n x h ne
  obtain ⟨z, h6, h7⟩ := F.fix s h1 y h4
  rw [h3, h] at h6
  have := Option.some.inj h6
  exact ⟨s, h1, h2, h3, by rw [h4]; congr 1; omega⟩
end L2.TB
/-! levels of a net; what hides; fewer are not enough -/
namespace L2.TB
open PySem PySem.Spec PyProof.Rows
noncomputable def liveE (arcs : NtT) : NtT := arcs.filter (liveB arcs)
theorem liveE_names (arcs : NtT) : (liveE arcs).map (·.1) = liveL arcs := rfl
theorem liveE_sub {arcs : NtT} : ∀ e ∈ liveE arcs, e ∈ arcs := fun e h => (List.mem_filter.mp h).1
noncomputable def stpL (arcs : NtT) (a : Str) : List StpT := (eiS (liveE arcs)).filter fun s => decide (s.1 ≠ a)
theorem stp_in {arcs : NtT} {a : Str} {s : StpT} : s ∈ stpL arcs a ↔ ∃ d ∈ arcs, liveB arcs d = true ∧ d.1 ≠ a ∧ (s = onS d ∨ s = bkS d) := by
  unfold stpL eiS liveE
  rw [List.mem_filter, List.mem_append, List.mem_map, List.mem_map]
  constructor
  · rintro ⟨h | h, ne⟩
    · obtain ⟨d, hd, rfl⟩ := h
      obtain ⟨h1, h2⟩ := List.mem_filter.mp hd
      exact ⟨d, h1, h2, of_decide_eq_true ne, .inl rfl⟩
    · obtain ⟨d, hd, rfl⟩ := h
      obtain ⟨h1, h2⟩ := List.mem_filter.mp hd
      exact ⟨d, h1, h2, of_decide_eq_true ne, .inr rfl⟩
  · rintro ⟨d, h1, h2, ne, rfl | rfl⟩
    · exact ⟨.inl ⟨d, List.mem_filter.mpr ⟨h1, h2⟩, rfl⟩, decide_eq_true ne⟩
    · exact ⟨.inr ⟨d, List.mem_filter.mpr ⟨h1, h2⟩, rfl⟩, decide_eq_true ne⟩
theorem stp_name {arcs : NtT} {d d' : Str × ArT} (nd : (arcs.map (·.1)).Nodup) (h : d ∈ arcs) (h' : d' ∈ arcs) (e : d.1 = d'.1) : d = d' := by
  have z := lk_mem nd h
  rw [e, lk_mem nd h'] at z
  have z := Option.some.inj z
  obtain ⟨a, b⟩ := d
  obtain ⟨a', b'⟩ := d'
  have e : a = a' := e
  have z : b' = b := z
  rw [e, z]
def inW (ks : List Str) (n : Str) : Int := if n ∈ ks then 1 else 0
structure LevOk (arcs : NtT) (ks : List Str) (e : Str × ArT) (lev : Str → Int) : Prop where
  at0 : lev e.2.2 = 0
  le : ∀ d ∈ arcs, liveB arcs d = true → d.1 ≠ e.1 → lev d.2.1 - lev d.2.2 ≤ inW ks d.1 ∧ lev d.2.2 - lev d.2.1 ≤ inW ks d.1
def levO (lv : Str → Option Int) (n : Str) : Int := (lv n).getD 0
theorem lev_ok {arcs : NtT} {ks : List Str} {e : Str × ArT} {lv : Str → Option Int} {la : Str → Option StpT} (F : LvFin (stpL arcs e.1) ks e.2.2 lv la) : LevOk arcs ks e (levO lv) := by
  refine ⟨by unfold levO; rw [F.I.b0]; rfl, fun d hd lv_ ne => ?_⟩
  have h1 := fun y => F.fix (onS d) (stp_in.mpr ⟨d, hd, lv_, ne, .inl rfl⟩) y
  have h2 := fun y => F.fix (bkS d) (stp_in.mpr ⟨d, hd, lv_, ne, .inr rfl⟩) y
  have h1 : ∀ y, lv d.2.1 = some y → ∃ z, lv d.2.2 = some z ∧ z ≤ y + inW ks d.1 := h1
  have h2 : ∀ y, lv d.2.2 = some y → ∃ z, lv d.2.1 = some z ∧ z ≤ y + inW ks d.1 := h2
  have w0 : 0 ≤ inW ks d.1 := by unfold inW; split <;> omega
  unfold levO
  cases a : lv d.2.1 with
  | none =>
    cases b : lv d.2.2 with
    | none => show (0 : Int) - 0 ≤ _ ∧ (0 : Int) - 0 ≤ _; omega
    | some y =>
      obtain ⟨z, ez, _⟩ := h2 y b
      rw [a] at ez; cases ez
  | some y =>
    obtain ⟨z, ez, lz⟩ := h1 y a
    obtain ⟨z', ez', lz'⟩ := h2 z ez
    rw [a] at ez'
    have := Option.some.inj ez'
    rw [ez]
    show y - z ≤ _ ∧ z - y ≤ _
    omega
/-- the start is come to -/
theorem lev_start {arcs : NtT} {ks : List Str} {e : Str × ArT} {lv : Str → Option Int} {la : Str → Option StpT} (nd : (arcs.map (·.1)).Nodup) (he : e ∈ arcs) (live : liveB arcs e = true) (F : LvFin (stpL arcs e.1) ks e.2.2 lv la) : ∃ x, lv e.2.1 = some x := by
  have key : ∀ n, Reach (edgesOf arcs) e.2.2 n → Reach (edgesOf arcs) n e.2.1 → ∃ x, lv n = some x := fun n h => by
    induction h with
    | base => exact fun _ => ⟨0, F.I.b0⟩
    | step h m ih =>
      rename_i x y
      intro hy
      obtain ⟨d, hd, ed⟩ := List.mem_map.mp m
      have e1 : d.2.1 = x := congrArg Prod.fst ed
      have e2 : d.2.2 = y := congrArg Prod.snd ed
      by_cases c : d.1 = e.1
      · have := stp_name nd hd he c
        rw [this] at e2
        exact ⟨0, by rw [← e2]; exact F.I.b0⟩
      · obtain ⟨z, ez⟩ := ih (reach_trans (.step .base m) hy)
        have lvd : liveB arcs d = true := by
          rw [liveB_iff, e1, e2]
          exact reach_trans (.step hy (List.mem_map.mpr ⟨e, he, rfl⟩)) h
        obtain ⟨z', ez', _⟩ := F.fix (onS d) (stp_in.mpr ⟨d, hd, lvd, c, .inl rfl⟩) z (by show lv d.2.1 = _; rw [e1]; exact ez)
        exact ⟨z', by rw [← e2]; exact ez'⟩
  exact key _ (liveB_iff.mp live) .base
theorem eith_in {L : NtT} {p : ArT} : p ∈ eithE L ↔ ∃ d ∈ L, p = (d.2.1, d.2.2) ∨ p = (d.2.2, d.2.1) := by
  unfold eithE eiS
  rw [List.mem_map]
  constructor
  · rintro ⟨s, hs, rfl⟩
    rcases (List.mem_append.mp hs) with h | h
    · obtain ⟨d, hd, rfl⟩ := List.mem_map.mp h
      exact ⟨d, hd, .inl rfl⟩
    · obtain ⟨d, hd, rfl⟩ := List.mem_map.mp h
      exact ⟨d, hd, .inr rfl⟩
  · rintro ⟨d, hd, rfl | rfl⟩
    · exact ⟨onS d, List.mem_append_left _ (List.mem_map_of_mem hd), rfl⟩
    · exact ⟨bkS d, List.mem_append_right _ (List.mem_map_of_mem hd), rfl⟩
theorem reach_sub {E E' : List ArT} (s : ∀ p ∈ E, p ∈ E') {a n : Str} (h : Reach E a n) : Reach E' a n := by
  induction h with
  | base => exact .base
  | step _ m ih => exact .step ih (s _ m)
theorem oth_in {arcs : NtT} {ks : List Str} {a : Str} {d : Str × ArT} : d ∈ othE arcs ks a ↔ d ∈ arcs ∧ liveB arcs d = true ∧ d.1 ∉ ks ∧ d.1 ≠ a := by
  unfold othE
  rw [List.mem_filter, Bool.and_eq_true, Bool.and_eq_true, decide_eq_true_iff, decide_eq_true_iff]
def lessN (ks T : List Str) : List Str := ks.filter fun n => decide (n ∉ T)
theorem less_in {ks T : List Str} {n : Str} : n ∈ lessN ks T ↔ n ∈ ks ∧ n ∉ T := by
  unfold lessN
  rw [List.mem_filter, decide_eq_true_iff]
theorem live_in {arcs : NtT} {e : Str × ArT} (nd : (arcs.map (·.1)).Nodup) (he : e ∈ arcs) : e.1 ∈ liveL arcs ↔ liveB arcs e = true := by
  unfold liveL
  rw [List.mem_map]
  constructor
  · rintro ⟨d, hd, ed⟩
    obtain ⟨h1, h2⟩ := List.mem_filter.mp hd
    rw [← stp_name nd h1 he ed]; exact h2
  · exact fun h => ⟨e, List.mem_filter.mpr ⟨he, h⟩, rfl⟩
theorem open_iff {arcs : NtT} {ks : List Str} {e : Str × ArT} (nd : (arcs.map (·.1)).Nodup) (he : e ∈ arcs) : ¬ Told arcs ks e ↔ e.1 ∉ ks ∧ liveB arcs e = true ∧ Reach (eithE (othE arcs ks e.1)) e.2.2 e.2.1 := by
  unfold Told givB
  rw [not_or, Classical.not_not, Bool.or_eq_true, decide_eq_true_iff, decide_eq_true_iff, live_in nd he]
  constructor
  · rintro ⟨h1, h2⟩
    exact ⟨fun z => h1 (.inl z), Decidable.byContradiction fun z => h1 (.inr z), h2⟩
  · rintro ⟨h1, h2, h3⟩
    exact ⟨fun z => z.elim h1 fun z => z h2, h3⟩
/-- a place where the levels go over a number -/
theorem cross {lev : Str → Int} {E : List ArT} {a : Str} {i : Int} (ha : lev a ≤ i) {n : Str} (h : Reach E a n) : i < lev n → ∃ p ∈ E, lev p.1 ≤ i ∧ i < lev p.2 := by
  induction h with
  | base => intro; omega
  | step h m ih =>
    rename_i x y
    intro hy
    by_cases c : i < lev x
    · exact ih c
    · exact ⟨(x, y), m, by show lev x ≤ i; omega, hy⟩
theorem lev_list {arcs : NtT} {ks T : List Str} {e : Str × ArT} {lev : Str → Int} (nd : (arcs.map (·.1)).Nodup) (O : LevOk arcs ks e lev) (h : Reach (eithE (othE arcs (lessN ks T) e.1)) e.2.2 e.2.1) : ∀ m : Nat, (m : Int) ≤ lev e.2.1 → ∃ l : List Str, l.length = m ∧ l.Nodup ∧ ∀ t ∈ l, t ∈ T ∧ t ≠ e.1 ∧ ∃ d ∈ arcs, d.1 = t ∧ ((lev d.2.1 < lev d.2.2 ∧ lev d.2.2 ≤ m) ∨ (lev d.2.2 < lev d.2.1 ∧ lev d.2.1 ≤ m))
  | 0, _ => ⟨[], rfl, by simp, fun t h => by cases h⟩
  | m + 1, le => by
    obtain ⟨l, h1, h2, h3⟩ := lev_list nd O h m (by omega)
    obtain ⟨p, hp, l1, l2⟩ := cross (lev := lev) (i := m) (by rw [O.at0]; omega) h (by omega)
    obtain ⟨d, hd, ep⟩ := eith_in.mp hp
    obtain ⟨da, dl, dk, dn⟩ := oth_in.mp hd
    obtain ⟨o1, o2⟩ := O.le d da dl dn
    have inT : d.1 ∈ T := Decidable.byContradiction fun c => by
      have : d.1 ∉ ks := fun z => dk (less_in.mpr ⟨z, c⟩)
      unfold inW at o1 o2
      rw [if_neg this] at o1 o2
      rcases ep with rfl | rfl
      · have l1 : lev d.2.1 ≤ m := l1
        have l2 : (m : Int) < lev d.2.2 := l2
        omega
      · have l1 : lev d.2.2 ≤ m := l1
        have l2 : (m : Int) < lev d.2.1 := l2
        omega
    have w1 : inW ks d.1 ≤ 1 := by unfold inW; split <;> omega
    have top : (lev d.2.1 < lev d.2.2 ∧ lev d.2.2 = m + 1) ∨ (lev d.2.2 < lev d.2.1 ∧ lev d.2.1 = m + 1) := by
      rcases ep with rfl | rfl
      · have l1 : lev d.2.1 ≤ m := l1
        have l2 : (m : Int) < lev d.2.2 := l2
        exact .inl (by omega)
      · have l1 : lev d.2.2 ≤ m := l1
        have l2 : (m : Int) < lev d.2.1 := l2
        exact .inr (by omega)
    refine ⟨d.1 :: l, by rw [List.length_cons, h1], List.nodup_cons.mpr ⟨fun z => ?_, h2⟩, fun t ht => ?_⟩
    · obtain ⟨_, _, d', da', en, q⟩ := h3 _ z
      obtain rfl := stp_name nd da' da en
      omega
    · rcases (List.mem_cons.mp ht) with rfl | ht
      · exact ⟨inT, dn, d, da, rfl, top.imp (fun z => ⟨z.1, by omega⟩) fun z => ⟨z.1, by omega⟩⟩
      · obtain ⟨q1, q2, d', q3, q4, q5⟩ := h3 t ht
        exact ⟨q1, q2, d', q3, q4, q5.imp (fun z => ⟨z.1, by omega⟩) fun z => ⟨z.1, by omega⟩⟩
/-- fewer are not enough -/
theorem lev_low {arcs : NtT} {ks T : List Str} {e : Str × ArT} {lev : Str → Int} (nd : (arcs.map (·.1)).Nodup) (he : e ∈ arcs) (O : LevOk arcs ks e lev) (h : ¬ Told arcs (lessN ks T) e) : lev e.2.1 + inW ks e.1 ≤ T.length := by
  obtain ⟨h1, h2, h3⟩ := (open_iff nd he).mp h
  obtain ⟨m, hm⟩ : ∃ m : Nat, lev e.2.1 ≤ m ∧ ((m : Int) = lev e.2.1 ∨ m = 0) := ⟨(lev e.2.1).toNat, by omega, by omega⟩
  have le : ∃ l : List Str, l.length = m ∧ l.Nodup ∧ ∀ t ∈ l, t ∈ T ∧ t ≠ e.1 := by
    rcases hm.2 with z | z
    · obtain ⟨l, q1, q2, q3⟩ := lev_list nd O h3 m (by omega)
      exact ⟨l, q1, q2, fun t ht => ⟨(q3 t ht).1, (q3 t ht).2.1⟩⟩
    · exact ⟨[], by rw [z]; rfl, by simp, fun t h => by cases h⟩
  obtain ⟨l, q1, q2, q3⟩ := le
  unfold inW
  by_cases c : e.1 ∈ ks
  · rw [if_pos c]
    have inT : e.1 ∈ T := Decidable.byContradiction fun z => h1 (less_in.mpr ⟨c, z⟩)
    have := nd_sub_len (l := e.1 :: l) (l' := T) (List.nodup_cons.mpr ⟨fun z => (q3 _ z).2 rfl, q2⟩) fun t ht => by
      rcases (List.mem_cons.mp ht) with rfl | ht
      · exact inT
      · exact (q3 t ht).1
    rw [List.length_cons] at this
    omega
  · rw [if_neg c]
    have := nd_sub_len q2 fun t ht => (q3 t ht).1
    omega
/-- on the way from the start of asked back to its end -/
structure HidSt (arcs : NtT) (ks : List Str) (e : Str × ArT) (lv : Str → Option Int) (la : Str → Option StpT) (x0 : Int) (n : Str) (T : List Str) : Prop where
  lvl : ∃ x, lv n = some x ∧ (T.length : Int) = inW ks e.1 + (x0 - x)
  nd : T.Nodup
  sub : ∀ t ∈ T, t ∈ ks
  top : ∀ t ∈ T, t = e.1 ∨ ∀ x, lv n = some x → ∃ s ∈ stpL arcs e.1, s.1 = t ∧ x < levO lv s.2.2.2
  own : e.1 ∈ ks → e.1 ∈ T
  way : Reach (eithE (othE arcs (lessN ks T) e.1)) n e.2.1
theorem hid_start {arcs : NtT} {ks : List Str} {e : Str × ArT} {lv : Str → Option Int} {la : Str → Option StpT} {x0 : Int} (h : lv e.2.1 = some x0) : HidSt arcs ks e lv la x0 e.2.1 (if e.1 ∈ ks then [e.1] else []) := by
  by_cases c : e.1 ∈ ks
  · rw [if_pos c]
    exact ⟨⟨x0, h, by unfold inW; rw [if_pos c, List.length_singleton]; omega⟩, by simp, fun t ht => by rw [List.mem_singleton.mp ht]; exact c, fun t ht => .inl (List.mem_singleton.mp ht), fun _ => List.mem_singleton.mpr rfl, .base⟩
  · rw [if_neg c]
    exact ⟨⟨x0, h, by unfold inW; rw [if_neg c, List.length_nil]; omega⟩, by simp, fun t ht => (by cases ht), fun t ht => (by cases ht), fun z => absurd z c, .base⟩
theorem hid_step {arcs : NtT} {ks T : List Str} {e : Str × ArT} {lv : Str → Option Int} {la : Str → Option StpT} {x0 : Int} {n : Str} (nd : (arcs.map (·.1)).Nodup) (F : LvFin (stpL arcs e.1) ks e.2.2 lv la) (h : HidSt arcs ks e lv la x0 n T) {s : StpT} (ne : n ≠ e.2.2) (hs : la n = some s) :
    HidSt arcs ks e lv la x0 s.2.2.1 (if s.1 ∈ ks then T ++ [s.1] else T) := by
  obtain ⟨x, ex, lT⟩ := h.lvl
  obtain ⟨s', sL, e', sn, ey⟩ := F.last ex ne
  rw [hs] at e'
  obtain rfl := Option.some.inj e'
  obtain ⟨d, da, dl, dn, eq⟩ := stp_in.mp sL
  have d1 : s.1 = d.1 := by rcases eq with rfl | rfl <;> rfl
  have pin : ∀ T' : List Str, d.1 ∉ lessN ks T' → (s.2.2.1, s.2.2.2) ∈ eithE (othE arcs (lessN ks T') e.1) := fun T' c => by
    refine eith_in.mpr ⟨d, oth_in.mpr ⟨da, dl, c, dn⟩, ?_⟩
    rcases eq with rfl | rfl
    · exact .inl rfl
    · exact .inr rfl
  have grow : ∀ T' : List Str, (∀ t ∈ T, t ∈ T') → d.1 ∉ lessN ks T' → Reach (eithE (othE arcs (lessN ks T') e.1)) s.2.2.1 e.2.1 := fun T' sub c => by
    refine reach_trans (.step .base (pin T' c)) ?_
    rw [sn]
    refine reach_sub (fun p hp => ?_) h.way
    obtain ⟨d', hd', ep⟩ := eith_in.mp hp
    obtain ⟨q1, q2, q3, q4⟩ := oth_in.mp hd'
    exact eith_in.mpr ⟨d', oth_in.mpr ⟨q1, q2, fun z => q3 (less_in.mpr ⟨(less_in.mp z).1, fun y => (less_in.mp z).2 (sub _ y)⟩), q4⟩, ep⟩
  have w0 := wS_nn ks s
  have topT : ∀ t ∈ T, t = e.1 ∨ ∀ y, lv s.2.2.1 = some y → ∃ s' ∈ stpL arcs e.1, s'.1 = t ∧ y < levO lv s'.2.2.2 := fun t ht => (h.top t ht).imp id fun z y h1 => by
    rw [ey] at h1
    obtain ⟨s', q1, q2, q3⟩ := z x ex
    have := Option.some.inj h1
    exact ⟨s', q1, q2, by omega⟩
  by_cases c : s.1 ∈ ks
  · rw [if_pos c]
    have w1 : wS ks s = 1 := by unfold wS; rw [if_pos c]
    have lS : levO lv s.2.2.2 = x := by unfold levO; rw [sn, ex]; rfl
    have lS1 : levO lv s.2.2.1 = x - 1 := by unfold levO; rw [ey, w1]; rfl
    have out : s.1 ∉ T := fun z => by
      rcases h.top _ z with q | q
      · exact dn (by rw [← d1]; exact q)
      · obtain ⟨s', q1, q2, q3⟩ := q x ex
        obtain ⟨d', da', _, _, eq'⟩ := stp_in.mp q1
        have d1' : s'.1 = d'.1 := by rcases eq' with rfl | rfl <;> rfl
        obtain rfl := stp_name nd da' da (by rw [← d1', q2, d1])
        have two : s'.2.2.2 = s.2.2.2 ∨ s'.2.2.2 = s.2.2.1 := by
          rcases eq with rfl | rfl <;> rcases eq' with rfl | rfl
          · exact .inl rfl
          · exact .inr rfl
          · exact .inr rfl
          · exact .inl rfl
        rcases two with z | z
        · rw [z, lS] at q3; omega
        · rw [z, lS1] at q3; omega
    refine ⟨⟨_, ey, by rw [List.length_append, List.length_singleton, w1]; omega⟩, List.nodup_append.mpr ⟨h.nd, by simp, fun a ha b hb z => out (by rw [← List.mem_singleton.mp hb, ← z]; exact ha)⟩, fun t ht => ?_, fun t ht => ?_, fun z => List.mem_append_left _ (h.own z), grow _ (fun t ht => List.mem_append_left _ ht) fun z => (less_in.mp z).2 (by rw [← d1]; exact List.mem_append_right _ (List.mem_singleton.mpr rfl))⟩
    · rcases (List.mem_append.mp ht) with ht | ht
      · exact h.sub t ht
      · rw [List.mem_singleton.mp ht]; exact c
    · rcases (List.mem_append.mp ht) with ht | ht
      · exact topT t ht
      · refine .inr fun y h1 => ?_
        rw [ey] at h1
        have := Option.some.inj h1
        exact ⟨s, sL, (List.mem_singleton.mp ht).symm, by rw [lS]; omega⟩
  · rw [if_neg c]
    have w1 : wS ks s = 0 := by unfold wS; rw [if_neg c]
    exact ⟨⟨_, ey, by rw [w1]; omega⟩, h.nd, h.sub, topT, h.own, grow T (fun t ht => ht) fun z => c (by rw [d1]; exact (less_in.mp z).1)⟩
/-- where the end is come to -/
theorem hid_end {arcs : NtT} {ks T : List Str} {e : Str × ArT} {lv : Str → Option Int} {la : Str → Option StpT} {x0 : Int} (nd : (arcs.map (·.1)).Nodup) (he : e ∈ arcs) (live : liveB arcs e = true) (F : LvFin (stpL arcs e.1) ks e.2.2 lv la) (h : HidSt arcs ks e lv la x0 e.2.2 T) :
    (T.length : Int) = x0 + inW ks e.1 ∧ ¬ Told arcs (lessN ks T) e := by
  obtain ⟨x, ex, lT⟩ := h.lvl
  rw [F.I.b0] at ex
  have := Option.some.inj ex
  exact ⟨by omega, (open_iff nd he).mpr ⟨fun z => (less_in.mp z).2 (h.own (less_in.mp z).1), live, h.way⟩⟩
end L2.TB
/-! _levelled -/
namespace L2.TB
open PySem PySem.Spec PyProof.Rows LamX
/-- some of a list of things -/
theorem lc_selA {α : Type} {K : PySem.W.Frag} {q : Addr} {g : α → V} {xs : List α} {i : Nat} {tt : TT} {vs : List Nat} {σ : L2.St} {H1 : Hp} {Q : Addr → Hp → Prop} (f : α → Bool) (oq : H1 q = some (.lst (xs.map g))) (short : xs.length < 100000) (hi : ∀ v : V, ((wipe σ vs).set i (some v))[i]? = some (some v))
    (hw : ∀ v : V, wipe ((wipe σ vs).set i (some v)) vs = wipe σ vs) (test : ∀ n H (T : Bool → Hp → Prop), n ∈ xs → Same H1 H → (∀ H', Same H H' → T (f n) H') → tt ((wipe σ vs).set i (some (g n))) H T)
    (fin : ∀ H D, H1 D = none → H D = some (.lst ((xs.filter f).map g)) → Same H1 H → Q D H) : LcW (Itl K q) (gName i) tt (tVar i) vs σ H1 Q := by
  have lx : (xs.map g).length = xs.length := List.length_map _
  refine lc_genON (xs.map fun n => if f n = true then some (g n) else none) (by rw [List.length_map]; omega) (fun i H' s lt => ⟨_, _, SqL.of (s _ _ oq), List.getElem?_eq_getElem (by rw [List.length_map] at lt; rw [lx]; exact lt)⟩) (fun H' s => ⟨_, SqL.of (s _ _ oq), by rw [List.length_map, List.length_map]; exact Nat.le_refl _⟩) ?_ ?_
  · rintro j v o H2 H3 Cn Nn eo s2 ⟨rfl, ev⟩ yes no
    have ev := ev _ (SqL.of (s2 _ _ oq))
    rw [List.getElem?_map] at ev eo
    obtain ⟨n, en, rfl⟩ := Option.map_eq_some_iff.mp ev
    rw [en] at eo
    have eo := Option.some.inj eo
    refine ⟨hw _, test n H3 _ (List.mem_of_getElem? en) s2 fun H' s' => ?_⟩
    by_cases c : f n = true
    · rw [c]
      exact iteT ⟨_, hi _, yes _ (by rw [← eo]; exact if_pos c) H' s'⟩
    · have c' : f n = false := by cases h : f n <;> simp_all
      rw [c']
      exact iteF (no (by rw [← eo]; exact if_neg c) H' s')
  · intro H2 D nD oD s2
    rw [opt_listN f g xs] at oD
    exact fin H2 D nD oD s2
theorem paired_zip {α β : Type} {R : α → β → Prop} {as : List α} {bs : List β} (h : Paired R as bs) : ∃ zs : List (α × β), zs.map (·.1) = as ∧ zs.map (·.2) = bs ∧ ∀ z ∈ zs, R z.1 z.2 := by
  induction h with
  | nil => exact ⟨[], rfl, rfl, fun z h => by cases h⟩
  | cons h _ ih =>
    obtain ⟨zs, h1, h2, h3⟩ := ih
    exact ⟨(_, _) :: zs, by rw [List.map_cons, h1], by rw [List.map_cons, h2], fun z hz => by
      rcases (List.mem_cons.mp hz) with rfl | hz
      · exact h
      · exact h3 z hz⟩
/-- a dict's keys are some names -/
structure KyS (kvs : List (Key × V)) (N : List Str) : Prop where
  k : kvs.map (·.1) = N.map Sum.inr
  nd : N.Nodup
theorem KyS.put {kvs : List (Key × V)} {N : List Str} (h : KyS kvs N) (n : Str) (v : V) : KyS (putK kvs (Sum.inr n) v) (addN N n) := by
  refine ⟨?_, addN_nd h.nd⟩
  unfold addN
  by_cases c : n ∈ N
  · rw [if_pos c, put_has (by rw [h.k]; exact List.mem_map_of_mem c), List.map_map, ← h.k]
    refine (List.map_congr_left fun x _ => ?_)
    show (if x.1 = Sum.inr n then (x.1, v) else x).1 = x.1
    split <;> rfl
  · rw [if_neg c, put_last (fun z => c (by
      rw [h.k] at z
      obtain ⟨y, hy, e0⟩ := List.mem_map.mp z
      rw [← Sum.inr.inj e0]
      exact hy)), List.map_append, List.map_append, h.k]
    rfl
theorem KyS.len {kvs : List (Key × V)} {N ns : List Str} (h : KyS kvs N) (s : ∀ n ∈ N, n ∈ ns) : kvs.length ≤ ns.length := by
  have z := congrArg List.length h.k
  rw [List.length_map, List.length_map] at z
  have := nd_sub_len h.nd s
  omega
/-- the two dicts of levels and last steps -/
structure LvH (H1 : Hp) (D1 D2 : Addr) (ns : List Str) (Hc : Hp) (lv : Str → Option Int) (la : Str → Option StpT) : Prop where
  d1 : ∃ kvs N, Hc D1 = some (.dK kvs) ∧ KyS kvs N ∧ (∀ n ∈ N, n ∈ ns) ∧ ∀ n, valV kvs (Sum.inr n) = (lv n).map V.int
  d2 : ∃ es N, Hc D2 = some (.dK es) ∧ KyS es N ∧ (∀ n ∈ N, n ∈ ns) ∧ ∀ n s, la n = some s → ∃ t, valV es (Sum.inr n) = some (.ref t) ∧ StepA H1 t s
  kp : ∀ b o, b ≠ D1 → b ≠ D2 → H1 b = some o → Hc b = some o
theorem addN_sub {N ns : List Str} {n : Str} (h : ∀ m ∈ N, m ∈ ns) (hn : n ∈ ns) : ∀ m ∈ addN N n, m ∈ ns := fun m hm => by
  rcases addN_in.mp hm with z | z
  · exact h m z
  · rw [z]; exact hn
/-- one step of a round -/
noncomputable def stF (ks : List Str) (p : (Str → Option Int) × (Str → Option StpT)) (s : StpT) : (Str → Option Int) × (Str → Option StpT) := by
  classical
  exact if nearS p.1 ks s then (updO p.1 s.2.2.2 ((p.1 s.2.2.1).getD 0 + wS ks s), updO p.2 s.2.2.2 s) else p
theorem stF_no {ks : List Str} {lv : Str → Option Int} {la : Str → Option StpT} {s : StpT} (h : ¬ nearS lv ks s) : stF ks (lv, la) s = (lv, la) := if_neg h
theorem stF_yes {ks : List Str} {lv : Str → Option Int} {la : Str → Option StpT} {s : StpT} {x : Int} (hx : lv s.2.2.1 = some x) (h : ∀ y, lv s.2.2.2 = some y → x + wS ks s < y) : stF ks (lv, la) s = (updO lv s.2.2.2 (x + wS ks s), updO la s.2.2.2 s) := by
  unfold stF
  rw [if_pos (show nearS (lv, la).1 ks s from ⟨x, hx, h⟩)]
  show (updO lv _ ((lv s.2.2.1).getD 0 + _), _) = _
  rw [hx]
  rfl
noncomputable def rndF (L : List StpT) (ks : List Str) (b : Str) : Nat → (Str → Option Int) × (Str → Option StpT)
  | 0 => (updO (fun _ => none) b 0, fun _ => none)
  | i + 1 => L.foldl (stF ks) (rndF L ks b i)
noncomputable def levF (arcs : NtT) (ks : List Str) (e : Str × ArT) : (Str → Option Int) × (Str → Option StpT) := rndF (stpL arcs e.1) ks e.2.2 (nodesL arcs).length
def spLevd (K : PySem.W.Frag) (C : Addr) : Sp := fun vs H Q _ => ∃ (x kn : Addr) (arcs : NtT) (A : Addr → Prop) (ks : List Str) (e : Str × ArT), vs = [.ref x, .ref kn, .str e.1] ∧ NetA A H C x arcs ∧ NtOk arcs ∧ KnA K H kn arcs ks ∧ e ∈ arcs ∧
  ∀ H' t D1 D2 lv la, (lv, la) = levF arcs ks e → H' t = some (.tup [.ref D1, .ref D2]) → LvH H' D1 D2 (nodesL arcs) H' lv la → LvFin (stpL arcs e.1) ks e.2.2 lv la → Same H H' → Q (.ref t) H'
abbrev NLv : List Str := ["net", "known", "asked", "arcs", "step", "steps", "levels", "last", "_", "name", "start", "end", "level"]
theorem scLv : FnScope NLv ["net", "known", "asked"] (defScope sLevelled) := ⟨rfl, rfl, rfl, by decide +kernel, rfl, by decide +kernel, by decide +kernel⟩
theorem nodesL_end {arcs : NtT} {d : Str × ArT} (h : d ∈ arcs) : d.2.1 ∈ nodesL arcs ∧ d.2.2 ∈ nodesL arcs := ⟨(nodesF_in arcs [] _).mpr (.inr ⟨d, h, .inl rfl⟩), (nodesF_in arcs [] _).mpr (.inr ⟨d, h, .inr rfl⟩)⟩
theorem nodesL_len {arcs : NtT} (h : NtOk arcs) : (nodesL arcs).length ≤ 600 := by
  have := nodesF_len arcs []
  have := h.n1
  unfold nodesL
  simp only [List.length_nil] at *
  omega
section
variable {P : Program} {w : World} {K : PySem.W.Frag} {mg : Str → Option Value} {base : Heap} {f C fA fL fN : Addr} {fd fdA fdL fdN : FuncData} {ca : Str → Addr}
theorem ok_levd (F : Fun K "_levelled" "_levelled" sLevelled f fd) (L : NtC P w K mg base C ca) (mA : Meth K C "arcs" fA) (GA : FnOk P w K mg base CX0 1 fA fdA ["self"] (spNArcs C)) (bA : Binds K fdA ["self"] []) (mN : Meth K C "nodes" fN) (GN : FnOk P w K mg base CX0 1 fN fdN ["self"] (spNNodes C)) (bN : Binds K fdN ["self"] []) : FnOk P w K mg base CX0 3 f fd ["net", "known", "asked"] (spLevd K C) := by
  obtain ⟨fL, fdL, mL, bL, GL⟩ := L.live
  obtain ⟨fE, fdE, gE, kE, bE, GE⟩ := L.ei
  refine F.ok scLv (fun vs H Q E h => by obtain ⟨x, kn, arcs, A, ks, e0, e, _⟩ := h; rw [e]; rfl) fun cdv A outer s H vs Q E hr hsp => ?_
  obtain ⟨x, kn, arcs, A0, ks, e, rfl, hx, nok, ka, he, hq⟩ := hsp
  have nd := scLv.nd
  have hr1 := hr.mono (show 1 ≤ 2 by decide)
  have hu := hu_of hr1
  refine ⟨_, pss_cons (ps_set (i := 3) nd rfl (Or.inl rfl) (pe_meth0 (pv 0) L.S.cl mA GA hr1 bA .nil pass0))
    (pss_cons (ps_setLc (i := 5) (own := [("step", 4)]) (tt := tTest (tOp rNe (tOp (rIx K) (tVar 4) (tC (.int 0))) (tVar 2))) (g := gName 4) (te := tVar 4) rfl nd rfl rfl (sw_true rfl rfl rfl rfl) (pi_list (pe_call GE hr rfl gE kE bE .nil pass0 (pa_cons (pv 3) (pa_cons (pe_meth0 (pv 0) L.S.cl mL GL hr1 bL .nil pass0) pa_nil)))) (blkOk_by (N := NLv) (sc := defScope sLevelled) (by decide +kernel)) (fun _ _ _ _ _ => pg_name (i := 4) nd rfl (Or.inl rfl)) (fun _ _ _ _ _ => pts_one (pt_cmpR op_ne (pe_ix (r := rIx K) ix_seq (pv 4) pe_int (fun _ _ => rfl)) (pv 2) (nomark _))) (fun _ _ _ _ _ => pv 4))
    (pss_cons (ps_par (i := 6) (j := 7) rfl nd rfl rfl (by decide) rfl rfl (pa_cons (pe_disp (pps_cons (pe_ix (r := rIx K) ix_seq (pe_dget hu (pv 3) (pv 2) (fun _ _ => rfl)) pe_int (fun _ _ => rfl)) pe_int pps_nil) rfl rfl (by decide) (by decide)) (pa_cons pe_dnewK pa_nil)) (by rfl))
    (pss_cons (ps_for PassesOwn.never rfl (pi_list (pe_meth0 (pv 0) L.S.cl mN GN hr1 bN .nil pass0)) (pg_name (i := 8) nd rfl (Or.inl rfl))
      (pss_one (ps_for PassesOwn.never rfl (pi_list (pv 5)) (pg_name (i := 4) nd rfl (Or.inl rfl))
        (pss_cons (ps_asg (pv 4) (pg_tup (n := 4) rfl (pgs_cons (pg_name (i := 9) nd rfl (Or.inl rfl)) (pgs_cons (pg_name (i := 8) nd rfl (Or.inl rfl)) (pgs_cons (pg_name (i := 10) nd rfl (Or.inl rfl)) (pgs_cons (pg_name (i := 11) nd rfl (Or.inl rfl)) pgs_nil))))))
        (pss_one (ps_if (pt_cmp (pc_din hu (pv 10) (pv 6)))
          (pss_cons (ps_set (i := 12) nd rfl (Or.inl rfl) (pe_op op_add (pe_dget hu (pv 6) (pv 10) (fun _ _ => rfl)) (pe_via (pe_ifExp (pt_cmpR op_in_seq (pv 9) (pv 1) rfl) pe_int pe_int))))
          (pss_one (ps_if (PW.pt (pw_or (pt_cmp (pc_dnotin hu (pv 11) (pv 6))) (pw_or1 (pt_cmpR op_lt (pv 12) (pe_dget hu (pv 6) (pv 11) (fun _ _ => rfl)) (nomark _)))))
            (pss_cons (ps_dput hu (pv 6) (pv 11) (pv 12) rfl)
            (pss_one (ps_dput hu (pv 7) (pv 11) (pv 4) rfl))) pss_nil))) pss_nil))))))
    (pss_one (ps_ret (pe_tup (pa_cons (pv 6) (pa_cons (pv 7) pa_nil)))))))), ?_⟩
  have sh := nok.n1
  obtain ⟨dx, D0, Nd, Lv, h1, _⟩ := id hx.ex
  have e2n : e.2.2 ∈ nodesL arcs := (nodesL_end he).2
  have lN := nodesL_len nok
  refine ⟨_, rfl, x, dx, _, rfl, h1, rfl, x, arcs, A0, rfl, hx, by omega, fun HA D nD at1 k1 => ?_⟩
  have lL : (liveE arcs).length ≤ arcs.length := List.length_filter_le _ _
  refine ⟨_, rfl, _, rfl, x, dx, _, rfl, k1 _ _ h1, rfl, x, arcs, A0, rfl, hx.same k1, fun HL ql nql oql k2 => ?_⟩
  refine ⟨D, ql, arcs, liveE arcs, _, rfl, PyD.kp at1 (fun b o a z => ⟨a, k2 _ _ z⟩), oql, liveE_sub, by omega, fun HE q ts nq oq pts k3 => ⟨q, rfl, ⟨_, SqL.of oq⟩, ?_⟩⟩
  obtain ⟨zs, z1, z2, z3⟩ := paired_zip pts
  have oq : HE q = some (.lst (zs.map fun z => V.ref z.1)) := by
    rw [← z1, List.map_map] at oq
    exact oq
  have lz : zs.length = 2 * (liveE arcs).length := by
    have y := congrArg List.length z2
    unfold eiS at y
    rw [List.length_map, List.length_append, List.length_map, List.length_map] at y
    omega
  have k13 := (k1.trans k2).trans k3
  refine lc_selA (g := fun z : Addr × StpT => V.ref z.1) (fun z => decide (z.2.1 ≠ e.1)) oq (by omega) (fun _ => rfl) (fun _ => rfl) (fun z H2 T hz s2 go => ?_) fun H2 st nst ost s2 => ?_
  · refine ⟨_, rfl, .inr (.inl ⟨z.1, _, _, _, rfl, rfl, SqT.of (s2 _ _ (z3 z hz)), rfl, _, rfl, rfl, _, rfl, ?_⟩)⟩
    have y := go H2 (Same.refl _)
    have e' : (!decide (V.str z.2.1 = V.str e.1)) = decide (z.2.1 ≠ e.1) := by
      by_cases c : z.2.1 = e.1
      · rw [decide_eq_true (by rw [c]), decide_eq_false (fun h => h c)]; rfl
      · rw [decide_eq_false (fun h => c (V.str.inj h)), decide_eq_true c]; rfl
    rw [e']
    exact y
  have k04 := k13.trans s2
  obtain ⟨es0, t0, oD, ev0, _, ot⟩ := arc_at (PyD.kp at1 fun b o a z => ⟨a, (((k2.trans k3).trans s2)) _ _ z⟩) he
  refine fun FD nFD => ?_
  have kF := same_new (o := .dK []) nFD
  refine ⟨_, rfl, _, rfl, D, _, rfl, .inl ⟨es0, Sum.inr e.1, .inl (kF _ _ oD), rfl, ev0.symm⟩, .inr (.inl ⟨t0, _, _, _, rfl, rfl, SqT.of (kF _ _ ot), rfl, ?_⟩)⟩
  refine ⟨upd_same, [(Sum.inr e.2.2, .int 0)], rfl, (by show 1 ≤ 15; decide), ?_⟩
  have k5 : Same H2 (upd (upd H2 FD (.dK [])) FD (.dK (mergeK [] [((Sum.inr e.2.2 : Key), V.int 0)]))) := same_upd2 nFD
  have o1 : upd (upd H2 FD (.dK [])) FD (.dK (mergeK [] [((Sum.inr e.2.2 : Key), V.int 0)])) FD = some (.dK [(Sum.inr e.2.2, .int 0)]) := upd_same
  generalize upd (upd H2 FD (.dK [])) FD (.dK (mergeK [] [((Sum.inr e.2.2 : Key), V.int 0)])) = H3 at k5 o1
  intro GD nGD
  have k6 := same_new (o := .dK []) nGD
  have o2 : upd H3 GD (.dK []) GD = some (.dK []) := upd_same
  have o1 := k6 _ _ o1
  have nFG : FD ≠ GD := fun z => by rw [z, o2] at o1; cases o1
  generalize upd H3 GD (.dK []) = H4 at k6 o1 o2
  have k06 := (k04.trans k5).trans k6
  refine ⟨_, _, rfl, ?_⟩
  refine ⟨_, rfl, x, dx, _, rfl, k06 _ _ h1, rfl, x, arcs, A0, rfl, hx.same k06, fun H5 nq nnq onq k7 => ⟨nq, rfl, ⟨_, SqL.of onq⟩, ?_⟩⟩
  have k07 := k06.trans k7
  have o1 := k7 _ _ o1
  have o2 := k7 _ _ o2
  have ost5 := k7 _ _ (k6 _ _ (k5 _ _ ost))
  have ka5 := ka.same k07
  obtain ⟨zf, ezf⟩ : ∃ zf, zf = zs.filter fun z => decide (z.2.1 ≠ e.1) := ⟨_, rfl⟩
  rw [← ezf] at ost5
  have zL : zf.map (·.2) = stpL arcs e.1 := by
    unfold stpL
    rw [ezf, ← z2, List.filter_map]
    rfl
  have z5 : ∀ z ∈ zf, StepA H5 z.1 z.2 := fun z hz => k7 _ _ (k6 _ _ (k5 _ _ (s2 _ _ (z3 z (by rw [ezf] at hz; exact (List.mem_filter.mp hz).1)))))
  have fH : H FD = none ∧ H GD = none := ⟨k04.free nFD, ((k04.trans k5)).free nGD⟩
  have no1 : ∀ {b : Addr} {u : HO}, H5 b = some u → (∀ kv, u ≠ .dK kv) → b ≠ FD ∧ b ≠ GD := fun {b u} h no => ⟨fun z => by rw [z, o1] at h; exact no _ (Option.some.inj h).symm, fun z => by rw [z, o2] at h; exact no _ (Option.some.inj h).symm⟩
  refine for_list (xs := (nodesL arcs).map V.str) (fun i σ H' => ∃ lv la s4 s8 s9 s10 s11 s12, σ = [some (.ref x), some (.ref kn), some (.str e.1), some (.ref D), s4, some (.ref st), some (.ref FD), some (.ref GD), s8, s9, s10, s11, s12] ∧ LvH H5 FD GD (nodesL arcs) H' lv la ∧ LvI (stpL arcs e.1) ks e.2.2 lv la ∧ RndK (stpL arcs e.1) ks e.2.2 i lv ∧ (lv, la) = rndF (stpL arcs e.1) ks e.2.2 i)
    ⟨updO (fun _ => none) e.2.2 0, fun _ => none, _, _, _, _, _, _, rfl, ⟨⟨_, [e.2.2], o1, ⟨rfl, by simp⟩, fun n hn => by rw [List.mem_singleton.mp hn]; exact e2n, fun n => ?_⟩, ⟨_, [], o2, ⟨rfl, by simp⟩, fun n hn => by (cases hn), fun n s h => by cases h⟩, fun b o _ _ h => h⟩, lvi_nil _ _ _, rnd_0 updO_same, rfl⟩ (fun i σ H' _ ⟨lv, la, _, _, _, _, _, _, _, h, _⟩ => SqL.of (h.kp _ _ (no1 onq fun _ z => by cases z).1 (no1 onq fun _ z => by cases z).2 onq)) ?_ ?_
  · show valV (putK [] (Sum.inr e.2.2) (V.int 0)) (Sum.inr n) = _
    rw [valV_put]
    by_cases c : n = e.2.2
    · rw [c, updO_same, if_pos rfl]
      rfl
    · rw [updO_ne c, if_neg (fun z => c (Sum.inr.inj z))]
      rfl
  · rintro i y σ H6 ey ⟨lv, la, s4, s8, s9, s10, s11, s12, rfl, LH, I, R, ef⟩
    have oSt : ∀ {Hc lv la}, LvH H5 FD GD (nodesL arcs) Hc lv la → Hc st = some (.lst (zf.map fun z => V.ref z.1)) := fun h => h.kp _ _ (no1 ost5 fun _ z => by cases z).1 (no1 ost5 fun _ z => by cases z).2 ost5
    have sq := ka5.o.seq
    have kn5 : ∃ u, H5 kn = some u ∧ ∀ kv, u ≠ .dK kv := by
      rcases ka5.o with h | h
      · exact ⟨_, h, fun _ z => by cases z⟩
      · exact ⟨_, h, fun _ z => by cases z⟩
    obtain ⟨un, okn, nkn⟩ := kn5
    refine ⟨_, rfl, st, rfl, ⟨_, SqL.of (oSt LH)⟩, for_list (xs := zf.map fun z => V.ref z.1) (fun j σ H' => ∃ lv' la' s4 s8 s9 s10 s11 s12, σ = [some (.ref x), some (.ref kn), some (.str e.1), some (.ref D), s4, some (.ref st), some (.ref FD), some (.ref GD), s8, s9, s10, s11, s12] ∧ LvH H5 FD GD (nodesL arcs) H' lv' la' ∧ LvI (stpL arcs e.1) ks e.2.2 lv' la' ∧ MonoL lv lv' ∧ DoneS ks lv lv' ((stpL arcs e.1).take j) ∧ (lv', la') = ((stpL arcs e.1).take j).foldl (stF ks) (lv, la))
      ⟨lv, la, _, _, _, _, _, _, rfl, LH, I, MonoL.refl _, (fun s hs => by rw [List.take_zero] at hs; cases hs), rfl⟩ (fun j σ H' _ ⟨lv', la', _, _, _, _, _, _, _, h, _⟩ => SqL.of (oSt h)) ?_ ?_⟩
    · rintro j y σ H7 ey ⟨lv', la', s4, s8, s9, s10, s11, s12, rfl, LH, I, M, Dn, ej⟩
      rw [List.getElem?_map] at ey
      obtain ⟨z, ez, rfl⟩ := Option.map_eq_some_iff.mp ey
      have zin := List.mem_of_getElem? ez
      have st5 := z5 z zin
      have eL : (stpL arcs e.1)[j]? = some z.2 := by rw [← zL, List.getElem?_map, ez]; rfl
      have sL := List.mem_of_getElem? eL
      have tk : (stpL arcs e.1).take (j + 1) = (stpL arcs e.1).take j ++ [z.2] := by rw [List.take_succ, eL]; rfl
      have nz := no1 st5 fun _ y => by cases y
      have st7 := LH.kp _ _ nz.1 nz.2 st5
      have nk := no1 okn nkn
      have ka7 : SqA K H7 kn (ks.map V.str) := ka5.o.kp fun o h => LH.kp _ _ nk.1 nk.2 h
      have vin : z.2.2.2.2 ∈ nodesL arcs := by
        obtain ⟨d, da, _, _, eq⟩ := stp_in.mp sL
        rcases eq with eq | eq
        · rw [eq]; exact (nodesL_end da).2
        · rw [eq]; exact (nodesL_end da).1
      obtain ⟨kvs, N1, p1, p2, p3, p4⟩ := LH.d1
      obtain ⟨es, N2, q1, q2, q3, q4⟩ := LH.d2
      have lk := p2.len p3
      have le2 := q2.len q3
      refine ⟨_, rfl, z.1, _, rfl, SqT.of st7, rfl, _, _, rfl, _, _, rfl, _, _, rfl, _, _, rfl, rfl, ?_⟩
      refine ⟨_, rfl, _, rfl, FD, _, rfl, DGet.k (k := Sum.inr z.2.2.2.1) p1, ?_⟩
      rw [p4]
      have tkF : ((stpL arcs e.1).take (j + 1)).foldl (stF ks) (lv, la) = stF ks (lv', la') z.2 := by
        rw [tk, List.foldl_append, ← ej]
        rfl
      have stay : (∀ y0, lv z.2.2.2.1 = some y0 → ∃ y, lv' z.2.2.2.2 = some y ∧ y ≤ y0 + wS ks z.2) → DoneS ks lv lv' ((stpL arcs e.1).take (j + 1)) := fun h s hs => by
        rw [tk] at hs
        rcases (List.mem_append.mp hs) with h1 | h1
        · exact Dn s h1
        · rw [List.mem_singleton.mp h1]; exact h
      cases ex : lv' z.2.2.2.1 with
      | none =>
        refine ⟨_, rfl, iteF ⟨lv', la', _, _, _, _, _, _, rfl, LH, I, M, stay fun y0 h => ?_, ?_⟩⟩
        · obtain ⟨y, h1, _⟩ := M _ _ h
          rw [ex] at h1; cases h1
        · rw [tkF, stF_no]
          rintro ⟨y, h1, _⟩
          rw [ex] at h1; cases h1
      | some x1 =>
        have dx1 : DGet H7 FD (.str z.2.2.2.1) (some (.int x1)) := by
          have := DGet.k (k := Sum.inr z.2.2.2.1) p1
          rw [p4, ex] at this
          exact this
        refine ⟨_, rfl, iteT ?_⟩
        refine ⟨_, rfl, _, rfl, FD, _, rfl, dx1, ?_⟩
        refine ⟨fun v H' => v = .int (wS ks z.2) ∧ H' = H7, ?_, ?_⟩
        · refine ⟨_, rfl, _, rfl, kn, _, rfl, seqOr ka7, rfl, flat_strs ks, _, rfl, ?_⟩
          rw [inV_strs]
          unfold wS
          by_cases c : z.2.1 ∈ ks
          · rw [decide_eq_true c, if_pos c]
            exact iteT ⟨rfl, rfl⟩
          · rw [decide_eq_false c, if_neg c]
            exact iteF ⟨rfl, rfl⟩
        rintro v8 H8 ⟨e8, e9⟩
        rw [e8, e9]
        refine ⟨_, _, rfl, rfl, ?_⟩
        have M0 : ∀ y0, lv z.2.2.2.1 = some y0 → x1 ≤ y0 := fun y0 h => by
          obtain ⟨y, h1, h2⟩ := M _ _ h
          rw [ex] at h1
          have := Option.some.inj h1
          omega
        have put : (∀ y, lv' z.2.2.2.2 = some y → x1 + wS ks z.2 < y) → tSeq (sDPut (tVar 6) (tVar 11) (tVar 12)) (sDPut (tVar 7) (tVar 11) (tVar 4)) { nx := fun σ H' => ∃ lv' la' s4 s8 s9 s10 s11 s12, σ = [some (.ref x), some (.ref kn), some (.str e.1), some (.ref D), s4, some (.ref st), some (.ref FD), some (.ref GD), s8, s9, s10, s11, s12] ∧ LvH H5 FD GD (nodesL arcs) H' lv' la' ∧ LvI (stpL arcs e.1) ks e.2.2 lv' la' ∧ MonoL lv lv' ∧ DoneS ks lv lv' ((stpL arcs e.1).take (j + 1)) ∧ (lv', la') = ((stpL arcs e.1).take (j + 1)).foldl (stF ks) (lv, la), rt := fun v H' => Q v H' }
            [some (.ref x), some (.ref kn), some (.str e.1), some (.ref D), some (.ref z.1), some (.ref st), some (.ref FD), some (.ref GD), some (.int z.2.2.1), some (.str z.2.1), some (.str z.2.2.2.1), some (.str z.2.2.2.2), some (.int (x1 + wS ks z.2))] H7 := fun near => by
          have nn12 : FD ≠ GD := nFG
          refine ⟨_, rfl, _, rfl, _, rfl, FD, _, rfl, DPut.k (k := Sum.inr z.2.2.2.2) p1 (by rw [sizeLine_eq]; omega), ?_⟩
          refine ⟨_, rfl, _, rfl, _, rfl, GD, _, rfl, DPut.k (k := Sum.inr z.2.2.2.2) (by rw [upd_ne (Ne.symm nFG)]; exact q1) (by rw [sizeLine_eq]; omega), ?_⟩
          refine ⟨updO lv' z.2.2.2.2 (x1 + wS ks z.2), updO la' z.2.2.2.2 z.2, _, _, _, _, _, _, rfl, ⟨⟨_, _, by rw [upd_ne nFG, upd_same], p2.put _ _, addN_sub p3 vin, fun n => ?_⟩, ⟨_, _, upd_same, q2.put _ _, addN_sub q3 vin, fun n s h => ?_⟩, fun b o n1 n2 h => by rw [upd_ne n2, upd_ne n1]; exact LH.kp b o n1 n2 h⟩, I.relax sL ex near, M.trans (mono_upd near), fun s hs => ?_, by rw [tkF, stF_yes ex near]⟩
          · rw [valV_put]
            by_cases c : n = z.2.2.2.2
            · rw [c, updO_same, if_pos rfl]
              rfl
            · rw [updO_ne c, if_neg (fun y => c (Sum.inr.inj y))]
              exact p4 n
          · rw [valV_put]
            by_cases c : n = z.2.2.2.2
            · rw [c, updO_same] at h
              rw [c, if_pos rfl, ← Option.some.inj h]
              exact ⟨z.1, rfl, st5⟩
            · rw [updO_ne c] at h
              rw [if_neg (fun y => c (Sum.inr.inj y))]
              exact q4 n s h
          · rw [tk] at hs
            rcases (List.mem_append.mp hs) with h1 | h1
            · exact Dn.mono (mono_upd near) s h1
            · rw [List.mem_singleton.mp h1]
              intro y0 h
              have := M0 y0 h
              exact ⟨_, updO_same, by omega⟩
        refine ⟨_, rfl, _, rfl, FD, _, rfl, DGet.k (k := Sum.inr z.2.2.2.2) p1, ?_⟩
        rw [p4]
        cases ey : lv' z.2.2.2.2 with
        | none =>
          refine ⟨_, rfl, iteT (iteT ?_)⟩
          exact put fun y h => by rw [ey] at h; cases h
        | some y1 =>
          refine ⟨_, rfl, iteF ?_⟩
          have dy1 : DGet H7 FD (.str z.2.2.2.2) (some (.int y1)) := by
            have := DGet.k (k := Sum.inr z.2.2.2.2) p1
            rw [p4, ey] at this
            exact this
          refine ⟨_, rfl, _, rfl, _, rfl, FD, _, rfl, dy1, _, _, rfl, rfl, _, rfl, ?_⟩
          by_cases c : x1 + wS ks z.2 < y1
          · rw [decide_eq_true c]
            exact iteT (put fun y h => by rw [ey] at h; rw [← Option.some.inj h]; exact c)
          · rw [decide_eq_false c]
            refine iteF ⟨lv', la', _, _, _, _, _, _, rfl, LH, I, M, stay fun y0 h => ⟨y1, ey, ?_⟩, ?_⟩
            · have := M0 y0 h
              omega
            · rw [tkF, stF_no]
              rintro ⟨y, h1, h2⟩
              rw [ex] at h1
              have := h2 y1 ey
              have := Option.some.inj h1
              omega
    · rintro σ H7 ⟨lv', la', s4, s8, s9, s10, s11, s12, rfl, LH, I, M, Dn, ej⟩
      have lzf : zf.length = (stpL arcs e.1).length := by rw [← zL, List.length_map]
      have lzf' : (zf.map fun z => V.ref z.1).length = (stpL arcs e.1).length := by rw [List.length_map]; exact lzf
      rw [List.length_map, lzf, List.take_length] at Dn
      exact ⟨lv', la', _, _, _, _, _, _, rfl, LH, I, rnd_up R I.b0 Dn, by rw [ej, lzf', List.take_length, ef]; rfl⟩
  · rintro σ H6 ⟨lv, la, s4, s8, s9, s10, s11, s12, rfl, LH, I, R, ef⟩
    rw [List.length_map] at R ef
    have fin := lv_fin I R e2n fun s hs => by
      obtain ⟨d, da, _, _, eq⟩ := stp_in.mp hs
      rcases eq with rfl | rfl
      · exact (nodesL_end da).2
      · exact (nodesL_end da).1
    refine ⟨_, rfl, _, rfl, (by show 2 ≤ sizeLine; decide), fun t nt => ?_⟩
    have kt := same_new (o := .tup [.ref FD, .ref GD]) nt
    obtain ⟨kvs, N1, p1, p2, p3, p4⟩ := LH.d1
    obtain ⟨es, N2, q1, q2, q3, q4⟩ := LH.d2
    refine hq _ t FD GD lv la ef upd_same ⟨⟨kvs, N1, kt _ _ p1, p2, p3, p4⟩, ⟨es, N2, kt _ _ q1, q2, q3, fun n s h => ?_⟩, fun b o _ _ h => h⟩ fin fun b o h => kt _ _ (LH.kp b o (ne_of_none h fH.1) (ne_of_none h fH.2) (k07 _ _ h))
    obtain ⟨t', h1, h2⟩ := q4 n s h
    have := no1 h2 fun _ z => by cases z
    exact ⟨t', h1, kt _ _ (LH.kp _ _ this.1 this.2 h2)⟩
end
end L2.TB
/-! hiding -/
namespace L2.TB
open PySem PySem.Spec PyProof.Rows LamX
/-- what is taken along the way -/
def tkF (la : Str → Option StpT) (ks : List Str) (b : Str) : Nat → Str → List Str → List Str
  | 0, _, T => T
  | k + 1, n, T => match la n with
    | none => T
    | some s => tkF la ks b k s.2.2.1 (if s.1 ∈ ks then T ++ [s.1] else T)
structure HidOk (arcs : NtT) (ks : List Str) (e : Str × ArT) (T : List Str) (lev : Str → Int) : Prop where
  nd : T.Nodup
  sub : ∀ t ∈ T, t ∈ ks
  lv : LevOk arcs ks e lev
  len : (T.length : Int) = lev e.2.1 + inW ks e.1
  op : ¬ Told arcs (lessN ks T) e
  det : lev = levO (levF arcs ks e).1 ∧ ∃ k, Ch (levF arcs ks e).2 e.2.2 k e.2.1 ∧ T = tkF (levF arcs ks e).2 ks e.2.2 k e.2.1 (if e.1 ∈ ks then [e.1] else [])
theorem HidOk.one {arcs : NtT} {ks T T' : List Str} {e : Str × ArT} {lev lev' : Str → Int} (h : HidOk arcs ks e T lev) (h' : HidOk arcs ks e T' lev') : T = T' ∧ lev = lev' := by
  obtain ⟨e1, k, c, t⟩ := h.det
  obtain ⟨e2, k', c', t'⟩ := h'.det
  obtain rfl := c.one c'
  exact ⟨by rw [t, t'], by rw [e1, e2]⟩
def levD (lev : Str → Int) (ns : List Str) : List (Key × V) := ns.map fun n => (Sum.inr n, .int (lev n))
def spHid (K : PySem.W.Frag) (C : Addr) : Sp := fun vs H Q _ => ∃ (x kn : Addr) (arcs : NtT) (A : Addr → Prop) (ks : List Str) (e : Str × ArT), vs = [.ref x, .ref kn, .str e.1] ∧ NetA A H C x arcs ∧ NtOk arcs ∧ KnA K H kn arcs ks ∧ e ∈ arcs ∧
  (liveB arcs e = false → ∀ H', Same H H' → Q .non H') ∧
  (¬ Told arcs ks e → ∀ H' t a b, H t = none → H a = none → H b = none → H' t = some (.tup [.ref a, .ref b]) → H' a = some (.lst []) → H' b = some (.dK []) → Same H H' → Q (.ref t) H') ∧
  (liveB arcs e = true → Told arcs ks e → ∀ H' t a b T lev, H t = none → H a = none → H b = none → H' t = some (.tup [.ref a, .ref b]) → H' a = some (.lst (T.map V.str)) → H' b = some (.dK (levD lev (nodesL arcs))) → HidOk arcs ks e T lev → Same H H' → Q (.ref t) H')
abbrev NHi : List Str := ["net", "known", "asked", "start", "end", "levels", "last", "taken", "node", "step", "one"]
theorem scHi : FnScope NHi ["net", "known", "asked"] (defScope sHiding) := ⟨rfl, rfl, rfl, by decide +kernel, rfl, by decide +kernel, by decide +kernel⟩
section
variable {P : Program} {w : World} {K : PySem.W.Frag} {mg : Str → Option Value} {base : Heap} {f C fA fL fN fQ fT fV : Addr} {fd fdA fdL fdN fdQ fdT fdV : FuncData} {ca : Str → Addr}
theorem ok_hid (F : Fun K "hiding" "hiding" sHiding f fd) (L : NtC P w K mg base C ca) (mA : Meth K C "arcs" fA) (GA : FnOk P w K mg base CX0 1 fA fdA ["self"] (spNArcs C)) (bA : Binds K fdA ["self"] []) (mN : Meth K C "nodes" fN) (GN : FnOk P w K mg base CX0 1 fN fdN ["self"] (spNNodes C)) (bN : Binds K fdN ["self"] [])
    (mQ : Meth K C "questions" fQ) (GQ : FnOk P w K mg base CX0 1 fQ fdQ ["self"] (spNQs C)) (bQ : Binds K fdQ ["self"] []) (mT : Meth K C "is_told" fT) (GT : FnOk P w K mg base CX0 5 fT fdT ["self", "known", "asked"] (spTold K C)) (bT : Binds K fdT ["self", "known", "asked"] [])
    (FV : Fun K "_levelled" "_levelled" sLevelled fV fdV) (gV : mg "_levelled" = some (.ref fV)) (GV : FnOk P w K mg base CX0 3 fV fdV ["net", "known", "asked"] (spLevd K C)) : FnOk P w K mg base CX0 6 f fd ["net", "known", "asked"] (spHid K C) := by
  obtain ⟨fL, fdL, mL, bL, GL⟩ := L.live
  obtain ⟨fB, fdB, gB, kB, bB, GB⟩ := L.ckB
  have bV := FV.binds (ps := ["net", "known", "asked"]) fun _ _ _ _ _ _ us hl => match us, hl with | [_, _, _], _ => rfl
  refine F.ok scHi (fun vs H Q E h => by obtain ⟨x, kn, arcs, A, ks, e0, e, _⟩ := h; rw [e]; rfl) fun cdv A outer s H vs Q E hr hsp => ?_
  obtain ⟨x, kn, arcs, A0, ks, e, rfl, hx, nok, ka, he, hdead, hopen, hhid⟩ := hsp
  have nd := scHi.nd
  have hr1 := hr.mono (show 1 ≤ 5 by decide)
  have hu := hu_of hr1
  refine ⟨_, pss_cons (ps_expr (pe_call GB (hr.mono (by decide)) rfl gB kB bB .nil passN (pa_cons (pe_meth0 (pv 0) L.S.cl mQ GQ hr1 bQ .nil pass0) (pa_cons (pv 1) (pa_cons (pv 2) pa_nil)))))
    (pss_cons (ps_if (pt_cmpR op_notIn_seq (pv 2) (pe_meth0 (pv 0) L.S.cl mL GL hr1 bL .nil pass0) rfl) (pss_one (ps_ret pe_non)) pss_nil)
    (pss_cons (ps_if (pt_not (pt_val (pe_meth (pv 0) L.S.cl mT GT hr bT .nil pass0 (pa_cons (pv 1) (pa_cons (pv 2) pa_nil))))) (pss_one (ps_ret (pe_tup (pa_cons (pe_lst pa_nil) (pa_cons pe_dnewK pa_nil))))) pss_nil)
    (pss_cons (ps_asg (pe_dget hu (pe_meth0 (pv 0) L.S.cl mA GA hr1 bA .nil pass0) (pv 2) (fun _ _ => rfl)) (pg_tup (n := 2) rfl (pgs_cons (pg_name (i := 3) nd rfl (Or.inl rfl)) (pgs_cons (pg_name (i := 4) nd rfl (Or.inl rfl)) pgs_nil))))
    (pss_cons (ps_asg (pe_call GV (hr.mono (by decide)) rfl gV FV.kp bV .nil pass0 (pa_cons (pv 0) (pa_cons (pv 1) (pa_cons (pv 2) pa_nil)))) (pg_tup (n := 2) rfl (pgs_cons (pg_name (i := 5) nd rfl (Or.inr rfl)) (pgs_cons (pg_name (i := 6) nd rfl (Or.inl rfl)) pgs_nil))))
    (pss_cons (ps_set (i := 7) nd rfl (Or.inl rfl) (pe_via (pe_ifExp (pt_cmpR op_in_seq (pv 2) (pv 1) rfl) (pe_lst (pa_cons (pv 2) pa_nil)) (pe_lst pa_nil))))
    (pss_cons (ps_set (i := 8) nd rfl (Or.inl rfl) (pv 3))
    (pss_cons (ps_while PassesOwn.never (pt_cmpR op_ne (pv 8) (pv 4) (nomark _))
      (pss_cons (ps_set (i := 9) nd rfl (Or.inl rfl) (pe_dget hu (pv 6) (pv 8) (fun _ _ => rfl)))
      (pss_cons (ps_if (pt_cmpR op_in_seq (pe_ix (r := rIx K) ix_seq (pv 9) pe_int (fun _ _ => rfl)) (pv 1) rfl) (pss_one (ps_expr (pe_bm PySem.F.plainAttrs_list PySem.F.slot_list_append PySem.F.type_list_append mt_append (pv 7) (pa_cons (pe_ix (r := rIx K) ix_seq (pv 9) pe_int (fun _ _ => rfl)) pa_nil)))) pss_nil)
      (pss_one (ps_set (i := 8) nd rfl (Or.inl rfl) (pe_ix (r := rIx K) ix_seq (pv 9) pe_int (fun _ _ => rfl)))))))
    (pss_one (ps_ret (pe_tup (pa_cons (pv 7) (pa_cons (pe_dc (own := [("one", 10)]) (tt := tYes) (g := gName 10) (tk := tVar 10) (tv := tDGet2 (tVar 5) (tVar 10) (tC (.int 0))) rfl nd (pi_list (pe_meth0 (pv 0) L.S.cl mN GN hr1 bN .nil pass0)) (blkOk_by (N := NHi) (sc := defScope sHiding) (by decide +kernel)) (fun _ _ _ _ _ => pg_name (i := 10) nd rfl (Or.inl rfl)) (fun _ _ _ _ _ => pts_nil) (fun _ _ _ _ _ => pv 10)
      (fun _ _ _ _ _ => pe_dget2 hu (pv 5) (pv 10) pe_int ⟨rfl, rfl, rfl, rfl⟩)) pa_nil)))))))))))), ?_⟩
  have sh := nok.n1
  have lks := ka.len
  obtain ⟨dx, D0, Nd, Lv, h1, _⟩ := id hx.ex
  refine ⟨_, rfl, x, dx, _, rfl, h1, rfl, x, arcs, A0, rfl, hx, fun H1 q nq oq k1 => ?_⟩
  refine ⟨_, rfl, _, rfl, q, arcs.map (·.1), _, _, none, rfl, .inr oq, kna_bad (ka.same k1) (by omega), .inr ⟨rfl, .inl ⟨e.1, rfl, List.mem_map_of_mem he, fun H2 k2 => ?_⟩⟩⟩
  have k02 := k1.trans k2
  refine ⟨_, rfl, _, rfl, x, dx, _, rfl, k02 _ _ h1, rfl, x, arcs, A0, rfl, hx.same k02, fun H3 ql nql oql k3 => ⟨ql, _, rfl, .inl (SqL.of oql), rfl, flat_strs _, _, rfl, ?_⟩⟩
  have k03 := k02.trans k3
  rw [inV_strs]
  have lin : e.1 ∈ liveL arcs ↔ liveB arcs e = true := live_in nok.nd he
  cases hl : liveB arcs e with
  | false =>
    rw [decide_eq_false (fun z => by rw [lin.mp z] at hl; cases hl)]
    exact iteT (hdead hl H3 k03)
  | true =>
  rw [decide_eq_true (lin.mpr hl)]
  refine iteF ?_
  refine ⟨_, rfl, x, dx, _, rfl, k03 _ _ h1, rfl, _, rfl, _, rfl, x, kn, arcs, A0, ks, e, rfl, hx.same k03, nok, ka.same k03, he, fun H4 b hb k4 => ⟨b, rfl, ?_⟩⟩
  have k04 := k03.trans k4
  cases b with
  | false =>
    refine iteT ⟨Nat.zero_le _, fun a na => fun D nD => ⟨(by show 2 ≤ sizeLine; decide), fun t nt => ?_⟩⟩
    have j1 := same_new (o := .lst []) na
    have j2 := same_new (o := .dK []) nD
    have j3 := same_new (o := .tup [.ref a, .ref D]) nt
    exact hopen (fun z => by cases hb.mpr z) _ t a D (((k04.trans j1).trans j2).free nt) (k04.free na) ((k04.trans j1).free nD) upd_same (j3 _ _ (j2 _ _ upd_same)) (j3 _ _ upd_same) (((k04.trans j1).trans j2).trans j3)
  | true =>
  have told := hb.mp rfl
  refine iteF ?_
  refine ⟨_, rfl, x, dx, _, rfl, k04 _ _ h1, rfl, x, arcs, A0, rfl, hx.same k04, by omega, fun H5 D nD at5 k5 => ?_⟩
  have k05 := k04.trans k5
  obtain ⟨es0, t0, oD, ev0, _, ot0⟩ := arc_at at5 he
  refine ⟨_, rfl, D, _, rfl, .inl ⟨es0, Sum.inr e.1, .inl oD, rfl, ev0.symm⟩, t0, _, rfl, SqT.of ot0, rfl, _, _, rfl, _, _, rfl, rfl, ?_⟩
  refine ⟨_, rfl, _, rfl, _, rfl, x, kn, arcs, A0, ks, e, rfl, hx.same k05, nok, ka.same k05, he, fun H6 t D1 D2 lv la ef ot LH F6 k6 => ⟨t, _, rfl, SqT.of ot, rfl, _, _, rfl, _, _, rfl, rfl, ?_⟩⟩
  have k06 := k05.trans k6
  obtain ⟨T0, eT0⟩ : ∃ T0, T0 = if e.1 ∈ ks then [e.1] else [] := ⟨_, rfl⟩
  refine ⟨fun v H' => ∃ a, v = .ref a ∧ H6 a = none ∧ H' a = some (.lst (T0.map V.str)) ∧ Same H6 H', ?_, ?_⟩
  · refine ⟨_, rfl, _, rfl, kn, _, rfl, seqOr (ka.same k06).o, rfl, flat_strs ks, _, rfl, ?_⟩
    rw [inV_strs]
    by_cases c : e.1 ∈ ks
    · rw [decide_eq_true c]
      rw [if_pos c] at eT0
      refine iteT ⟨_, rfl, (by show 1 ≤ sizeLine; decide), fun a na => ⟨a, rfl, na, ?_, same_new na⟩⟩
      rw [upd_same, eT0]
      rfl
    · rw [decide_eq_false c]
      rw [if_neg c] at eT0
      refine iteF ⟨Nat.zero_le _, fun a na => ⟨a, rfl, na, ?_, same_new na⟩⟩
      rw [upd_same, eT0]
      rfl
  rintro v7 H7 ⟨a, e7, na, oa, k7⟩
  rw [e7]
  have k07 := k06.trans k7
  have na0 := k06.free na
  obtain ⟨x0, ex0⟩ := lev_start nok.nd he hl F6
  obtain ⟨k0, c0⟩ := F6.I.ch _ _ ex0
  have st0 : HidSt arcs ks e lv la x0 e.2.1 T0 := by rw [eT0]; exact hid_start ex0
  refine ⟨_, rfl, ?_⟩
  have noa : ∀ {b : Addr} {u : HO}, H6 b = some u → b ≠ a := fun {b u} h z => by rw [z, na] at h; cases h
  obtain ⟨kvs, N1, p1, p2, p3, p4⟩ := LH.d1
  obtain ⟨es, N2, q1, q2, q3, q4⟩ := LH.d2
  refine ⟨fun m σ Hc => ∃ (n : Str) (T : List Str) (s9 : Option V), σ = [some (.ref x), some (.ref kn), some (.str e.1), some (.str e.2.1), some (.str e.2.2), some (.ref D1), some (.ref D2), some (.ref a), some (.str n), s9, none] ∧ Ch la e.2.2 m n ∧ HidSt arcs ks e lv la x0 n T ∧ tkF la ks e.2.2 k0 e.2.1 T0 = tkF la ks e.2.2 m n T ∧ Hc a = some (.lst (T.map V.str)) ∧ ∀ b o, b ≠ a → H6 b = some o → Hc b = some o,
    ⟨k0, e.2.1, T0, _, rfl, c0, st0, rfl, oa, fun b o _ h => k7 _ _ h⟩, ?_⟩
  rintro m σ H8 ⟨n, T, s9, rfl, cm, st, tk, o8, kp⟩
  have k08 : Same H H8 := fun b o h => kp _ _ (ne_of_none h na0) (k06 _ _ h)
  refine ⟨_, rfl, _, rfl, rfl, _, rfl, ?_⟩
  have en : (!decide (V.str n = V.str e.2.2)) = decide (n ≠ e.2.2) := by
    by_cases c : n = e.2.2
    · rw [decide_eq_true (by rw [c]), decide_eq_false (fun h => h c)]; rfl
    · rw [decide_eq_false (fun h => c (V.str.inj h)), decide_eq_true c]; rfl
  rw [en]
  cases cm with
  | base =>
    rw [decide_eq_false (fun h => h rfl)]
    refine iteF ?_
    have tkT : tkF la ks e.2.2 k0 e.2.1 T0 = T := tk
    obtain ⟨len, op⟩ := hid_end nok.nd he hl F6 st
    have lvx : levO lv e.2.1 = x0 := by unfold levO; rw [ex0]; rfl
    have ef1 : (levF arcs ks e).1 = lv := (congrArg Prod.fst ef).symm
    have ef2 : (levF arcs ks e).2 = la := (congrArg Prod.snd ef).symm
    have fin : HidOk arcs ks e T (levO lv) := ⟨st.nd, st.sub, lev_ok F6, by rw [lvx]; exact len, op, by rw [ef1], by rw [ef2]; exact ⟨k0, c0, by rw [← eT0, tkT]⟩⟩
    have oD8 := kp _ _ (noa p1) p1
    refine ⟨_, rfl, _, rfl, x, dx, _, rfl, k08 _ _ h1, rfl, x, arcs, A0, rfl, hx.same k08, fun H9 qn nqn oqn k9 => ⟨qn, rfl, ⟨_, SqL.of oqn⟩, ?_⟩⟩
    have k09 := k08.trans k9
    have lN := nodesL_len nok
    have lqn : ((nodesL arcs).map V.str).length = (nodesL arcs).length := List.length_map _
    have lki : ((nodesL arcs).map (Sum.inr : Str → Key)).length = (nodesL arcs).length := List.length_map _
    refine dc_madeN ((nodesL arcs).map Sum.inr) (by omega) (nd_inr (nodesF_nd arcs [] (by simp))) (fun i H' k lt => ⟨_, _, SqL.of (k _ _ oqn), List.getElem?_eq_getElem (by omega)⟩) (fun H' k => ⟨_, SqL.of (k _ _ oqn), by omega⟩)
      (fun i y _ => ∃ n, (nodesL arcs)[i]? = some n ∧ y = .int (levO lv n)) (fun i y H1 H2 D l h _ _ => h) ?_ ?_
    · rintro i v k G1 G2 Cn Nn ek s1 ⟨rfl, ev⟩ yes
      have ev := ev _ (SqL.of (s1 _ _ oqn))
      rw [List.getElem?_map] at ev ek
      obtain ⟨n, en1, rfl⟩ := Option.map_eq_some_iff.mp ev
      rw [en1] at ek
      obtain rfl := Option.some.inj ek
      have oG := s1 _ _ (k9 _ _ oD8)
      refine ⟨rfl, _, rfl, _, rfl, D1, rfl, .inl ⟨kvs, .inl oG⟩, _, rfl, _, DGet.k (k := Sum.inr n) oG, ?_⟩
      rw [p4]
      have eg : (Option.map V.int (lv n)).getD (.int 0) = .int (levO lv n) := by
        unfold levO
        cases lv n <;> rfl
      rw [eg]
      exact yes _ _ ⟨n, en1, rfl⟩ (Same.refl _)
    · intro G1 B kv nB oB ek hR s1
      have k010 := k09.trans s1
      have eB : kv = levD (levO lv) (nodesL arcs) := by
        unfold levD
        refine List.ext_getElem? fun i => ?_
        have lkv : kv.length = (nodesL arcs).length := by have z := congrArg List.length ek; rwa [List.length_map, List.length_map] at z
        rw [List.getElem?_map]
        cases en2 : (nodesL arcs)[i]? with
        | none =>
          rw [List.getElem?_eq_none_iff] at en2
          exact List.getElem?_eq_none (by omega)
        | some n =>
          have li := (List.getElem?_eq_some_iff.mp en2).1
          obtain ⟨p, hp⟩ : ∃ p, kv[i]? = some p := ⟨_, List.getElem?_eq_getElem (by omega)⟩
          obtain ⟨pk, py⟩ := p
          obtain ⟨n', h2, h3⟩ := hR i pk py hp
          rw [en2] at h2
          obtain rfl := Option.some.inj h2
          have z := congrArg (fun l => l[i]?) ek
          simp only [List.getElem?_map, hp, en2, Option.map_some] at z
          rw [hp, h3, Option.some.inj z]
          rfl
      rw [eB] at oB
      refine ⟨(by show 2 ≤ sizeLine; decide), fun t' nt => ?_⟩
      have kt := same_new (o := .tup [.ref a, .ref B]) nt
      exact hhid hl told _ t' a B T (levO lv) (k010.free nt) na0 (k09.free nB) upd_same (kt _ _ (s1 _ _ (k9 _ _ o8))) (kt _ _ oB) fin (k010.trans kt)
  | step es1 ne c1 =>
    rename_i m s
    rw [decide_eq_true ne]
    refine iteT ⟨fun σ' H' => ∃ m', m' < m + 1 ∧ ∃ (n : Str) (T : List Str) (s9 : Option V), σ' = [some (.ref x), some (.ref kn), some (.str e.1), some (.str e.2.1), some (.str e.2.2), some (.ref D1), some (.ref D2), some (.ref a), some (.str n), s9, none] ∧ Ch la e.2.2 m' n ∧ HidSt arcs ks e lv la x0 n T ∧ tkF la ks e.2.2 k0 e.2.1 T0 = tkF la ks e.2.2 m' n T ∧ H' a = some (.lst (T.map V.str)) ∧ ∀ b o, b ≠ a → H6 b = some o → H' b = some o, fun σ' H' h => h, ?_⟩
    obtain ⟨t1, ev1, st1⟩ := q4 n s es1
    have oD8 := kp _ _ (noa q1) q1
    have st8 := kp _ _ (noa st1) st1
    have lT : T.length ≤ ks.length := nd_sub_len st.nd st.sub
    have stp := hid_step nok.nd F6 st ne es1
    have tk1 : tkF la ks e.2.2 (m + 1) n T = tkF la ks e.2.2 m s.2.2.1 (if s.1 ∈ ks then T ++ [s.1] else T) := by
      show (match la n with
        | none => T
        | some s => tkF la ks e.2.2 m s.2.2.1 (if s.1 ∈ ks then T ++ [s.1] else T)) = _
      rw [es1]
    have tk2 := tk.trans tk1
    refine ⟨_, rfl, _, rfl, D2, _, rfl, .inl ⟨es, Sum.inr n, .inl oD8, rfl, ev1.symm⟩, ?_⟩
    refine ⟨_, rfl, .inr (.inl ⟨t1, _, _, _, rfl, rfl, SqT.of st8, rfl, _, rfl, kn, _, rfl, seqOr (ka.same k08).o, rfl, flat_strs ks, _, rfl, ?_⟩)⟩
    rw [inV_strs]
    by_cases c : s.1 ∈ ks
    · rw [decide_eq_true c]
      rw [if_pos c] at stp tk2
      refine iteT ⟨_, rfl, .inl ⟨rfl, _, SqL.of o8⟩, _, rfl, .inr (.inl ⟨t1, _, _, _, rfl, rfl, SqT.of st8, rfl, a, _, _, rfl, rfl, o8, by rw [sizeLine_eq, List.length_map]; omega, ?_⟩)⟩
      have ta : t1 ≠ a := noa st1
      refine ⟨_, rfl, .inr (.inl ⟨t1, _, _, _, rfl, rfl, SqT.of (by rw [upd_ne ta]; exact st8), rfl, ?_⟩)⟩
      exact ⟨m, by omega, s.2.2.1, _, _, rfl, c1, stp, tk2, by rw [upd_same, List.map_append]; rfl, fun b o nb h => by rw [upd_ne nb]; exact kp b o nb h⟩
    · rw [decide_eq_false c]
      rw [if_neg c] at stp tk2
      refine iteF ⟨_, rfl, .inr (.inl ⟨t1, _, _, _, rfl, rfl, SqT.of st8, rfl, ?_⟩)⟩
      exact ⟨m, by omega, s.2.2.1, _, _, rfl, c1, stp, tk2, o8, kp⟩
end
end L2.TB
/-! bools of lists and tuples -/
namespace L2.TB
open PySem PySem.Spec PyProof.Rows LamX
def dupAt (S : List Str) (i : Nat) : Bool := match S[i]? with
  | some y => decide (y ∈ S.take i)
  | none => false
theorem dup_some {S : List Str} {i : Nat} {n : Str} (e : S[i]? = some n) : dupAt S i = decide (n ∈ S.take i) := by
  unfold dupAt
  rw [e]
theorem not_nodup_take {S : List Str} : ((List.range S.length).any fun i => dupAt S i) = !decide S.Nodup := by
  by_cases h : S.Nodup
  · rw [decide_eq_true h]
    refine List.any_eq_false.mpr fun i hi c => ?_
    have li := List.mem_range.mp hi
    have ey : S[i]? = some S[i] := List.getElem?_eq_getElem li
    rw [dup_some ey] at c
    have hy := of_decide_eq_true c
    obtain ⟨j, hj⟩ := List.getElem?_of_mem hy
    have lj := (List.getElem?_eq_some_iff.mp hj).1
    rw [List.length_take] at lj
    rw [List.getElem?_take_of_lt (by omega)] at hj
    have := (List.getElem?_inj (List.getElem?_eq_some_iff.mp hj).1 h).mp (hj.trans ey.symm)
    omega
  · rw [decide_eq_false h]
    refine List.any_eq_true.mpr ?_
    refine Classical.byContradiction fun c => h ?_
    refine List.pairwise_iff_getElem.mpr fun i j hi lj lij e => c ⟨j, List.mem_range.mpr lj, ?_⟩
    rw [dup_some (List.getElem?_eq_getElem lj)]
    refine decide_eq_true ?_
    rw [← e]
    exact List.mem_of_getElem? (i := i) (by rw [List.getElem?_take_of_lt lij]; exact List.getElem?_eq_getElem hi)
/-- bools of a list or a tuple -/
theorem lc_boolsA {K : PySem.W.Frag} {a : Addr} {xs : List V} {g : TG} {te : TE} {vs : List Nat} {σ : L2.St} {H1 : Hp} {Q : Addr → Hp → Prop} (h : SqA K H1 a xs) (bs : List Bool) (len : xs.length = bs.length) (short : bs.length < 100000)
    (turn : ∀ (i : Nat) (x : V) (b : Bool) (H : Hp) (C : V → Hp → Prop) (N : Hp → Prop), xs[i]? = some x → bs[i]? = some b → Same H1 H → (∀ H4, Same H H4 → C (.bl b) H4) → g x (wipe σ vs) H fun σ2 H2 => wipe σ2 vs = wipe σ vs ∧ tYes σ2 H2 fun b H3 => if b = true then te σ2 H3 C else N H3)
    (fin : ∀ H D, H1 D = none → H D = some (.lst (bs.map V.bl)) → Same H1 H → Q D H) :
    ∃ b ys, V.ref a = V.ref b ∧ ((SqL K H1 b ys ∧ LcW (Itl K b) g tYes te vs σ H1 Q) ∨ (SqT K H1 b ys ∧ LcW (Itt K b) g tYes te vs σ H1 Q)) := by
  rcases h with h | h
  · refine ⟨a, xs, rfl, .inl ⟨SqL.of h, lc_gen (bs.map V.bl) (by rw [List.length_map]; omega) (fun i H' s lt => ⟨_, _, SqL.of (s _ _ h), List.getElem?_eq_getElem (by rw [List.length_map] at lt; omega)⟩) (fun H' s => ⟨_, SqL.of (s _ _ h), by rw [List.length_map]; omega⟩) ?_ fin⟩⟩
    rintro i x v H H' C N ev s1 ⟨rfl, ex⟩ yes
    rw [List.getElem?_map] at ev
    obtain ⟨b, eb, rfl⟩ := Option.map_eq_some_iff.mp ev
    exact turn i x b H' C N (ex _ (SqL.of (s1 _ _ h))) eb s1 yes
  · refine ⟨a, xs, rfl, .inr ⟨SqT.of h, lc_gen (bs.map V.bl) (by rw [List.length_map]; omega) (fun i H' s lt => ⟨_, _, SqT.of (s _ _ h), List.getElem?_eq_getElem (by rw [List.length_map] at lt; omega)⟩) (fun H' s => ⟨_, SqT.of (s _ _ h), by rw [List.length_map]; omega⟩) ?_ fin⟩⟩
    rintro i x v H H' C N ev s1 ⟨rfl, ex⟩ yes
    rw [List.getElem?_map] at ev
    obtain ⟨b, eb, rfl⟩ := Option.map_eq_some_iff.mp ev
    exact turn i x b H' C N (ex _ (SqT.of (s1 _ _ h))) eb s1 yes
theorem lc_boolsE {K : PySem.W.Frag} {a : Addr} {xs : List V} {g : TG} {te : TE} {vs : List Nat} {σ : L2.St} {H1 : Hp} {Q : Addr → Hp → Prop} (h : SqA K H1 a xs) (bs : List Bool) (len : xs.length = bs.length) (short : bs.length < 100000)
    (turn : ∀ (i : Nat) (x : V) (b : Bool) (H : Hp) (T : Addr) (C : V → Hp → Prop) (N : Hp → Prop), xs[i]? = some x → bs[i]? = some b → Same H1 H → H T = some (.tup [.int (i : Nat), x]) → (∀ H4, Same H H4 → C (.bl b) H4) → g (.ref T) (wipe σ vs) H fun σ2 H2 => wipe σ2 vs = wipe σ vs ∧ tYes σ2 H2 fun b H3 => if b = true then te σ2 H3 C else N H3)
    (fin : ∀ H D, H1 D = none → H D = some (.lst (bs.map V.bl)) → Same H1 H → Q D H) :
    ∃ b ys, [V.ref a] = [V.ref b] ∧ ((SqL K H1 b ys ∧ LcW (Ite K b) g tYes te vs σ H1 Q) ∨ (SqT K H1 b ys ∧ LcW (IteT K b) g tYes te vs σ H1 Q)) := by
  rcases h with h | h
  · refine ⟨a, xs, rfl, .inl ⟨SqL.of h, lc_gen (bs.map V.bl) (by rw [List.length_map]; omega) (fun i H' s lt => ⟨_, _, SqL.of (s _ _ h), List.getElem?_eq_getElem (by rw [List.length_map] at lt; omega)⟩) (fun H' s => ⟨_, SqL.of (s _ _ h), by rw [List.length_map]; omega⟩) ?_ fin⟩⟩
    rintro i x v H H' C N ev s1 ⟨T, y, rfl, nT, rfl, ex⟩ yes
    rw [List.getElem?_map] at ev
    obtain ⟨b, eb, rfl⟩ := Option.map_eq_some_iff.mp ev
    have kT := same_new (o := .tup [.int (i : Nat), y]) nT
    exact turn i y b _ T C N (ex _ (SqL.of (s1 _ _ h))) eb (s1.trans kT) upd_same fun H4 s4 => yes H4 (kT.trans s4)
  · refine ⟨a, xs, rfl, .inr ⟨SqT.of h, lc_gen (bs.map V.bl) (by rw [List.length_map]; omega) (fun i H' s lt => ⟨_, _, SqT.of (s _ _ h), List.getElem?_eq_getElem (by rw [List.length_map] at lt; omega)⟩) (fun H' s => ⟨_, SqT.of (s _ _ h), by rw [List.length_map]; omega⟩) ?_ fin⟩⟩
    rintro i x v H H' C N ev s1 ⟨T, y, rfl, nT, rfl, ex⟩ yes
    rw [List.getElem?_map] at ev
    obtain ⟨b, eb, rfl⟩ := Option.map_eq_some_iff.mp ev
    have kT := same_new (o := .tup [.int (i : Nat), y]) nT
    exact turn i y b _ T C N (ex _ (SqT.of (s1 _ _ h))) eb (s1.trans kT) upd_same fun H4 s4 => yes H4 (kT.trans s4)
end L2.TB
/-! has_just over a list; _are_levels -/
namespace L2.TB
open PySem PySem.Spec PyProof.Rows LamX
def spJustL (K : PySem.W.Frag) : Sp := fun vs H Q _ => ∃ (v : V) (q : Addr) (ns : List Str), vs = [v, .ref q] ∧ H q = some (.lst (ns.map V.str)) ∧ ns.length < 1000 ∧
  ((NoDict K H v ∧ Q (.bl false) H) ∨ ∃ d kvs, v = .ref d ∧ H d = some (.dK kvs) ∧ kvs.length < 2000 ∧ ∀ H', Same H H' → Q (.bl (justB kvs ns)) H')
def isIntV : V → Bool
  | .int _ => true
  | _ => false
def lvV (kvs : List (Key × V)) (n : Str) : Int := intV ((valV kvs (Sum.inr n)).getD .non)
def AreLv (arcs : NtT) (ks : List Str) (e : Str × ArT) (kvs : List (Key × V)) : Prop := justB kvs (nodesL arcs) = true ∧ (∀ kv ∈ kvs, isIntV kv.2 = true) ∧ LevOk arcs ks e (lvV kvs)
/-- a dict of plain values -/
structure PlD (H : Hp) (d : Addr) (kvs : List (Key × V)) : Prop where
  o : H d = some (.dK kvs)
  nd : (kvs.map (·.1)).Nodup
  sh : kvs.length < 1500
  at_ : ∀ kv ∈ kvs, Atom kv.2
theorem PlD.same {H H' : Hp} {d : Addr} {kvs : List (Key × V)} (h : PlD H d kvs) (s : Same H H') : PlD H' d kvs := ⟨s _ _ h.o, h.nd, h.sh, h.at_⟩
theorem int_atom {K : PySem.W.Frag} {H : Hp} {v : V} (a : Atom v) : (∃ k, v = .int k ∧ isIntV v = true) ∨ (NoInt K H v ∧ isIntV v = false) := by
  cases a with
  | str x => exact .inr ⟨.ty (.base (.str x)) (by decide +kernel), rfl⟩
  | int i => exact .inl ⟨i, rfl, rfl⟩
  | bl b => exact .inr ⟨.bl b, rfl⟩
  | non => exact .inr ⟨.ty (.base .non) (by decide +kernel), rfl⟩
theorem lv_val {kvs : List (Key × V)} {ns : List Str} (j : justB kvs ns = true) (ai : ∀ kv ∈ kvs, isIntV kv.2 = true) {n : Str} (hn : n ∈ ns) : valV kvs (Sum.inr n) = some (.int (lvV kvs n)) := by
  unfold justB at j
  have j2 := List.all_eq_true.mp ((Bool.and_eq_true _ _).mp j).2 n hn
  obtain ⟨v, ev⟩ := Option.isSome_iff_exists.mp j2
  unfold lvV
  rw [ev]
  have m : ∃ kv ∈ kvs, kv.2 = v := by
    unfold valV at ev
    obtain ⟨kv, h1, h2⟩ := Option.map_eq_some_iff.mp ev
    exact ⟨kv, List.mem_of_find?_eq_some h1, h2⟩
  obtain ⟨kv, h1, rfl⟩ := m
  have := ai kv h1
  cases z : kv.2 <;> rw [z] at this <;> first | rfl | cases this
def spAreLev (K : PySem.W.Frag) (C : Addr) : Sp := fun vs H Q _ => ∃ (x kn : Addr) (arcs : NtT) (A : Addr → Prop) (ks : List Str) (e : Str × ArT) (v : V), vs = [.ref x, .ref kn, .str e.1, v] ∧ NetA A H C x arcs ∧ NtOk arcs ∧ KnA K H kn arcs ks ∧ e ∈ arcs ∧
  ((NoDict K H v ∧ ∀ H', Same H H' → Q (.bl false) H') ∨ ∃ d kvs, v = .ref d ∧ PlD H d kvs ∧ ∀ H' b, (b = true ↔ AreLv arcs ks e kvs) → Same H H' → Q (.bl b) H')
abbrev NAv : List Str := ["net", "known", "asked", "thing", "arcs", "free", "name", "start", "end", "node"]
theorem scAv : FnScope NAv ["net", "known", "asked", "thing"] (defScope sAreLev) := ⟨rfl, rfl, rfl, by decide +kernel, rfl, by decide +kernel, by decide +kernel⟩
theorem boot_absT : bootBuiltins "abs" = some (.builtin "abs") := by decide +kernel
section
variable {P : Program} {w : World} {K : PySem.W.Frag} {mg : Str → Option Value} {base : Heap} {f C fA fJ fN fI fF : Addr} {fd fdA fdJ fdN fdI fdF : FuncData} {ca : Str → Addr}
theorem ok_justL (F : Fun K "has_just" "has_just" sHasJust f fd) (gI : mg "isinstance" = none) (gD : mg "dict" = none) (gN : mg "len" = none) (gA : mg "all" = none) : FnOk P w K mg base CX0 1 f fd ["thing", "names"] (spJustL K) := by
  refine F.ok scHasJust (fun vs H Q E h => by obtain ⟨v, D, ns, e, _⟩ := h; rw [e]; rfl) fun cdv A outer s H vs Q E hr hsp => ?_
  obtain ⟨v, q, ns, rfl, oq, sh, hq⟩ := hsp
  have nd := scHasJust.nd
  have hu := hu_of hr
  refine ⟨_, pss_one (ps_ret (pe_and (pe_callB (r := rIsi K) call_isi rfl gI boot_isi (pa_cons (pv 0) (pa_cons (pe_bltn (v := .ty "dict") rfl gD boot_dict' rfl) pa_nil))) (pe_and (pe_cmpR op_eq (pe_callB call_lenD rfl gN boot_len (pa_cons (pv 0) pa_nil)) (pe_callB call_len rfl gN boot_len (pa_cons (pv 1) pa_nil)) (nomark _))
    (pe_one (pe_callB (cr_all rfl) rfl gA boot_allN (pa_cons (pe_lc (own := [("name", 2)]) (g := gName 2) (tt := tYes) rfl nd (pi_list (pv 1)) (blkOk_by (N := NHj) (sc := defScope sHasJust) (by decide +kernel)) (fun _ _ _ _ _ => pg_name (i := 2) nd rfl (Or.inl rfl)) (fun _ _ _ _ _ => pts_nil)
      (fun _ _ _ _ _ => pe_cmp (pc_din hu (pv 2) (pv 0)))) pa_nil)))))), ?_⟩
  have lns : (ns.map V.str).length = ns.length := List.length_map _
  rcases hq with ⟨⟨t, h1, h2⟩, hq⟩ | ⟨d, kvs, rfl, od, shk, hq⟩
  · exact ⟨_, rfl, _, _, _, _, false, rfl, .ty _, h1, kit_ty h2, _, rfl, iteF hq⟩
  · refine ⟨_, rfl, _, _, _, _, true, rfl, .ty _, .base (.dK od), kit_ty (by decide +kernel), _, rfl, iteT ?_⟩
    have ed : decide (V.int (kvs.length : Nat) = V.int (ns.length : Nat)) = decide (kvs.length = ns.length) := decide_eq_decide.mpr ⟨fun h => by have := V.int.inj h; omega, fun h => by rw [h]⟩
    refine ⟨_, rfl, d, kvs, rfl, od, _, rfl, .ref q, ns.length, rfl, .inl ⟨_, SqL.of oq, lns.symm⟩, rfl, decide (kvs.length = ns.length), congrArg V.bl ed, ?_⟩
    by_cases c : kvs.length = ns.length
    · rw [decide_eq_true c]
      refine iteT ⟨_, rfl, q, rfl, ⟨_, SqL.of oq⟩, ?_⟩
      refine lc_gen ((ns.map fun n => (valV kvs (Sum.inr n)).isSome).map V.bl) (by rw [List.length_map, List.length_map]; omega) (fun i H' s lt => ⟨_, _, SqL.of (s _ _ oq), List.getElem?_eq_getElem (by rw [List.length_map, List.length_map] at lt; omega)⟩) (fun H' s => ⟨_, SqL.of (s _ _ oq), by rw [List.length_map, List.length_map, List.length_map]; exact Nat.le_refl _⟩) ?_ ?_
      · rintro i y b H2 H3 Cn Nn eb s2 ⟨rfl, ev⟩ yes
        have ev := ev _ (SqL.of (s2 _ _ oq))
        rw [List.getElem?_map] at ev
        obtain ⟨n, en, rfl⟩ := Option.map_eq_some_iff.mp ev
        rw [List.getElem?_map, List.getElem?_map, en] at eb
        obtain rfl := Option.some.inj eb
        refine ⟨rfl, ?_⟩
        refine ⟨_, rfl, _, rfl, d, _, rfl, DGet.k (k := Sum.inr n) (s2 _ _ od), ?_⟩
        exact yes H3 (Same.refl _)
      · intro H2 q2 nq oq2 s2
        refine ⟨q2, _, rfl, SqL.of oq2, ?_⟩
        have e : justB kvs ns = (ns.map fun n => (valV kvs (Sum.inr n)).isSome).all id := by
          unfold justB
          rw [decide_eq_true c, List.all_map]
          rfl
        rw [← e]
        exact hq _ s2
    · rw [decide_eq_false c]
      have z := hq H (Same.refl _)
      have e : justB kvs ns = false := by unfold justB; rw [decide_eq_false c]; rfl
      rw [e] at z
      exact iteF z
theorem ok_areLev (F : Fun K "_are_levels" "_are_levels" sAreLev f fd) (L : NtC P w K mg base C ca) (mA : Meth K C "arcs" fA) (GA : FnOk P w K mg base CX0 1 fA fdA ["self"] (spNArcs C)) (bA : Binds K fdA ["self"] []) (mN : Meth K C "nodes" fN) (GN : FnOk P w K mg base CX0 1 fN fdN ["self"] (spNNodes C)) (bN : Binds K fdN ["self"] [])
    (FJ : Fun K "has_just" "has_just" sHasJust fJ fdJ) (gJ : mg "has_just" = some (.ref fJ)) (GJ : FnOk P w K mg base CX0 1 fJ fdJ ["thing", "names"] (spJustL K)) (FI : Fun K "is_integer" "is_integer" sIsInt fI fdI) (gI : mg "is_integer" = some (.ref fI)) (GI : FnOk P w K mg base CX0 1 fI fdI ["thing"] (spIsIntG K))
    (FF : Fun K "free_arcs" "free_arcs" sFree fF fdF) (gF : mg "free_arcs" = some (.ref fF)) (GF : FnOk P w K mg base CX0 2 fF fdF ["net", "known"] (spFree K C)) (nA : mg "all" = none) (nB : mg "abs" = none) : FnOk P w K mg base CX0 3 f fd ["net", "known", "asked", "thing"] (spAreLev K C) := by
  obtain ⟨fL, fdL, mL, bL, GL⟩ := L.live
  have bJ := FJ.binds (ps := ["thing", "names"]) fun _ _ _ _ _ _ us hl => match us, hl with | [_, _], _ => rfl
  have bI := FI.binds (ps := ["thing"]) fun _ _ _ _ _ _ us hl => match us, hl with | [_], _ => rfl
  have bF := FF.binds (ps := ["net", "known"]) fun _ _ _ _ _ _ us hl => match us, hl with | [_, _], _ => rfl
  refine F.ok scAv (fun vs H Q E h => by obtain ⟨x, kn, arcs, A, ks, e0, v, e, _⟩ := h; rw [e]; rfl) fun cdv A outer s H vs Q E hr hsp => ?_
  obtain ⟨x, kn, arcs, A0, ks, e, v, rfl, hx, nok, ka, he, hv⟩ := hsp
  have nd := scAv.nd
  have hr1 := hr.mono (show 1 ≤ 2 by decide)
  have hu := hu_of hr1
  refine ⟨_, pss_cons (ps_if (PW.pt (pw_or (pt_not (pt_val (pe_call GJ hr1 rfl gJ FJ.kp bJ .nil pass0 (pa_cons (pv 3) (pa_cons (pe_meth0 (pv 0) L.S.cl mN GN hr1 bN .nil pass0) pa_nil))))) (pw_or1 (pt_not (pt_val (pe_callB (cr_all rfl) rfl nA boot_allN (pa_cons (pe_lock (pe_lc (own := [("node", 9)]) (tt := tYes) (g := gName 9) (te := tCall (spIsIntG K) [] E0 (tCons (tDGet (tVar 3) (tVar 9)) tNil)) rfl nd (pi_keys (pv 3)) (blkOk_by (N := NAv) (sc := defScope sAreLev) (by decide +kernel)) (fun _ _ _ _ _ => pg_name (i := 9) nd rfl (Or.inl rfl)) (fun _ _ _ _ _ => pts_nil)
      (fun _ _ _ _ _ => pe_call GI hr1 rfl gI FI.kp bI .nil pass0 (pa_cons (pe_dget hu (pv 3) (pv 9) (fun _ _ => rfl)) pa_nil)))) pa_nil))))))) (pss_one (ps_ret pe_bl)) pss_nil)
    (pss_cons (ps_par (i := 4) (j := 5) rfl nd rfl rfl (by decide) rfl rfl (pa_cons (pe_meth0 (pv 0) L.S.cl mA GA hr1 bA .nil pass0) (pa_cons (pe_call GF hr rfl gF FF.kp bF .nil pass0 (pa_cons (pv 0) (pa_cons (pv 1) pa_nil))) pa_nil)) (by rfl))
    (pss_cons (ps_if (pt_cmpR op_ne (pe_dget hu (pv 3) (pe_ix (r := rIx K) ix_seq (pe_dget hu (pv 4) (pv 2) (fun _ _ => rfl)) pe_int (fun _ _ => rfl)) (fun _ _ => rfl)) pe_int (nomark _)) (pss_one (ps_ret pe_bl)) pss_nil)
    (pss_cons (ps_for PassesOwn.never rfl (pi_list (pe_meth0 (pv 0) L.S.cl mL GL hr1 bL .nil pass0)) (pg_name (i := 6) nd rfl (Or.inl rfl))
      (pss_cons (ps_asg (pe_dget hu (pv 4) (pv 6) (fun _ _ => rfl)) (pg_tup (n := 2) rfl (pgs_cons (pg_name (i := 7) nd rfl (Or.inl rfl)) (pgs_cons (pg_name (i := 8) nd rfl (Or.inl rfl)) pgs_nil))))
      (pss_one (ps_if (PW.pt (pw_and (pt_cmpR op_ne (pv 6) (pv 2) (nomark _)) (pw_and1 (pt_cmpR op_gt (pe_callB call_abs rfl nB boot_absT (pa_cons (pe_op op_sub (pe_dget hu (pv 3) (pv 7) (fun _ _ => rfl)) (pe_dget hu (pv 3) (pv 8) (fun _ _ => rfl))) pa_nil)) (pe_via (pe_ifExp (pt_cmpR op_in_seq (pv 6) (pv 5) rfl) pe_int pe_int)) (nomark _))))) (pss_one (ps_ret pe_bl)) pss_nil))))
    (pss_one (ps_ret pe_bl))))), ?_⟩
  have sh := nok.n1
  have lN := nodesL_len nok
  obtain ⟨dx, D0, Nd, Lv, h1, _⟩ := id hx.ex
  refine ⟨_, rfl, _, rfl, x, dx, _, rfl, h1, rfl, x, arcs, A0, rfl, hx, fun H1 qn nqn oqn k1 => ?_⟩
  rcases hv with ⟨no, hq⟩ | ⟨d, kvs, rfl, pd, hq⟩
  · exact ⟨v, qn, nodesL arcs, rfl, oqn, by omega, .inl ⟨no.same k1, _, rfl, iteT (iteT (hq H1 k1))⟩⟩
  refine ⟨.ref d, qn, nodesL arcs, rfl, oqn, by omega, .inr ⟨d, kvs, rfl, k1 _ _ pd.o, by have := pd.sh; omega, fun H2 k2 => ⟨_, rfl, ?_⟩⟩⟩
  have k02 := k1.trans k2
  have pd2 := pd.same k02
  cases ju : justB kvs (nodesL arcs) with
  | false => exact iteT (iteT (hq H2 false ⟨fun z => (by cases z), fun z => (by rw [z.1] at ju; cases ju)⟩ k02))
  | true =>
  refine iteF ⟨d, _, pd2.o, trivial, fun oo => ⟨_, rfl, d, oo, rfl, .inl ⟨kvs, upd_same, ?_⟩⟩⟩
  have oL : upd H2 d (.frz oo (.dK kvs)) d = some (.frz oo (.dK kvs)) := upd_same
  have lk := pd.sh
  refine lc_gen ((kvs.map fun kv => isIntV kv.2).map V.bl) (by rw [List.length_map, List.length_map]; omega) (fun i H' s lt => ⟨s _ _ oL, by rw [List.length_map, List.length_map] at lt; omega⟩) (fun H' s => ⟨s _ _ oL, by rw [List.length_map, List.length_map]; omega⟩) ?_ ?_
  · rintro i y b H3 H4 Cn Nn eb s2 ⟨rfl, k0, v0, ekv, rfl⟩ yes
    rw [List.getElem?_map, List.getElem?_map, ekv] at eb
    obtain rfl := Option.some.inj eb
    have o4 := s2 _ _ oL
    refine ⟨rfl, _, rfl, _, rfl, d, _, rfl, .inl ⟨kvs, k0, .inr ⟨oo, o4⟩, rfl, (valV_atN pd.nd ekv).symm⟩, ?_⟩
    refine ⟨v0, rfl, ?_⟩
    rcases int_atom (K := K) (H := H4) (pd.at_ _ (List.mem_of_getElem? ekv)) with ⟨z, rfl, e2⟩ | ⟨no, e2⟩
    · exact .inl ⟨z, rfl, yes H4 (Same.refl _)⟩
    · refine .inr ⟨no, ?_⟩
      have y2 : Cn (V.bl (isIntV v0)) H4 := yes H4 (Same.refl _)
      rw [show isIntV v0 = false from e2] at y2
      exact y2
  · intro H3 q nq oq s2
    obtain ⟨b1, s12⟩ := lock_offN pd2.o s2
    have qd : q ≠ d := fun z => by rw [z, upd_same] at nq; cases nq
    refine ⟨b1, q, _, rfl, SqL.of (by rw [upd_ne qd]; exact oq), ?_⟩
    generalize upd H3 d (.dK kvs) = H4 at b1 s12
    have k04 := k02.trans s12
    by_cases ai : ∀ kv ∈ kvs, isIntV kv.2 = true
    case neg =>
      have z : (kvs.map fun kv => isIntV kv.2).all id = false := Bool.eq_false_iff.mpr fun z => ai fun kv hk => by
        rw [List.all_map] at z
        exact List.all_eq_true.mp z kv hk
      rw [z]
      exact ⟨_, rfl, iteT (hq H4 false ⟨fun z => (by cases z), fun z => absurd z.2.1 ai⟩ k04)⟩
    have z : (kvs.map fun kv => isIntV kv.2).all id = true := by
      rw [List.all_map]
      exact List.all_eq_true.mpr ai
    rw [z]
    refine ⟨_, rfl, iteF ?_⟩
    have val : ∀ {n : Str}, n ∈ nodesL arcs → valV kvs (Sum.inr n) = some (.int (lvV kvs n)) := fun hn => lv_val ju ai hn
    refine ⟨_, rfl, x, dx, _, rfl, k04 _ _ h1, rfl, x, arcs, A0, rfl, hx.same k04, by omega, fun H5 D nD at5 k5 => ?_⟩
    have k05 := k04.trans k5
    refine ⟨_, rfl, _, rfl, x, kn, arcs, A0, ks, rfl, hx.same k05, by omega, (ka.same k05).o, fun H6 fr nfr ofr k6 => ?_⟩
    have k06 := k05.trans k6
    refine ⟨_, _, rfl, ?_⟩
    obtain ⟨es0, t0, oD, ev0, _, ot0⟩ := arc_at at5 he
    have od6 := (pd.same k06).o
    have dg : ∀ {H' : Hp} {n : Str}, Same H6 H' → n ∈ nodesL arcs → DGet H' d (.str n) (some (.int (lvV kvs n))) := fun {H' n} k hn => by
      have := DGet.k (k := Sum.inr n) (k _ _ od6)
      rw [val hn] at this
      exact this
    refine ⟨_, rfl, _, rfl, _, rfl, D, _, rfl, .inl ⟨es0, Sum.inr e.1, .inl (k6 _ _ oD), rfl, ev0.symm⟩, .inr (.inl ⟨t0, _, _, _, rfl, rfl, SqT.of (k6 _ _ ot0), rfl, d, _, rfl, dg (Same.refl _) (nodesL_end he).2, rfl, _, rfl, ?_⟩)⟩
    by_cases z0 : lvV kvs e.2.2 = 0
    case neg =>
      rw [decide_eq_false (fun h => z0 (V.int.inj h))]
      exact iteT (hq H6 false ⟨fun z => (by cases z), fun z => absurd z.2.2.at0 z0⟩ k06)
    rw [decide_eq_true (by rw [z0])]
    refine iteF ?_
    refine ⟨_, rfl, x, dx, _, rfl, k06 _ _ h1, rfl, x, arcs, A0, rfl, hx.same k06, fun H7 ql nql oql k7 => ⟨ql, rfl, ⟨_, SqL.of oql⟩, ?_⟩⟩
    have k07 := k06.trans k7
    have inf : ∀ c ∈ liveE arcs, (c.1 ∈ freeN arcs ks ↔ c.1 ∉ ks) := fun c hc => by
      unfold freeN
      rw [List.mem_filter, decide_eq_true_iff]
      exact ⟨fun z => z.2, fun z => ⟨by rw [← liveE_names]; exact List.mem_map_of_mem hc, z⟩⟩
    refine for_list (xs := (liveL arcs).map V.str) (fun i σ H' => (∃ s6 s7 s8, σ = [some (.ref x), some (.ref kn), some (.str e.1), some (.ref d), some (.ref D), some (.ref fr), s6, s7, s8, none]) ∧ Same H7 H' ∧ ∀ c ∈ (liveE arcs).take i, c.1 ≠ e.1 → lvV kvs c.2.1 - lvV kvs c.2.2 ≤ inW ks c.1 ∧ lvV kvs c.2.2 - lvV kvs c.2.1 ≤ inW ks c.1)
      ⟨⟨_, _, _, rfl⟩, Same.refl _, fun c hc => by rw [List.take_zero] at hc; cases hc⟩ (fun i σ H' _ h => SqL.of (h.2.1 _ _ oql)) ?_ ?_
    · rintro i y σ H8 ey ⟨⟨s6, s7, s8, rfl⟩, k8, al⟩
      rw [← liveE_names, List.getElem?_map, List.getElem?_map] at ey
      obtain ⟨n, h2, rfl⟩ := Option.map_eq_some_iff.mp ey
      obtain ⟨c, ec, rfl⟩ := Option.map_eq_some_iff.mp h2
      have hc := List.mem_of_getElem? ec
      have ca := liveE_sub c hc
      have et : (liveE arcs).take (i + 1) = (liveE arcs).take i ++ [c] := by rw [List.take_succ, ec]; rfl
      have k68 : Same H6 H8 := k7.trans k8
      obtain ⟨es1, t1, oD1, ev1, _, ot1⟩ := arc_at (PyD.kp at5 fun b o a z => ⟨a, (k6.trans k68) _ _ z⟩) ca
      refine ⟨_, rfl, _, rfl, D, _, rfl, .inl ⟨es1, Sum.inr c.1, .inl oD1, rfl, ev1.symm⟩, t1, _, rfl, SqT.of ot1, rfl, _, _, rfl, _, _, rfl, rfl, ?_⟩
      have go : (c.1 ≠ e.1 → lvV kvs c.2.1 - lvV kvs c.2.2 ≤ inW ks c.1 ∧ lvV kvs c.2.2 - lvV kvs c.2.1 ≤ inW ks c.1) → ∀ b ∈ (liveE arcs).take (i + 1), b.1 ≠ e.1 → lvV kvs b.2.1 - lvV kvs b.2.2 ≤ inW ks b.1 ∧ lvV kvs b.2.2 - lvV kvs b.2.1 ≤ inW ks b.1 := fun h b hb => by
        rw [et] at hb
        rcases (List.mem_append.mp hb) with hb | hb
        · exact al b hb
        · rw [List.mem_singleton.mp hb]; exact h
      refine ⟨_, rfl, _, rfl, rfl, _, rfl, ?_⟩
      have en : (!decide (V.str c.1 = V.str e.1)) = decide (c.1 ≠ e.1) := by
        by_cases q : c.1 = e.1
        · rw [decide_eq_true (by rw [q]), decide_eq_false (fun h => h q)]; rfl
        · rw [decide_eq_false (fun h => q (V.str.inj h)), decide_eq_true q]; rfl
      rw [en]
      by_cases ne : c.1 = e.1
      · rw [decide_eq_false (fun h => h ne)]
        exact iteF (iteF ⟨⟨_, _, _, rfl⟩, k8, go fun h => absurd ne h⟩)
      rw [decide_eq_true ne]
      refine iteT ?_
      refine ⟨_, rfl, _, rfl, d, _, rfl, dg k68 (nodesL_end ca).1, _, rfl, _, rfl, d, _, rfl, dg k68 (nodesL_end ca).2, _, _, rfl, rfl, _, rfl, ?_⟩
      refine ⟨fun v H' => v = .int (inW ks c.1) ∧ H' = H8, ?_, ?_⟩
      · refine ⟨_, rfl, _, rfl, fr, _, rfl, .inl (SqL.of (k68 _ _ ofr)), rfl, flat_strs _, _, rfl, ?_⟩
        rw [inV_strs]
        unfold inW
        by_cases q : c.1 ∈ ks
        · rw [decide_eq_false (fun z => (inf c hc).mp z q), if_pos q]
          exact iteF ⟨rfl, rfl⟩
        · rw [decide_eq_true ((inf c hc).mpr q), if_neg q]
          exact iteT ⟨rfl, rfl⟩
      rintro v8 H9 ⟨e8, e9⟩
      rw [e8, e9]
      refine ⟨_, _, rfl, rfl, _, rfl, ?_⟩
      by_cases far : inW ks c.1 < (if lvV kvs c.2.1 - lvV kvs c.2.2 < 0 then -(lvV kvs c.2.1 - lvV kvs c.2.2) else lvV kvs c.2.1 - lvV kvs c.2.2)
      · rw [decide_eq_true far]
        refine iteT (hq H8 false ⟨fun z => (by cases z), fun z => ?_⟩ (k07.trans k8))
        have := z.2.2.le c ca (List.mem_filter.mp hc).2 ne
        split at far <;> omega
      · rw [decide_eq_false far]
        refine iteF ⟨⟨_, _, _, rfl⟩, k8, go fun _ => ?_⟩
        split at far <;> omega
    · rintro σ H8 ⟨⟨s6, s7, s8, rfl⟩, k8, al⟩
      have ll : ((liveL arcs).map V.str).length = (liveE arcs).length := by rw [List.length_map, ← liveE_names, List.length_map]
      rw [ll, List.take_length] at al
      exact hq H8 true ⟨fun _ => ⟨ju, ai, z0, fun c hc lc ne => al c (List.mem_filter.mpr ⟨hc, lc⟩) ne⟩, fun _ => rfl⟩ (k07.trans k8)
end
end L2.TB
/-! is_hiding of anything -/
namespace L2.TB
open PySem PySem.Spec PyProof.Rows LamX
theorem badAt_none {ns : List Str} : ∀ (us seen : List Str) (i : Nat), badAt ns (us.map V.str) seen i = none → (∀ x ∈ us, x ∈ ns ∧ x ∉ seen) ∧ us.Nodup
  | [], _, _, _ => ⟨fun x h => by (cases h), List.nodup_nil⟩
  | u :: us, seen, i, h => by
    have h : (if u ∈ ns ∧ u ∉ seen then badAt ns (us.map V.str) (seen ++ [u]) (i + 1) else some i) = none := h
    by_cases c : u ∈ ns ∧ u ∉ seen
    · rw [if_pos c] at h
      obtain ⟨h1, h2⟩ := badAt_none us (seen ++ [u]) (i + 1) h
      refine ⟨fun x hx => ?_, List.nodup_cons.mpr ⟨fun z => (h1 u z).2 (by simp), h2⟩⟩
      rcases List.mem_cons.mp hx with rfl | hx
      · exact c
      · exact ⟨(h1 x hx).1, fun z => (h1 x hx).2 (List.mem_append_left _ z)⟩
    · rw [if_neg c] at h
      cases h
theorem pg_or {X : Cx} {e : Expr} {t1 t2 : TG} (h1 : PG X e t1) (h2 : PG X e t2) : PG X e (fun v σ H Q => t1 v σ H Q ∨ t2 v σ H Q) := ⟨fun pins s σ H v u Q I r h => h.elim (h1.run pins s σ H v u Q I r) (h2.run pins s σ H v u Q I r)⟩
theorem unp_two {K : PySem.W.Frag} {t : List V → L2.St → Hp → (L2.St → Hp → Prop) → Prop} {σ : L2.St} {H : Hp} {Q : L2.St → Hp → Prop} {a : Addr} {v0 v1 : V} (h : SqA K H a [v0, v1]) (q : t [v0, v1] σ H Q) : gTup K 2 t (.ref a) σ H Q ∨ gUnl K 2 t (.ref a) σ H Q := by
  rcases h with h | h
  · exact .inr ⟨a, _, rfl, SqL.of h, rfl, q⟩
  · exact .inl ⟨a, _, rfl, SqT.of h, rfl, q⟩
/-- what may be the taken ones -/
inductive FstT (K : PySem.W.Frag) (H : Hp) : V → Option (List Str) → Prop
  | no {v : V} (h : NoSeq K H v) : FstT K H v none
  | seq {a : Addr} {T : List Str} (h : SqA K H a (T.map V.str)) (sh : T.length < 1000) : FstT K H (.ref a) (some T)
/-- what may be the levels -/
inductive SndT (K : PySem.W.Frag) (H : Hp) : V → Option (List (Key × V)) → Prop
  | no {v : V} (h : NoDict K H v) : SndT K H v none
  | dict {d : Addr} {kvs : List (Key × V)} (h : PlD H d kvs) : SndT K H (.ref d) (some kvs)
abbrev HdT : Type := Option (Option (List Str) × Option (List (Key × V)))
inductive HdTh (K : PySem.W.Frag) (H : Hp) : V → HdT → Prop
  | no {v : V} (h : NoSeq K H v) : HdTh K H v none
  | len {a : Addr} {xs : List V} (h : SqA K H a xs) (ne : xs.length ≠ 2) (sh : xs.length < 1000) : HdTh K H (.ref a) none
  | two {a : Addr} {v0 v1 : V} {o0 : Option (List Str)} {o1 : Option (List (Key × V))} (h : SqA K H a [v0, v1]) (h0 : FstT K H v0 o0) (h1 : SndT K H v1 o1) : HdTh K H (.ref a) (some (o0, o1))
theorem FstT.same {K : PySem.W.Frag} {H H' : Hp} {v : V} {o : Option (List Str)} (h : FstT K H v o) (s : Same H H') : FstT K H' v o := by
  cases h with
  | no h => exact .no (h.same s)
  | seq h sh => exact .seq (h.same s) sh
theorem SndT.same {K : PySem.W.Frag} {H H' : Hp} {v : V} {o : Option (List (Key × V))} (h : SndT K H v o) (s : Same H H') : SndT K H' v o := by
  cases h with
  | no h => exact .no (h.same s)
  | dict h => exact .dict (h.same s)
theorem HdTh.same {K : PySem.W.Frag} {H H' : Hp} {v : V} {o : HdT} (h : HdTh K H v o) (s : Same H H') : HdTh K H' v o := by
  cases h with
  | no h => exact .no (h.same s)
  | len h ne sh => exact .len (h.same s) ne sh
  | two h h0 h1 => exact .two (h.same s) (h0.same s) (h1.same s)
def HdgP (arcs : NtT) (ks : List Str) (e : Str × ArT) : HdT → Prop
  | some (some T, some kvs) => liveB arcs e = true ∧ Told arcs ks e ∧ T.Nodup ∧ (∀ t ∈ T, t ∈ ks) ∧ AreLv arcs ks e kvs ∧ (T.length : Int) = lvV kvs e.2.1 + inW ks e.1 ∧ ¬ Told arcs (lessN ks T) e
  | _ => False
def spIsHid (K : PySem.W.Frag) (C : Addr) : Sp := fun vs H Q _ => ∃ (x kn : Addr) (arcs : NtT) (A : Addr → Prop) (ks : List Str) (e : Str × ArT) (th : V) (o : HdT), vs = [.ref x, .ref kn, .str e.1, th] ∧ NetA A H C x arcs ∧ NtOk arcs ∧ KnA K H kn arcs ks ∧ H kn = some (.lst (ks.map V.str)) ∧ e ∈ arcs ∧ HdTh K H th o ∧
  ∀ H' b, (b = true ↔ HdgP arcs ks e o) → Same H H' → Q (.bl b) H'
abbrev NIh : List Str := ["net", "known", "asked", "thing", "taken", "levels", "start", "name"]
theorem scIh : FnScope NIh ["net", "known", "asked", "thing"] (defScope sIsHiding) := ⟨rfl, rfl, rfl, by decide +kernel, rfl, by decide +kernel, by decide +kernel⟩
section
variable {P : Program} {w : World} {K : PySem.W.Frag} {mg : Str → Option Value} {base : Heap} {f C fA fQ fT fP fB fV : Addr} {fd fdA fdQ fdT fdP fdB fdV : FuncData} {ca : Str → Addr}
theorem ok_isHid (F : Fun K "is_hiding" "is_hiding" sIsHiding f fd) (L : NtC P w K mg base C ca) (mA : Meth K C "arcs" fA) (GA : FnOk P w K mg base CX0 1 fA fdA ["self"] (spNArcs C)) (bA : Binds K fdA ["self"] []) (mQ : Meth K C "questions" fQ) (GQ : FnOk P w K mg base CX0 1 fQ fdQ ["self"] (spNQs C)) (bQ : Binds K fdQ ["self"] [])
    (mT : Meth K C "is_told" fT) (GT : FnOk P w K mg base CX0 5 fT fdT ["self", "known", "asked"] (spTold K C)) (bT : Binds K fdT ["self", "known", "asked"] []) (FP : Fun K "is_pair" "is_pair" sIsPair fP fdP) (gP : mg "is_pair" = some (.ref fP)) (GP : FnOk P w K mg base CX0 2 fP fdP ["thing"] (spPairG K))
    (FB : Fun K "first_bad" "first_bad" sFirst fB fdB) (gB : mg "first_bad" = some (.ref fB)) (GB : FnOk P w K mg base CX0 2 fB fdB ["names", "things"] (spFirstG K)) (FV : Fun K "_are_levels" "_are_levels" sAreLev fV fdV) (gV : mg "_are_levels" = some (.ref fV)) (GV : FnOk P w K mg base CX0 3 fV fdV ["net", "known", "asked", "thing"] (spAreLev K C)) (nN : mg "len" = none) : FnOk P w K mg base CX0 6 f fd ["net", "known", "asked", "thing"] (spIsHid K C) := by
  obtain ⟨fC, fdC, gC, kC, bC, GC⟩ := L.ckB
  have bP := FP.binds (ps := ["thing"]) fun _ _ _ _ _ _ us hl => match us, hl with | [_], _ => rfl
  have bB := FB.binds (ps := ["names", "things"]) fun _ _ _ _ _ _ us hl => match us, hl with | [_, _], _ => rfl
  have bV := FV.binds (ps := ["net", "known", "asked", "thing"]) fun _ _ _ _ _ _ us hl => match us, hl with | [_, _, _, _], _ => rfl
  refine F.ok scIh (fun vs H Q E h => by obtain ⟨x, kn, arcs, A, ks, e0, th, o, e, _⟩ := h; rw [e]; rfl) fun cdv A outer s H vs Q E hr hsp => ?_
  obtain ⟨x, kn, arcs, A0, ks, e, th, o, rfl, hx, nok, ka, okn, he, ht, hq⟩ := hsp
  have nd := scIh.nd
  have hr1 := hr.mono (show 1 ≤ 5 by decide)
  have hu := hu_of hr1
  refine ⟨_, pss_cons (ps_expr (pe_call GC (hr.mono (by decide)) rfl gC kC bC .nil passN (pa_cons (pe_meth0 (pv 0) L.S.cl mQ GQ hr1 bQ .nil pass0) (pa_cons (pv 1) (pa_cons (pv 2) pa_nil)))))
    (pss_cons (ps_if (PW.pt (pw_or (pt_not (pt_val (pe_meth (pv 0) L.S.cl mT GT hr bT .nil pass0 (pa_cons (pv 1) (pa_cons (pv 2) pa_nil))))) (pw_or1 (pt_not (pt_val (pe_call GP (hr.mono (by decide)) rfl gP FP.kp bP .nil pass0 (pa_cons (pv 3) pa_nil))))))) (pss_one (ps_ret pe_bl)) pss_nil)
    (pss_cons (ps_asg (pv 3) (pg_or (pg_tup (n := 2) rfl (pgs_cons (pg_name (i := 4) nd rfl (Or.inr rfl)) (pgs_cons (pg_name (i := 5) nd rfl (Or.inl rfl)) pgs_nil))) (pg_unl (n := 2) rfl (pgs_cons (pg_name (i := 4) nd rfl (Or.inr rfl)) (pgs_cons (pg_name (i := 5) nd rfl (Or.inl rfl)) pgs_nil)))))
    (pss_cons (ps_if (PW.pt (pw_or (pt_cmp (pc_notN (pe_call GB (hr.mono (by decide)) rfl gB FB.kp bB .nil pass0 (pa_cons (pv 1) (pa_cons (pv 4) pa_nil))))) (pw_or1 (pt_not (pt_val (pe_call GV (hr.mono (by decide)) rfl gV FV.kp bV .nil pass0 (pa_cons (pv 0) (pa_cons (pv 1) (pa_cons (pv 2) (pa_cons (pv 5) pa_nil)))))))))) (pss_one (ps_ret pe_bl)) pss_nil)
    (pss_cons (ps_set (i := 6) nd rfl (Or.inl rfl) (pe_ix (r := rIx K) ix_seq (pe_dget hu (pe_meth0 (pv 0) L.S.cl mA GA hr1 bA .nil pass0) (pv 2) (fun _ _ => rfl)) pe_int (fun _ _ => rfl)))
    (pss_cons (ps_if (pt_cmpR op_ne (pe_callB call_len rfl nN boot_len (pa_cons (pv 4) pa_nil)) (pe_op op_add (pe_dget hu (pv 5) (pv 6) (fun _ _ => rfl)) (pe_via (pe_ifExp (pt_cmpR op_in_seq (pv 2) (pv 1) rfl) pe_int pe_int))) (nomark _)) (pss_one (ps_ret pe_bl)) pss_nil)
    (pss_one (ps_ret (pe_not (pe_meth (pv 0) L.S.cl mT GT hr bT .nil pass0 (pa_cons (pe_lc (own := [("name", 7)]) (tt := tTest (tOp (rIn K true) (tVar 7) (tVar 4))) (g := gName 7) (te := tVar 7) rfl nd (pi_list (pv 1)) (blkOk_by (N := NIh) (sc := defScope sIsHiding) (by decide +kernel)) (fun _ _ _ _ _ => pg_name (i := 7) nd rfl (Or.inl rfl)) (fun _ _ _ _ _ => pts_one (pt_cmpR op_notIn_seq (pv 7) (pv 4) rfl)) (fun _ _ _ _ _ => pv 7)) (pa_cons (pv 2) pa_nil))))))))))), ?_⟩
  have sh := nok.n1
  have lks := ka.len
  obtain ⟨dx, D0, Nd, Lv, h1, _⟩ := id hx.ex
  refine ⟨_, rfl, x, dx, _, rfl, h1, rfl, x, arcs, A0, rfl, hx, fun H1 q nq oq k1 => ?_⟩
  refine ⟨_, rfl, _, rfl, q, arcs.map (·.1), _, _, none, rfl, .inr oq, kna_bad (ka.same k1) (by omega), .inr ⟨rfl, .inl ⟨e.1, rfl, List.mem_map_of_mem he, fun H2 k2 => ?_⟩⟩⟩
  have k02 := k1.trans k2
  refine ⟨_, rfl, x, dx, _, rfl, k02 _ _ h1, rfl, _, rfl, _, rfl, x, kn, arcs, A0, ks, e, rfl, hx.same k02, nok, ka.same k02, he, fun H3 b hb k3 => ⟨b, rfl, ?_⟩⟩
  have k03 := k02.trans k3
  have ntold : ¬ Told arcs ks e → ¬ HdgP arcs ks e o := fun h z => by
    match o, z with
    | some (some T, some kvs), z => exact h z.2.1
  cases b with
  | false =>
    exact iteT (iteT (hq H3 false ⟨fun z => (by cases z), fun z => absurd z (ntold fun y => by cases hb.mpr y)⟩ k03))
  | true =>
  have told := hb.mp rfl
  refine iteF ?_
  cases ht with
  | no h => exact ⟨_, rfl, _, rfl, .inl ⟨h.same k03, fun H4 k4 => ⟨_, rfl, iteT (hq H4 false ⟨fun z => (by cases z), fun z => (by cases z)⟩ (k03.trans k4))⟩⟩⟩
  | @len a xs h ne sh1 =>
    refine ⟨_, rfl, _, rfl, .inr ⟨a, xs, rfl, h.same k03, sh1, fun H4 k4 => ⟨_, rfl, ?_⟩⟩⟩
    rw [decide_eq_false ne]
    exact iteT (hq H4 false ⟨fun z => (by cases z), fun z => (by cases z)⟩ (k03.trans k4))
  | @two a v0 v1 o0 o1 h h0 h1' =>
  refine ⟨_, rfl, _, rfl, .inr ⟨a, _, rfl, h.same k03, by show 2 < 1000; decide, fun H4 k4 => ⟨_, rfl, iteF ?_⟩⟩⟩
  have k04 := k03.trans k4
  refine ⟨_, rfl, unp_two (h.same k04) ⟨_, _, rfl, _, _, rfl, rfl, ?_⟩⟩
  refine ⟨_, rfl, _, rfl, kn, ks, v0, ?_⟩
  cases h0 with
  | no h0 =>
    refine ⟨some 0, rfl, .inr (k04 _ _ okn), .no (h0.same k04), fun H5 k5 => ⟨_, rfl, iteT (iteT (hq H5 false ⟨fun z => (by cases z), fun z => ?_⟩ (k04.trans k5)))⟩⟩
    exact z.elim
  | @seq b T h0 sh0 =>
  refine ⟨badAt ks (T.map V.str) [] 0, rfl, .inr (k04 _ _ okn), .seq (h0.same k04) (fun y hy e => ?_) (by rw [List.length_map]; exact sh0), fun H5 k5 => ?_⟩
  · obtain ⟨s, _, rfl⟩ := List.mem_map.mp hy
    cases e
  have k05 := k04.trans k5
  cases eb : badAt ks (T.map V.str) [] 0 with
  | some i =>
    refine ⟨_, rfl, iteT (iteT (hq H5 false ⟨fun z => (by cases z), fun z => ?_⟩ k05))⟩
    match o1, z with
    | some kvs, z =>
      rw [bad_all z.2.2.2.1 z.2.2.1] at eb
      cases eb
  | none =>
  obtain ⟨g1, g2⟩ := badAt_none T [] 0 eb
  refine ⟨_, rfl, iteF ?_⟩
  refine ⟨_, rfl, _, rfl, _, rfl, _, rfl, x, kn, arcs, A0, ks, e, v1, rfl, hx.same k05, nok, ka.same k05, he, ?_⟩
  cases h1' with
  | no h2 => exact .inl ⟨h2.same k05, fun H6 k6 => ⟨_, rfl, iteT (hq H6 false ⟨fun z => (by cases z), fun z => z.elim⟩ (k05.trans k6))⟩⟩
  | @dict d kvs pd =>
  refine .inr ⟨d, kvs, rfl, pd.same k05, fun H6 b hb6 k6 => ⟨b, rfl, ?_⟩⟩
  have k06 := k05.trans k6
  cases b with
  | false => exact iteT (hq H6 false ⟨fun z => (by cases z), fun z => by cases hb6.mpr z.2.2.2.2.1⟩ k06)
  | true =>
  have lvl := hb6.mp rfl
  refine iteF ?_
  refine ⟨_, rfl, x, dx, _, rfl, k06 _ _ h1, rfl, x, arcs, A0, rfl, hx.same k06, by omega, fun H7 D nD at7 k7 => ?_⟩
  have k07 := k06.trans k7
  obtain ⟨es0, t0, oD, ev0, _, ot0⟩ := arc_at at7 he
  refine ⟨_, rfl, D, _, rfl, .inl ⟨es0, Sum.inr e.1, .inl oD, rfl, ev0.symm⟩, .inr (.inl ⟨t0, _, _, _, rfl, rfl, SqT.of ot0, rfl, ?_⟩)⟩
  have lenT : LenV K (.ref b) H7 T.length := by
    rcases h0.same k07 with y | y
    · exact .inl ⟨_, SqL.of y, (List.length_map _).symm⟩
    · exact .inr ⟨_, SqT.of y, (List.length_map _).symm⟩
  have dg : DGet H7 d (.str e.2.1) (some (.int (lvV kvs e.2.1))) := by
    have := DGet.k (k := Sum.inr e.2.1) (pd.same k07).o
    rw [lv_val lvl.1 lvl.2.1 (nodesL_end he).1] at this
    exact this
  refine ⟨_, rfl, .ref b, T.length, rfl, lenT, _, rfl, _, rfl, d, _, rfl, dg, ?_⟩
  refine ⟨fun v H' => v = .int (inW ks e.1) ∧ H' = H7, ?_, ?_⟩
  · refine ⟨_, rfl, _, rfl, kn, _, rfl, seqOr (ka.same k07).o, rfl, flat_strs _, _, rfl, ?_⟩
    rw [inV_strs]
    unfold inW
    by_cases c : e.1 ∈ ks
    · rw [decide_eq_true c, if_pos c]
      exact iteT ⟨rfl, rfl⟩
    · rw [decide_eq_false c, if_neg c]
      exact iteF ⟨rfl, rfl⟩
  rintro v8 H8 ⟨e8, e9⟩
  rw [e8, e9]
  refine ⟨_, _, rfl, rfl, rfl, _, rfl, ?_⟩
  have en : decide (V.int (T.length : Nat) = V.int (lvV kvs e.2.1 + inW ks e.1)) = decide ((T.length : Int) = lvV kvs e.2.1 + inW ks e.1) := decide_eq_decide.mpr ⟨fun h => V.int.inj h, fun h => by rw [h]⟩
  rw [en]
  by_cases len : (T.length : Int) = lvV kvs e.2.1 + inW ks e.1
  case neg =>
    rw [decide_eq_false len]
    exact iteT (hq H7 false ⟨fun z => (by cases z), fun z => absurd z.2.2.2.2.2.1 len⟩ k07)
  rw [decide_eq_true len]
  refine iteF ?_
  refine ⟨_, rfl, x, dx, _, rfl, k07 _ _ h1, rfl, _, rfl, kn, rfl, ⟨_, SqL.of (k07 _ _ okn)⟩, ?_⟩
  refine lc_selN (fun n => decide (n ∉ T)) (k07 _ _ okn) (by omega) (fun _ => rfl) (fun _ => rfl) (fun n H9 T9 _ s9 go => ?_) fun H9 q9 n9 o9 s9 => ?_
  · refine ⟨_, rfl, _, rfl, b, _, rfl, seqOr ((h0.same k07).same s9), rfl, flat_strs T, _, rfl, ?_⟩
    have z := go H9 (Same.refl _)
    rw [inV_strs]
    have e : (if true = true then !decide (n ∈ T) else decide (n ∈ T)) = decide (n ∉ T) := by
      rw [if_pos rfl]
      by_cases c : n ∈ T
      · rw [decide_eq_true c, decide_eq_false (fun h => h c)]; rfl
      · rw [decide_eq_false c, decide_eq_true c]; rfl
    rw [e]
    exact z
  · have k09 := k07.trans s9
    refine ⟨_, rfl, x, q9, arcs, A0, lessN ks T, e, rfl, hx.same k09, nok, ⟨.inl o9, fun n hn => ka.sub n (less_in.mp hn).1, ka.nd.filter _⟩, he, fun H10 b10 hb10 k10 => ?_⟩
    refine ⟨b10, rfl, hq H10 (!b10) ⟨fun z => ?_, fun z => ?_⟩ (k09.trans k10)⟩
    · have op : ¬ Told arcs (lessN ks T) e := fun y => by rw [hb10.mpr y] at z; cases z
      exact ⟨((open_iff nok.nd he).mp op).2.1, told, g2, fun t ht => (g1 t ht).1, lvl, len, op⟩
    · cases b10 with
      | false => rfl
      | true => exact absurd (hb10.mp rfl) z.2.2.2.2.2.2
end
end L2.TB
/-! dicts whose keys are of several kinds: found, read, stored -/
namespace L2.MK
open PySem PySem.Spec PyProof.Rows SeqAt
/-- the entries' keys -/
structure Ents (w : World) (h : Heap) (es : Array DictEntry) (ks : List NestedKey) : Prop where
  len : es.size = ks.length
  is_ : ∀ (i : Nat) (e : DictEntry) (k : NestedKey), es[i]? = some e → ks[i]? = some k → NestedIs h k e.key ∧ e.hash = k.hash w
  nd : ks.Nodup
  dp : ∀ k ∈ ks, k.depth ≤ 8
section
variable {prog : Program} {w : World} {A : Around} {E : Value → Shared → Prop} {s : Shared} {d : Addr} {o : Obj} {es : Array DictEntry} {ep : Nat} {ks : List NestedKey} {k : NestedKey} {key : Value}
theorem Ents.keyAt (he : Ents w s.heap es ks) {i : Nat} {e : DictEntry} (h : es[i]? = some e) : ∃ k, ks[i]? = some k ∧ NestedIs s.heap k e.key ∧ e.hash = k.hash w ∧ k.depth ≤ 8 := by
  have lt : i < ks.length := by rw [← he.len]; exact (Array.getElem?_eq_some_iff.mp h).1
  obtain ⟨a, b⟩ := he.is_ i e ks[i] h (List.getElem?_eq_getElem lt)
  exact ⟨_, List.getElem?_eq_getElem lt, a, b, he.dp _ (List.getElem_mem lt)⟩
theorem Ents.ent (he : Ents w s.heap es ks) {i : Nat} (h : ks[i]? = some k) : ∃ e, es[i]? = some e ∧ NestedIs s.heap k e.key ∧ e.hash = k.hash w := by
  have lt : i < es.size := by rw [he.len]; exact (List.getElem?_eq_some_iff.mp h).1
  obtain ⟨a, b⟩ := he.is_ i es[i] k (Array.getElem?_eq_getElem lt) h
  exact ⟨_, Array.getElem?_eq_getElem lt, a, b⟩
/-- a stored key asked whether it is key -/
theorem eq_key (hu : A.units + 8 < cLine) {x y : NestedKey} {u v : Value} {Q : Bool → Shared → Prop} (hx : NestedIs s.heap x u) (hy : NestedIs s.heap y v) (dx : x.depth ≤ 8) (h : Q (decide (x = y)) s) : wpAny (model prog w) A (eqBool u v) Q E s := by
  rw [NestedKey.decide_eq] at h
  exact eqAt_key x y A s u v hx hy (by omega) prog w E Q h
theorem nk_tell {stored : List Value} {Q : Bool → Shared → Prop} (hk : NestedIs s.heap k key) (hd8 : k.depth ≤ 8) (hst : ∀ v ∈ stored, ∃ k' : NestedKey, NestedIs s.heap k' v ∧ k'.depth ≤ 8) (h : Q false s) : wpAny (model prog w) A (tableMayTell key stored) Q E s := by
  unfold tableMayTell
  by_cases h0 : stored.isEmpty = true
  · rw [if_pos h0]; exact wpAny_pure h
  rw [if_neg h0]
  refine wpAny_bind (quiet_key k key 8 s hk hd8 A E _ ?_)
  rw [if_neg (by decide)]
  refine wpAny_bind (wpAny_forIn_list _ (fun rest r s' => s' = s ∧ r = (none, ()) ∧ ∀ v ∈ rest, ∃ k' : NestedKey, NestedIs s.heap k' v ∧ k'.depth ≤ 8) _ ?_ ?_ _ _ ⟨rfl, rfl, hst⟩)
  · rintro x rest r s' ⟨rfl, rfl, al⟩
    obtain ⟨k', hx, hd⟩ := al x (by simp)
    refine wpAny_bind (quiet_key k' x 8 s' hx hd A E _ ?_)
    rw [if_neg (by decide)]
    exact wpAny_pure ⟨rfl, rfl, fun v hv => al v (List.mem_cons_of_mem _ hv)⟩
  · rintro r s' ⟨rfl, rfl, _⟩
    exact wpAny_pure h
theorem places_mem {n : Nat} {f : Nat → Option Int} {h : Int} {i : Nat} : i ∈ placesWithHash n f h ↔ i < n ∧ f i = some h := by
  unfold placesWithHash
  rw [List.mem_filter, List.mem_range, beq_iff_eq]
theorem places_nodup {n : Nat} {f : Nat → Option Int} {h : Int} : (placesWithHash n f h).Nodup := List.Pairwise.filter _ List.nodup_range
/-- the general walk, behind the looks at the key -/
theorem fin_ {Q : Option Nat → Shared → Prop} (hu : A.units + 8 < cLine) (ho : s.heap.get? d = some o) (hd : o.data = .dict es ep) (he : Ents w s.heap es ks) (hk : NestedIs s.heap k key) (hd8 : k.depth ≤ 8) (hnone : k ∉ ks → Q none s) (hsome : ∀ j, ks[j]? = some k → Q (some j) s)
    (pm : ∀ {i : Nat}, i ∈ placesWithHash es.size (fun i => es[i]?.map (·.hash)) (k.hash w) → ∃ e k', es[i]? = some e ∧ ks[i]? = some k' ∧ NestedIs s.heap k' e.key ∧ e.hash = k.hash w ∧ k'.depth ≤ 8)
    (mp : ∀ j : Nat, ks[j]? = some k → j ∈ placesWithHash es.size (fun i => es[i]?.map (·.hash)) (k.hash w)) (none_of : (∀ j : Nat, ks[j]? ≠ some k) → k ∉ ks) (one : ∀ {i j : Nat}, ks[i]? = some k → ks[j]? = some k → i = j)
    (all_st : ∀ v ∈ (placesWithHash es.size (fun i => es[i]?.map (·.hash)) (k.hash w)).filterMap (fun i => es[i]?.map (·.key)), ∃ k' : NestedKey, NestedIs s.heap k' v ∧ k'.depth ≤ 8) :
    wpAny (model prog w) A (do
      let tells ← if (placesWithHash es.size (fun i => es[i]?.map (·.hash)) (k.hash w)).filterMap (fun i => es[i]?.map (·.key)) == [key] then pure false else tableMayTell key ((placesWithHash es.size (fun i => es[i]?.map (·.hash)) (k.hash w)).filterMap (fun i => es[i]?.map (·.key)))
      if tells && ((placesWithHash es.size (fun i => es[i]?.map (·.hash)) (k.hash w)).filterMap (fun i => es[i]?.map (·.key))).length ≥ 2 then unsupported "dict.find:order-among-keys-of-one-hash"
      let mut hit : Option Nat := none
      for i in placesWithHash es.size (fun i => es[i]?.map (·.hash)) (k.hash w) do
        if let some e := es[i]? then
          if e.hash == k.hash w then
            let before ← dictEpoch d (keyPart key)
            let same ← eqBool e.key key
            if (← dictEpoch d (keyPart key)) != before then unsupported "dict.changed-during-lookup"
            if same then
              if hit.isSome then unsupported "dict.find:order-among-keys-of-one-hash"
              rule "dict.find.hit"
              if ((placesWithHash es.size (fun i => es[i]?.map (·.hash)) (k.hash w)).filterMap (fun i => es[i]?.map (·.key))).length < 2 then return some i
              hit := some i
            else
              rule "dict.find.same-hash-other-key"
              if tells && !(0 ≤ k.hash w && k.hash w < 32) then unsupported "dict.find:asked-again-or-not-hangs-on-the-table"
      return hit : Sem (Option Nat)) Q E s := by
  by_cases hone : ((placesWithHash es.size (fun i => es[i]?.map (·.hash)) (k.hash w)).filterMap (fun i => es[i]?.map (·.key)) == [key]) = true <;>
  (dsimp only; first | rw [if_pos hone] | rw [if_neg hone]) <;> (first | refine wpAny_bind (wpAny_pure ?_) | refine wpAny_bind (nk_tell hk hd8 all_st ?_)) <;> (
    try dsimp only
    rw [if_neg (by simp)]
    refine wpAny_bind (wpAny_forIn_list _ (fun rest b s' => s' = s ∧ ∃ hit, b = (none, hit) ∧ rest.Nodup ∧ (∀ i ∈ rest, i ∈ placesWithHash es.size (fun i => es[i]?.map (·.hash)) (k.hash w)) ∧
      ((hit = none ∧ ∀ j, ks[j]? = some k → j ∈ rest) ∨ ∃ j, hit = some j ∧ ks[j]? = some k ∧ j ∉ rest)) _ ?_ ?_ _ _ ⟨rfl, none, rfl, places_nodup, fun _ h => h, .inl ⟨rfl, mp⟩⟩)
    · rintro x rest b s' ⟨rfl, hit, rfl, nd, sub, hH⟩
      obtain ⟨e, k', ee, ek, hx, eh, dk⟩ := pm (sub x (by simp))
      rw [List.nodup_cons] at nd
      have sub' : ∀ i ∈ rest, i ∈ placesWithHash es.size (fun i => es[i]?.map (·.hash)) (k.hash w) := fun i hi => sub i (List.mem_cons_of_mem _ hi)
      rw [ee]
      dsimp only
      rw [if_pos (by rw [eh]; exact beq_self_eq_true _)]
      refine wpAny_bind (wpAny_dictEpoch ho hd (wpAny_bind (eq_key hu hx hk dk (wpAny_bind (wpAny_dictEpoch ho hd ?_)))))
      show wpAny _ _ (if (ep != ep) = true then _ else _) _ E _
      rw [if_neg (by simp)]
      by_cases hkk : k' = k
      · subst hkk
        rw [decide_eq_true rfl]
        rcases hH with ⟨rfl, al⟩ | ⟨j, rfl, hj, nj⟩
        · rw [if_pos rfl, if_neg (by simp)]
          refine wpAny_bind (wpAny_rule ?_)
          split
          · exact wpAny_pure (wpAny_pure (hsome x ek))
          · exact wpAny_pure ⟨rfl, some x, rfl, nd.2, sub', .inr ⟨x, rfl, ek, nd.1⟩⟩
        · exact absurd (by rw [one hj ek]; simp) nj
      · rw [decide_eq_false hkk, if_neg (by simp)]
        refine wpAny_bind (wpAny_rule ?_)
        rw [if_neg (by simp)]
        refine wpAny_pure ⟨rfl, hit, rfl, nd.2, sub', ?_⟩
        rcases hH with ⟨rfl, al⟩ | ⟨j, rfl, hj, nj⟩
        · refine .inl ⟨rfl, fun j hj => ?_⟩
          rcases List.mem_cons.mp (al j hj) with z | z
          · rw [z, ek] at hj; exact absurd (Option.some.inj hj) hkk
          · exact z
        · exact .inr ⟨j, rfl, hj, fun z => nj (List.mem_cons_of_mem _ z)⟩
    · rintro b s' ⟨rfl, hit, rfl, _, _, hH⟩
      rcases hH with ⟨rfl, al⟩ | ⟨j, rfl, hj, _⟩
      · exact wpAny_pure (hnone (none_of fun j hj => by cases al j hj))
      · exact wpAny_pure (hsome j hj))
/-- key is looked for -/
theorem nk_find {Q : Option Nat → Shared → Prop} (hu : A.units + 8 < cLine) (hk : NestedIs s.heap k key) (hd8 : k.depth ≤ 8) (ho : s.heap.get? d = some o) (hd : o.data = .dict es ep) (he : Ents w s.heap es ks) (hnone : k ∉ ks → Q none s) (hsome : ∀ j, ks[j]? = some k → Q (some j) s) :
    wpAny (model prog w) A (dictFind d key (k.hash w)) Q E s := by
  have pm : ∀ {i : Nat}, i ∈ placesWithHash es.size (fun i => es[i]?.map (·.hash)) (k.hash w) → ∃ e k', es[i]? = some e ∧ ks[i]? = some k' ∧ NestedIs s.heap k' e.key ∧ e.hash = k.hash w ∧ k'.depth ≤ 8 := fun {i} hi => by
    obtain ⟨lt, eq⟩ := places_mem.mp hi
    obtain ⟨e, ee, eh⟩ := Option.map_eq_some_iff.mp eq
    obtain ⟨k', a, b, c, d⟩ := he.keyAt ee
    exact ⟨e, k', ee, a, b, eh, d⟩
  have mp : ∀ j, ks[j]? = some k → j ∈ placesWithHash es.size (fun i => es[i]?.map (·.hash)) (k.hash w) := fun j hj => by
    obtain ⟨e, ee, _, eh⟩ := he.ent hj
    exact places_mem.mpr ⟨(Array.getElem?_eq_some_iff.mp ee).1, by rw [ee, Option.map_some, eh]⟩
  have one : ∀ {i j : Nat}, ks[i]? = some k → ks[j]? = some k → i = j := fun {i j} a b => (List.getElem?_inj (List.getElem?_eq_some_iff.mp a).1 he.nd).mp (a.trans b.symm)
  have none_of : (∀ j, ks[j]? ≠ some k) → k ∉ ks := fun h m => by
    obtain ⟨j, hj⟩ := List.mem_iff_getElem?.mp m
    exact h j hj
  have plain : wpAny (model prog w) A (dictWalkPlain d key (k.hash w) es (placesWithHash es.size (fun i => es[i]?.map (·.hash)) (k.hash w))) Q E s := by
    unfold dictWalkPlain
    refine wpAny_bind (wpAny_forIn_list _ (fun rest b s' => s' = s ∧ b = (none, ()) ∧ (∀ i ∈ rest, i ∈ placesWithHash es.size (fun i => es[i]?.map (·.hash)) (k.hash w)) ∧ ∀ j, ks[j]? = some k → j ∈ rest) _ ?_ ?_ _ _ ⟨rfl, rfl, fun _ h => h, mp⟩)
    · rintro x rest b s' ⟨rfl, rfl, sub, al⟩
      obtain ⟨e, k', ee, ek, hx, eh, dk⟩ := pm (sub x (by simp))
      rw [ee]
      dsimp only
      rw [if_pos (by rw [eh]; exact beq_self_eq_true _)]
      refine wpAny_bind (wpAny_dictEpoch ho hd (wpAny_bind (eq_key hu hx hk dk (wpAny_bind (wpAny_dictEpoch ho hd ?_)))))
      show wpAny _ _ (if (ep != ep) = true then _ else _) _ E _
      rw [if_neg (by simp)]
      by_cases hkk : k' = k
      · subst hkk
        rw [decide_eq_true rfl]
        exact wpAny_bind (wpAny_rule (wpAny_pure (wpAny_pure (hsome x ek))))
      · rw [decide_eq_false hkk]
        refine wpAny_bind (wpAny_rule (wpAny_pure ⟨rfl, rfl, fun i hi => sub i (List.mem_cons_of_mem _ hi), fun j hj => ?_⟩))
        rcases List.mem_cons.mp (al j hj) with z | z
        · rw [z, ek] at hj; exact absurd (Option.some.inj hj) hkk
        · exact z
    · rintro b s' ⟨rfl, rfl, _, al⟩
      exact wpAny_pure (hnone (none_of fun j hj => by cases al j hj))
  have all_st : ∀ v ∈ (placesWithHash es.size (fun i => es[i]?.map (·.hash)) (k.hash w)).filterMap (fun i => es[i]?.map (·.key)), ∃ k' : NestedKey, NestedIs s.heap k' v ∧ k'.depth ≤ 8 := fun v hv => by
    obtain ⟨i, hi, ev⟩ := List.mem_filterMap.mp hv
    obtain ⟨e, k', ee, _, hx, _, dk⟩ := pm hi
    rw [ee] at ev
    obtain rfl : e.key = v := by simpa using ev
    exact ⟨k', hx, dk⟩
  have keys_in : ∀ e ∈ es, ∃ k' : NestedKey, NestedIs s.heap k' e.key ∧ e.hash = k'.hash w := fun e hm => by
    obtain ⟨i, hi, rfl⟩ := Array.mem_iff_getElem.mp hm
    obtain ⟨k', _, a, b, _⟩ := he.keyAt (Array.getElem?_eq_getElem hi)
    exact ⟨k', a, b⟩
  unfold dictFind
  try with_reducible refine wpAny_holding ?_
  refine wpAny_bind (wpAny_dictEntries ho hd ?_)
  dsimp only
  by_cases hall : ((key :: (placesWithHash es.size (fun i => es[i]?.map (·.hash)) (k.hash w)).filterMap (fun i => es[i]?.map (·.key))).all carriedByValue) = true
  · rw [if_pos hall]
    split
    next x t =>
      split
      next hs =>
        cases hk with
        | text x t =>
          unfold foundByValue
          cases hf : es.findIdx? (fun e => e.key.isStr x) with
          | none =>
            refine wpAny_pure (hnone (none_of fun j hj => ?_))
            obtain ⟨e, ee, ke, _⟩ := he.ent hj
            have z := Array.findIdx?_eq_none_iff.mp hf e (Array.mem_of_getElem? ee)
            generalize e.key = u at ke z
            cases ke
            simp [Value.isStr] at z
          | some i =>
            obtain ⟨lt, yes, _⟩ := Array.findIdx?_eq_some_iff_getElem.mp hf
            obtain ⟨k', ek, hx, _, dk⟩ := he.keyAt (Array.getElem?_eq_getElem lt)
            have e2 : k' = .text x := by
              generalize es[i].key = u at yes hx
              cases hx with
              | text y t2 => simp [Value.isStr] at yes; rw [yes]
              | none => cases yes
              | bool _ => cases yes
              | int _ _ => cases yes
              | tup _ _ _ _ => cases yes
            subst e2
            simp only [Array.getElem?_eq_getElem lt]
            refine wpAny_bind (wpAny_dictEpoch ho hd (wpAny_bind (eq_key hu hx (.text x t) dk (wpAny_bind (wpAny_dictEpoch ho hd ?_)))))
            show wpAny _ _ (if (ep != ep) = true then _ else _) _ E _
            rw [if_neg (by simp), decide_eq_true rfl]
            exact wpAny_bind (wpAny_rule (wpAny_pure (hsome i ek)))
      next => exact plain
    next => exact plain
  · rw [if_neg hall]
    have hk' := hk
    have hany : ¬ (es.any fun e => e.key == key && e.hash != k.hash w) = true := fun z => by
      obtain ⟨i, hi, q⟩ := Array.any_eq_true.mp z
      obtain ⟨k', a, b⟩ := keys_in es[i] (Array.getElem_mem hi)
      rw [Bool.and_eq_true, beq_iff_eq, bne_iff_ne] at q
      rw [q.1] at a
      exact q.2 (by rw [b, NestedIs.inj _ _ _ a hk])
    cases hk
    case text x t =>
      dsimp only
      rw [if_neg (fun hs => hall (by
        rw [List.all_cons, Bool.and_eq_true]
        refine ⟨rfl, List.all_eq_true.mpr fun v hv => ?_⟩
        obtain ⟨i, hi, ev⟩ := List.mem_filterMap.mp hv
        obtain ⟨e, k', ee, _, hx, _, dk⟩ := pm hi
        rw [ee] at ev
        obtain rfl : e.key = v := by simpa using ev
        have z := Array.all_eq_true_iff_forall_mem.mp hs e (Array.mem_of_getElem? ee)
        generalize e.key = u at z
        cases u <;> first | rfl | cases z))]
      exact fin_ hu ho hd he hk' hd8 hnone hsome pm mp none_of one all_st
    case tup h1 h2 h3 h4 =>
      dsimp only
      rw [if_neg hany]
      exact fin_ hu ho hd he hk' hd8 hnone hsome pm mp none_of one all_st
    all_goals (dsimp only; exact fin_ hu ho hd he hk' hd8 hnone hsome pm mp none_of one all_st)
end
end L2.MK
/-! dicts whose keys are of several kinds: got, stored anew, displayed -/
namespace L2.MK
open PySem PySem.Spec PyProof.Rows SeqAt
section
variable {prog : Program} {w : World} {A : Around} {E : Value → Shared → Prop} {s : Shared} {d : Addr} {o : Obj} {es : Array DictEntry} {ep : Nat} {ks : List NestedKey} {k : NestedKey} {key : Value}
theorem nk_get {Q : Option Value → Shared → Prop} (hu : A.units + 8 < cLine) (hk : NestedIs s.heap k key) (hd8 : k.depth ≤ 8) (ho : s.heap.get? d = some o) (hd : o.data = .dict es ep) (he : Ents w s.heap es ks)
    (hnone : k ∉ ks → Q none { s with toks := s.toks + k.draws }) (hsome : ∀ (j : Nat) (e : DictEntry), ks[j]? = some k → es[j]? = some e → Q (some e.val) { s with toks := s.toks + k.draws }) : wpAny (model prog w) A (dictGet d key) Q E s := by
  unfold dictGet
  try with_reducible refine wpAny_holding ?_
  refine wpAny_bind (pyHash_key k key A s _ hk (by omega) ?_)
  refine wpAny_bind (nk_find (s := { s with toks := s.toks + k.draws }) hu hk hd8 ho hd he (fun h => wpAny_pure (hnone h)) fun j hj => ?_)
  obtain ⟨e, ee, _⟩ := he.ent hj
  refine wpAny_bind (wpAny_dictEntries (s := { s with toks := s.toks + k.draws }) ho hd ?_)
  rw [ee]
  exact wpAny_pure (hsome j e hj ee)
/-- the dict at d in h has these entries -/
def DictIs (h : Heap) (d : Addr) (es : Array DictEntry) : Prop := ∃ o ep, h.get? d = some o ∧ o.ExactDict ∧ o.data = .dict es ep
theorem nested_but {h h' : Heap} (hd : DictIs h d es) (hs : Heap.SameBut d h h') {v : Value} (x : NestedIs h k v) : NestedIs h' k v := NestedIs.at (fun a o vs n e q => by
  rw [hs.2 a (fun z => by
    subst z
    obtain ⟨o2, ep, e2, _, q2⟩ := hd
    rw [e] at e2
    cases e2
    rw [q] at q2
    cases q2)]
  exact e) k v x
theorem ents_but {h h' : Heap} {es0 : Array DictEntry} (hd : DictIs h d es0) (hs : Heap.SameBut d h h') (x : Ents w h es ks) : Ents w h' es ks := ⟨x.len, fun i e k a b => ⟨nested_but hd hs (x.is_ i e k a b).1, (x.is_ i e k a b).2⟩, x.nd, x.dp⟩
theorem nk_setNew {v : Value} {Q : Unit → Shared → Prop} (hu : A.units + 8 < cLine) (hk : NestedIs s.heap k key) (hd8 : k.depth ≤ 8) (hd : DictIs s.heap d es) (he : Ents w s.heap es ks) (hn : k ∉ ks) (hz : es.size ≤ sizeLine)
    (hQ : ∀ h', DictIs h' d (es.push ⟨k.hash w, key, v⟩) → Heap.SameBut d s.heap h' → Q () { s with heap := h', toks := s.toks + k.draws }) : wpAny (model prog w) A (dictSet d key v) Q E s := by
  obtain ⟨o, ep, ho, hc, hdt⟩ := hd
  unfold dictSet
  try with_reducible refine wpAny_holding ?_
  refine wpAny_bind (pyHash_key k key A s _ hk (by omega) ?_)
  unfold dictSetHashed
  try with_reducible refine wpAny_holding ?_
  refine wpAny_bind (nk_find (s := { s with toks := s.toks + k.draws }) hu hk hd8 ho hdt he (fun _ => ?_) fun j hj => absurd (List.mem_of_getElem? hj) hn)
  exact wpAny_bind (wpAny_rule (wpAny_updateDictKeys (hz := hz) (s := { s with toks := s.toks + k.draws }) ho hdt (hQ _ ⟨_, ep + 1, Heap.get?_update_self _ ho (Obj.isFreed_of_dict (Obj.data_mapDictKeys hdt _)), hc.mapDictKeys _, Obj.data_mapDictKeys hdt _⟩ (Heap.SameBut.update ..))))
theorem Ents.push {h : Heap} (he : Ents w h es ks) {v : Value} (hk : NestedIs h k key) (hd8 : k.depth ≤ 8) (hn : k ∉ ks) : Ents w h (es.push ⟨k.hash w, key, v⟩) (ks ++ [k]) := by
  refine ⟨by rw [Array.size_push, List.length_append, he.len]; rfl, fun i e k' a b => ?_, ?_, fun x hx => ?_⟩
  · by_cases hi : i < es.size
    · rw [Array.getElem?_push_lt hi] at a
      rw [List.getElem?_append_left (by rw [← he.len]; exact hi)] at b
      exact he.is_ i e k' (by rw [Array.getElem?_eq_getElem hi]; exact a) b
    · have l1 := (Array.getElem?_eq_some_iff.mp a).1
      rw [Array.size_push] at l1
      have e1 : i = es.size := by omega
      subst e1
      rw [Array.getElem?_push_size] at a
      rw [he.len, List.getElem?_append_right (Nat.le_refl _), Nat.sub_self] at b
      obtain rfl := Option.some.inj a
      obtain rfl := Option.some.inj b
      exact ⟨hk, rfl⟩
  · rw [List.nodup_append]
    exact ⟨he.nd, by simp, fun x hx y hy => by
      rw [List.mem_singleton] at hy
      subst hy
      exact fun z => hn (z ▸ hx)⟩
  · rcases List.mem_append.mp hx with hx | hx
    · exact he.dp x hx
    · rw [List.mem_singleton] at hx; rw [hx]; exact hd8
/-- new keys, one after the other -/
theorem nk_storeAll (hu : A.units + 8 < cLine) : ∀ (vs : List (Value × Value)) (rest acc : List NestedKey) (es : Array DictEntry) (s : Shared) (Q : PUnit → Shared → Prop), DictIs s.heap d es → Ents w s.heap es acc → rest.length = vs.length →
    (∀ (i : Nat) (k : NestedKey) (p : Value × Value), rest[i]? = some k → vs[i]? = some p → NestedIs s.heap k p.1) → (acc ++ rest).Nodup → (∀ k ∈ rest, k.depth ≤ 8) → es.size + vs.length ≤ sizeLine →
    (∀ (h' : Heap) (es' : Array DictEntry) (t : Nat), DictIs h' d es' → es'.toList = es.toList ++ List.zipWith (fun (k : NestedKey) (p : Value × Value) => ⟨k.hash w, p.1, p.2⟩) rest vs → Heap.SameBut d s.heap h' → Q PUnit.unit { s with heap := h', toks := t }) →
    wpAny (model prog w) A (forIn vs PUnit.unit fun (x : Value × Value) (_ : PUnit) => (do dictSet d x.1 x.2; pure (ForInStep.yield PUnit.unit) : Sem (ForInStep PUnit))) Q E s
  | [], rest, acc, es, s, Q, hd, he, hl, _, _, _, _, hQ => by
    rw [List.forIn_nil]
    have e : rest = [] := List.length_eq_zero_iff.mp hl
    subst e
    exact wpAny_pure (hQ s.heap es s.toks hd (by simp) (Heap.SameBut.refl _ _))
  | (key, v) :: vs, [], acc, es, s, Q, hd, he, hl, _, _, _, _, hQ => by simp at hl
  | (key, v) :: vs, k :: rest, acc, es, s, Q, hd, he, hl, al, nd, dp, hz, hQ => by
    rw [List.length_cons] at hz
    have hk : NestedIs s.heap k key := al 0 k (key, v) rfl rfl
    have hn : k ∉ acc := fun m => by
      rw [List.nodup_append] at nd
      exact nd.2.2 k m k (by simp) rfl
    rw [List.forIn_cons]
    refine wpAny_bind (wpAny_bind (nk_setNew hu hk (dp k (by simp)) hd he hn (by omega) fun h1 hd1 hs1 => wpAny_pure ?_))
    have he1 := (ents_but hd hs1 he).push (v := v) (nested_but hd hs1 hk) (dp k (by simp)) hn
    refine nk_storeAll hu vs rest (acc ++ [k]) _ _ Q hd1 he1 (by simpa using hl) (fun i k' p a b => nested_but hd hs1 (al (i + 1) k' p (by simpa using a) (by simpa using b))) (by simpa using nd) (fun x hx => dp x (by simp [hx])) (by rw [Array.size_push]; omega) fun h' es' t hd' e' hs' => ?_
    exact hQ h' es' t hd' (by rw [e']; simp) (hs1.trans hs')
/-- {k: v, ..} -/
theorem nk_display {env : Env} {keys : List (Option Expr)} {values : List Expr} {pos : Pos} {Q : Value → Shared → Prop} (hu : A.units + 8 < cLine) (hall : keys.all (·.isSome) = true) (hl : keys.length = values.length) (h0 : keys ≠ []) (hlen : keys.length ≤ 15)
    (h : wpAny (model prog w) A (evalPairs (pairTrees keys values env pos)) (fun vs s1 => ∃ rest : List NestedKey, DictIs s1.heap s.heap.objs.size #[] ∧ rest.length = vs.length ∧ vs.length ≤ 15 ∧ (∀ (i : Nat) (k : NestedKey) (p : Value × Value), rest[i]? = some k → vs[i]? = some p → NestedIs s1.heap k p.1) ∧ rest.Nodup ∧ (∀ k ∈ rest, k.depth ≤ 8) ∧
      ∀ (h' : Heap) (es' : Array DictEntry) (t : Nat), DictIs h' s.heap.objs.size es' → es'.toList = List.zipWith (fun (k : NestedKey) (p : Value × Value) => ⟨k.hash w, p.1, p.2⟩) rest vs → Heap.SameBut s.heap.objs.size s1.heap h' → Q (.ref s.heap.objs.size) { s1 with heap := h', toks := t }) E
      { s with heap := s.heap.push { cls := .type "dict", data := .dict #[] } }) : wpAny (model prog w) A (eval (.Dict keys values pos) env) Q E s := by
  have hn := pairTrees_length keys values env pos hall hl
  rw [arm_eval_Dict, zip_pairTrees keys values env pos hall hl, dictDisplay_pairs (pairTrees keys values env pos) (fun he => by
    rw [he] at hn
    exact h0 (List.length_eq_zero_iff.mp hn.symm)) (by omega)]
  refine wpAny_bind (wpAny_standAt (wpAny_bind ?_))
  unfold subDict
  refine wpAny_bind (wpAny_alloc ?_)
  refine wpAny_bind (wpAny_holding ?_)
  rw [if_pos (by omega)]
  refine wpAny_bind (wpAny_mono h (fun vs s1 hh => ?_) fun _ _ e => e)
  obtain ⟨rest, hd, hrl, h15, al, nd, dp, hQ⟩ := hh
  refine wpAny_holding ?_
  refine wpAny_bind (nk_storeAll hu vs rest [] #[] s1 _ hd ⟨rfl, fun i e k a _ => by simp at a, List.nodup_nil, fun _ z => by cases z⟩ hrl al (by simpa using nd) dp (by rw [sizeLine_eq]; simp; omega) fun h' es' t hd' e' hs' => wpAny_pure (wpAny_pure (wpAny_pure (hQ h' es' t hd' (by simpa using e') hs'))))
end
end L2.MK
/-! dicts whose keys are of several kinds, as objects of the layer -/
namespace L2.MK
open PySem PySem.Spec PyProof.Rows SeqAt
/-- a key as a value -/
inductive KeyH (H : Hp) : NestedKey → V → Prop
  | non : KeyH H .none .non
  | bl (b : Bool) : KeyH H (.num (if b = true then 1 else 0)) (.bl b)
  | int (i : Int) : KeyH H (.num i) (.int i)
  | str (x : Str) : KeyH H (.text x) (.str x)
  | tup {a : Addr} {vs : List V} {ks : List NestedKey} (h : H a = some (.tup vs)) (len : vs.length = ks.length) (al : ∀ (i : Nat) (v : V) (k : NestedKey), vs[i]? = some v → ks[i]? = some k → KeyH H k v) : KeyH H (.tup ks) (.ref a)
theorem KeyH.mono {H H' : Hp} {k : NestedKey} {v : V} (x : KeyH H k v) (s : ∀ a vs, H a = some (.tup vs) → H' a = some (.tup vs)) : KeyH H' k v := by
  induction x with
  | non => exact .non
  | bl b => exact .bl b
  | int i => exact .int i
  | str x => exact .str x
  | tup h len _ ih => exact .tup (s _ _ h) len ih
theorem all_is {h : Heap} : ∀ {vs : List V} {its : List Value} {ks : List NestedKey}, Vals vs its → vs.length = ks.length → (∀ (i : Nat) (v : V) (k : NestedKey), vs[i]? = some v → ks[i]? = some k → ∀ u, RelV v u → NestedIs h k u) → NestedAll h ks its
  | _, _, [], .nil, _, _ => .nil
  | _, _, k :: ks, .cons r t, l, al => .cons (al 0 _ k rfl rfl _ r) (all_is t (by simpa using l) fun i v k a b => al (i + 1) v k (by simpa using a) (by simpa using b))
  | _, _, [], .cons _ _, l, _ => by simp at l
  | _, _, _ :: _, .nil, l, _ => by simp at l
theorem KeyH.is {P : Program} {w : World} {H : Hp} {h : Heap} {k : NestedKey} {v : V} (ok : HOk P w H h) (x : KeyH H k v) : ∀ {u : Value}, RelV v u → NestedIs h k u := by
  induction x with
  | non => intro u r; cases (show u = Value.none from r); exact .none
  | bl b => intro u r; cases (show u = Value.bool b from r); exact .bool rfl
  | int i => intro u r; obtain ⟨t, rfl⟩ := r; exact .int i t
  | str x => intro u r; obtain ⟨t, rfl⟩ := r; exact .text x t
  | @tup a vs ks e len _ ih =>
    intro u r
    cases (show u = Value.ref a from r)
    obtain ⟨_, its, rv, o, ho, hc, n, hd⟩ := ok a _ e
    exact .tup ho hc hd (by simpa using all_is rv len fun i v k a b u r => ih i v k a b r)
/-- the dict at d: keys ks as the values kvs.1, answers kvs.2 -/
def DX (w : World) (d : Addr) (ks : List NestedKey) (kvs : List (V × V)) : HO := .ext fun h => (d == sysModules) = false ∧ ks.length = kvs.length ∧ ks.length ≤ sizeLine ∧ ∃ es : Array DictEntry, DictIs h d es ∧ es.size = ks.length ∧
  ∀ (i : Nat) (e : DictEntry) (k : NestedKey) (p : V × V), es[i]? = some e → ks[i]? = some k → kvs[i]? = some p → e.hash = k.hash w ∧ RelV p.1 e.key ∧ RelV p.2 e.val
/-- the keys are so in H -/
structure MixK (H : Hp) (ks : List NestedKey) (kvs : List (V × V)) : Prop where
  is_ : ∀ (i : Nat) (k : NestedKey) (p : V × V), ks[i]? = some k → kvs[i]? = some p → KeyH H k p.1
  nd : ks.Nodup
  dp : ∀ k ∈ ks, k.depth ≤ 8
theorem MixK.mono {H H' : Hp} {ks : List NestedKey} {kvs : List (V × V)} (x : MixK H ks kvs) (s : ∀ a vs, H a = some (.tup vs) → H' a = some (.tup vs)) : MixK H' ks kvs := ⟨fun i k p a b => (x.is_ i k p a b).mono s, x.nd, x.dp⟩
theorem dx_rd {P : Program} {w : World} {H : Hp} {h : Heap} {d : Addr} {ks : List NestedKey} {kvs : List (V × V)} (ok : HOk P w H h) (e : Rd H d (DX w d ks kvs)) : (d == sysModules) = false ∧ ks.length = kvs.length ∧ ks.length ≤ sizeLine ∧ ∃ es : Array DictEntry, DictIs h d es ∧ es.size = ks.length ∧
    ∀ (i : Nat) (e : DictEntry) (k : NestedKey) (p : V × V), es[i]? = some e → ks[i]? = some k → kvs[i]? = some p → e.hash = k.hash w ∧ RelV p.1 e.key ∧ RelV p.2 e.val := (e.ok ok).1
theorem dx_ents {P : Program} {w : World} {H : Hp} {h : Heap} {ks : List NestedKey} {kvs : List (V × V)} {es : Array DictEntry} (ok : HOk P w H h) (m : MixK H ks kvs) (hl : ks.length = kvs.length) (hz : es.size = ks.length)
    (al : ∀ (i : Nat) (e : DictEntry) (k : NestedKey) (p : V × V), es[i]? = some e → ks[i]? = some k → kvs[i]? = some p → e.hash = k.hash w ∧ RelV p.1 e.key ∧ RelV p.2 e.val) : Ents w h es ks := by
  refine ⟨hz, fun i e k a b => ?_, m.nd, m.dp⟩
  have lt : i < kvs.length := by rw [← hl]; exact (List.getElem?_eq_some_iff.mp b).1
  obtain ⟨h1, h2, _⟩ := al i e k kvs[i] a b (List.getElem?_eq_getElem lt)
  exact ⟨(m.is_ i k _ b (List.getElem?_eq_getElem lt)).is ok h2, h1⟩
theorem dx_new {P : Program} {w : World} {H : Hp} {h : Heap} {d : Addr} {ks : List NestedKey} {kvs : List (V × V)} {es : Array DictEntry} (hd : (d == sysModules) = false) (hl : ks.length = kvs.length) (hle : ks.length ≤ sizeLine) (hi : DictIs h d es) (hz : es.size = ks.length)
    (al : ∀ (i : Nat) (e : DictEntry) (k : NestedKey) (p : V × V), es[i]? = some e → ks[i]? = some k → kvs[i]? = some p → e.hash = k.hash w ∧ RelV p.1 e.key ∧ RelV p.2 e.val) : ObjOk P w H h d (DX w d ks kvs) := by
  refine ⟨⟨hd, hl, hle, es, hi, hz, al⟩, ?_, ?_⟩
  · obtain ⟨o, _, e, _⟩ := hi
    exact ⟨o, e⟩
  · rintro h1 h2 ⟨a, b, c, es, ⟨o, ep, e, r⟩, q⟩ k
    exact ⟨a, b, c, es, ⟨o, ep, k o e, r⟩, q⟩
/-! ### the display -/
def tDispX (w : World) (trs : List (TE × TE)) : TE := fun σ H Q => ∀ p, H p = none → tPairs trs σ (upd H p (DX w p [] [])) fun ps H2 => H2 p = some (DX w p [] []) ∧ ∃ ks : List NestedKey, ks.length = ps.length ∧ MixK H2 ks ps ∧ Q (.ref p) (upd H2 p (DX w p ks ps))
theorem vv_at : ∀ {ps : List (V × V)} {ws : List (Value × Value)} {i : Nat} {q : Value × Value}, VV ps ws → ws[i]? = some q → ∃ p, ps[i]? = some p ∧ RelV p.1 q.1 ∧ RelV p.2 q.2
  | _, _, _, _, .nil, e => by simp at e
  | _, _, 0, q, .cons r _, e => by
    obtain rfl := Option.some.inj e
    exact ⟨_, rfl, r⟩
  | _, _, i + 1, q, .cons _ t, e => by
    obtain ⟨p, a, b⟩ := vv_at (i := i) t (by simpa using e)
    exact ⟨p, by simpa using a, b⟩
theorem pps_len {X : Cx} {pos : Pos} {trs : List (TE × TE)} : ∀ {σ : L2.St} {H : Hp} {Q : List (V × V) → Hp → Prop}, tPairs trs σ H Q → True := fun _ => trivial
theorem vv_len {ps : List (V × V)} {ws : List (Value × Value)} (r : VV ps ws) : ps.length = ws.length := Paired.length r
theorem pe_dispX {X : Cx} {pos : Pos} {keys : List (Option Expr)} {values : List Expr} {trs : List (TE × TE)} (hu : X.A.units + 8 < cLine) (h : PPs X pos keys values trs) (hall : keys.all (·.isSome) = true) (hl : keys.length = values.length) (h0 : keys ≠ [])
    (h15 : keys.length ≤ 15) : PE X (.Dict keys values pos) (tDispX X.w trs) := by
  refine ⟨fun pins s σ H Q I q => ?_⟩
  have hn := I.hok.fresh (Nat.le_refl s.heap.objs.size)
  have hbig : (s.heap.objs.size == sysModules) = false := beq_eq_false_iff_ne.mpr (Ne.symm (Nat.ne_of_lt I.big))
  have di : DictIs (s.heap.push { cls := .type "dict", data := .dict #[] }) s.heap.objs.size #[] := ⟨_, 0, Heap.get?_push_size _ rfl, ⟨rfl, rfl, rfl⟩, rfl⟩
  have I1 := I.laid (a := s.heap.objs.size) (o := DX X.w s.heap.objs.size [] []) (h' := s.heap.push { cls := .type "dict", data := .dict #[] }) (t' := s.toks) (fun _ _ q => Heap.get?_push_of_some _ q) (Nat.le_refl _) (dx_new hbig rfl (Nat.zero_le _) di rfl (fun i e k p a => by simp at a))
  have hn15 := pairTrees_length keys values X.env pos hall hl
  refine nk_display hu hall hl h0 h15 (thn (wpAny_evalPairs_len (h.run pins _ σ _ _ I1 (q _ hn))) fun ws s2 ⟨wl, ps, H2, I2, rel, e, ks, kl, m, q2⟩ => ?_)
  obtain ⟨_, _, _, es, hdi, hz, _⟩ := dx_rd I2.hok (.inl e)
  have e0 : es = #[] := Array.size_eq_zero_iff.mp hz
  subst e0
  have l2 := vv_len rel
  refine ⟨ks, hdi, by rw [kl, l2], by omega, fun i k p a b => ?_, m.nd, m.dp, fun h' es' t hd' e' hs => ⟨.ref s.heap.objs.size, _, ?_, rfl, q2⟩⟩
  · obtain ⟨p', a', r, _⟩ := vv_at rel b
    exact (m.is_ i k p' a a').is I2.hok r
  · have le : es'.size = ks.length := by
      have z := congrArg List.length e'
      rw [Array.length_toList, List.length_zipWith, kl, l2] at z
      omega
    have he : ∃ q, h'.get? s.heap.objs.size = some q := let ⟨o, _, z, _⟩ := hd'; ⟨o, z⟩
    refine d_write I2 (by rw [e]; exact True.intro) hs he (dx_new hbig kl (by rw [sizeLine_eq]; omega) hd' le fun i en k p a b c => ?_)
    have z : es'.toList[i]? = some en := by rw [Array.getElem?_toList]; exact a
    rw [e', List.getElem?_zipWith, b] at z
    cases ew : ws[i]? with
    | none => rw [ew] at z; cases z
    | some q' =>
      rw [ew] at z
      obtain rfl := Option.some.inj z
      obtain ⟨p', a', r1, r2⟩ := vv_at rel ew
      rw [c] at a'
      obtain rfl := Option.some.inj a'
      exact ⟨rfl, r1, r2⟩
/-! ### d[k] -/
def tDGetX (w : World) (td ty : TE) : TE := fun σ H Q => td σ H fun x H1 => ty σ H1 fun y H2 => ∃ (d : Addr) (ks : List NestedKey) (kvs : List (V × V)) (k : NestedKey) (j : Nat) (p : V × V), x = .ref d ∧ Rd H2 d (DX w d ks kvs) ∧ MixK H2 ks kvs ∧ KeyH H2 k y ∧ ks[j]? = some k ∧ kvs[j]? = some p ∧ Q p.2 H2
section
variable {X : Cx} {pins : List (Addr × Obj)} {σ : St} {H : Hp} {s : Shared} {A : Around} {E : Value → Shared → Prop} {d : Addr} {ks : List NestedKey} {kvs : List (V × V)} {o i : Expr} {td ty : TE} {pos : Pos}
theorem dx_type (I : Inv X pins σ H s) (e : Rd H d (DX X.w d ks kvs)) : s.TypeIs (.ref d) "dict" := by
  obtain ⟨_, _, _, es, ⟨o, _, z, q, _⟩, _⟩ := dx_rd I.hok e
  exact ⟨o, z, q.1⟩
theorem dx_noDict (I : Inv X pins σ H s) (e : Rd H d (DX X.w d ks kvs)) : ∀ b, Value.ref d = .ref b → ∃ ob, s.heap.get? b = some ob ∧ ob.dict = none := fun b z => by
  injection z with z
  subst z
  obtain ⟨_, _, _, es, ⟨o, _, z, q, _⟩, _⟩ := dx_rd I.hok e
  exact ⟨o, z, q.2.1⟩
theorem dx_getItem {k : NestedKey} {j : Nat} {p : V × V} {y : V} {u : Value} {Q : Value → Shared → Prop} (hu : A.in1.units + 8 < cLine) (I : Inv X pins σ H s) (e : Rd H d (DX X.w d ks kvs)) (m : MixK H ks kvs) (hk : KeyH H k y) (ej : ks[j]? = some k) (ep : kvs[j]? = some p) (ry : RelV y u)
    (h : ∀ w' s', Inv X pins σ H s' → RelV p.2 w' → Q w' s') : wpAny (model X.prog X.w) A (getItem (.ref d) u) Q E s := by
  have hT := dx_type I e
  obtain ⟨_, hl, _, es, ⟨o, epo, ho, hc, hdt⟩, hz, al⟩ := dx_rd I.hok e
  have en := dx_ents I.hok m hl hz al
  unfold getItem
  try with_reducible refine wpAny_holding ?_
  refine wpAny_bind (wpAny_sequenceKey hT (by decide) (wpAny_bind (wpAny_callSpecial?_slot (name := Str.ofString "__getitem__") hT slot_dict_getitem (wpAny_call_entry slot_dict_getitem hT entry_dict_getitem ?_ (args_dict_getitem _ _)))))
  show wpAny _ _ (dictGet d u >>= fun _ => _) _ _ s
  refine wpAny_bind (nk_get hu (hk.is I.hok ry) (m.dp _ (List.mem_of_getElem? ej)) ho hdt en (fun n => absurd (List.mem_of_getElem? ej) n) fun j' e' a b => ?_)
  have e2 : j' = j := (List.getElem?_inj (List.getElem?_eq_some_iff.mp a).1 m.nd).mp (a.trans ej.symm)
  subst e2
  obtain ⟨_, _, r⟩ := al j' e' k p b a ep
  exact wpAny_pure ⟨e'.val, rfl, wpAny_pure (h _ _ (I.tok _) r)⟩
theorem pe_dgetX (hu : X.A.in1.units + 8 < cLine) (ho : PE X o td) (hi : PE X i ty) (hs : NoSl i) : PE X (.Subscript o i pos) (tDGetX X.w td ty) := by
  refine ⟨fun pins s σ H Q I h => subD_of PySem.F.slot_dict_getitem.lookup hs (thn (ho.run pins s σ H _ I h) fun u s1 ⟨x, H1, I1, rx, q1⟩ => thn (hi.run pins s1 σ H1 _ I1 q1) fun iv s2 ⟨y, H2, I2, ry, d, ks, kvs, k, j, p, ex, e, m, hk, ej, ep, q2⟩ => ?_)⟩
  subst ex
  cases (show u = Value.ref d from rx)
  exact ⟨dx_type I2 e, dx_getItem hu I2 e m hk ej ep ry fun w' s3 I3 rw' => ⟨p.2, H2, I3, rw', q2⟩⟩
/-! ### isinstance(d, dict), len(d) -/
theorem call_isiD : CallR X (.builtin "isinstance") (fun xs H Q => ∃ (d : Addr) (ks : List NestedKey) (kvs : List (V × V)) (c : V) (u : Value) (b : Bool), xs = [.ref d, c] ∧ ClsV c u ∧ Rd H d (DX X.w d ks kvs) ∧ PySem.W.kitOne X.K (.type "dict") u = some b ∧ Q (.bl b) H) := by
  intro pins s σ H xs us Q I r h
  obtain ⟨d, ks, kvs, c, u, b, rfl, k, e, hb, q⟩ := h
  obtain ⟨u1, u2, rfl, r1, r2⟩ := vals2 r
  have e2 := k.eq r2
  subst e2
  cases (show u1 = Value.ref d from r1)
  obtain ⟨o, h1, h2⟩ := dx_type I e
  exact PySem.W.kia_one PySem.W.kitx_dict I.kIn ⟨o, h1, h2⟩ hb (fun z => nomatch z) fun tk => ⟨.bl b, H, I.tok tk, rfl, q⟩
theorem len_body {n : Nat} {es : Array DictEntry} {Q : Value → Shared → Prop} (hs : (d == sysModules) = false) (hd : DictIs s.heap d es) (hn : es.size = n) (hz : n ≤ sizeLine) (h : Q (.int n (s.toks + 1)) { s with toks := s.toks + 1 + 1 }) :
    wpAny (model X.prog X.w) A (call (.builtin "len") [.ref d]) Q E s := by
  have hT : s.TypeIs (.ref d) "dict" := let ⟨o, _, z, q, _⟩ := hd; ⟨o, z, q.1⟩
  have ml : MeetsIn X.prog X.w (Builtin.«dict.__len__» ⟨[.ref d], []⟩) (fun _ R s => ∃ es, DictIs s.heap d es ∧ R (.ok (.ret (.int es.size s.toks))) { s with toks := s.toks + 1 }) := .of_wp fun A R s ⟨es, hd, h⟩ => by
    obtain ⟨o, ep, ho, hc, hdt⟩ := hd
    show wpAny _ _ (dictSize d >>= fun _ => _) _ _ s
    unfold dictSize
    refine wpAny_bind (wpAny_bind (wpAny_dictEntries ho hdt (wpAny_pure ?_)))
    show wpAny _ _ (Builtin.Dict.pendingCount d >>= fun _ => _) _ _ s
    exact wpAny_bind (wpAny_pendingCount_other hs (wpAny_ret_mkInt (by rw [Nat.add_zero]; exact h)))
  rw [sizeLine_eq] at hz
  refine Calls.call_function_entry kind_len plain_len entry_len (args_len1 _) ?_
  unfold Builtin.«len»
  refine wpAny_bind (m := oneArg "len" _) (wpAny_pure (wpAny_bind (m := callSpecial? (.ref d) (Str.ofString "__len__")) (wpAny_callSpecial?_slot (name := Str.ofString "__len__") hT F.slot_dict_len
    (call_meetsIn F.slot_dict_len hT F.entry_dict_len (F.args_dict_len_1 _) ml ⟨es, hd, ?_⟩))))
  rw [hn]
  show wpAny _ _ _ _ _ { s with toks := s.toks + 1 }
  refine wpAny_bind (wpAny_holding (wpAny_pure (wpAny_bind (wpAny_letGo ?_))))
  show wpAny _ _ (if ((n : Nat) : Int) < 0 then _ else _) _ _ _
  rw [if_neg (by omega)]
  show wpAny _ _ (if ((n : Nat) : Int) ≥ 2 ^ 63 then _ else _) _ _ _
  rw [if_neg (by omega)]
  exact wpAny_bind (wpAny_mkInt (wpAny_pure ⟨_, rfl, h⟩))
theorem call_lenX : CallR X (.builtin "len") (fun xs H Q => ∃ (d : Addr) (ks : List NestedKey) (kvs : List (V × V)), xs = [.ref d] ∧ Rd H d (DX X.w d ks kvs) ∧ Q (.int kvs.length) H) := by
  intro pins s σ H xs us Q I r h
  obtain ⟨d, ks, kvs, rfl, e, q⟩ := h
  obtain ⟨u, rfl, ru⟩ := vals1 r
  cases (show u = Value.ref d from ru)
  obtain ⟨hs, hl, hz, es, hd, hn, _⟩ := dx_rd I.hok e
  exact len_body hs hd (hn.trans hl) (by rw [← hl]; exact hz) ⟨.int kvs.length, H, I.tok _, ⟨_, rfl⟩, q⟩
/-! ### for k in d -/
def Itkx (w : World) (d : Addr) (o : Obj) (ks : List NestedKey) (kvs : List (V × V)) : It :=
  ⟨fun i H => H d = some (.frz o (DX w d ks kvs)) ∧ i < kvs.length, fun i H x H' => H' = H ∧ ∃ v, kvs[i]? = some (x, v), fun i H => H d = some (.frz o (DX w d ks kvs)) ∧ kvs.length ≤ i⟩
theorem frzX {ob : Obj} (I : Inv X pins σ H s) (h : H d = some (.frz ob (DX X.w d ks kvs))) : (d == sysModules) = false ∧ s.heap.get? d = some ob ∧ ob.ExactDict ∧ ∃ (es : Array DictEntry) (ep : Nat), ob.data = .dict es ep ∧ es.size = kvs.length ∧ ∀ (i : Nat) (p : V × V), kvs[i]? = some p → ∃ en : DictEntry, es[i]? = some en ∧ RelV p.1 en.key := by
  obtain ⟨hd, ⟨hs, hl, _, es, ⟨o', ep, ho, hx, hdt⟩, hz, al⟩, _⟩ := I.hok d _ h
  rw [hd] at ho
  cases ho
  refine ⟨hs, hd, hx, es, ep, hdt, hz.trans hl, fun i p e => ?_⟩
  have lt := (List.getElem?_eq_some_iff.mp e).1
  have l1 : i < es.size := by omega
  have l2 : i < ks.length := by omega
  exact ⟨es[i], Array.getElem?_eq_getElem l1, (al i _ _ p (Array.getElem?_eq_getElem l1) (List.getElem?_eq_getElem l2) e).2.1⟩
theorem turn_keysX {P : Program} {w : World} {K : PySem.W.Frag} {tg : Expr} {ob : Obj} {es : Array DictEntry} {ep : Nat} (it : Addr) (hod : ob.data = .dict es ep) : Turn P w K tg (Itkx w d ob ks kvs) [it] it (fun i h => h.IsKeyIter it d i kvs.length ep) where
  mem := by simp
  obj := fun i h st b hb => by
    have e : b = it := by simpa using hb
    subst e
    exact let ⟨oi, e, c, dd⟩ := st; ⟨oi, e, fun v z => by rw [dd] at z; cases z⟩
  keep := fun i h h' st k => st.at fun oi e => k it (by simp) oi e
  item := by
    intro X hP hw hK hc i pins s σ H E I hf st hg
    subst hP hw hK
    have lt : i < kvs.length := hg.2
    obtain ⟨f0, f1, f2, f3, f4, f5⟩ := hf it (by simp)
    obtain ⟨hs, hgd, hx, es', ep', hdt, hsz, ent⟩ := frzX I hg.1
    obtain ⟨rfl, rfl⟩ := dict_ep hod hdt
    obtain ⟨en, hen, rk⟩ := ent i kvs[i] (List.getElem?_eq_getElem hg.2)
    refine next_key_item st hgd hdt hsz hen fun h' st' sb => ?_
    obtain ⟨oi, e, c, dd⟩ := id st'
    exact ⟨en.key, rfl, go_of (s := { s with heap := h' }) e c dd (by decide) ⟨kvs[i].1, H, I.turned (t' := s.toks) (fun b ob hb e => (sb.2 b hb).trans e) f0 f1 f3 f4 f5, rk, ⟨rfl, kvs[i].2, List.getElem?_eq_getElem hg.2⟩, st', fun b hb => (hf b hb).1⟩⟩
  done := by
    intro X hP hw hK hc i pins s σ H E I hf st hg
    subst hP hw hK
    obtain ⟨f0, f1, f2, f3, f4, f5⟩ := hf it (by simp)
    obtain ⟨hs, hgd, hx, es', ep', hdt, hsz, ent⟩ := frzX I hg.1
    obtain ⟨rfl, rfl⟩ := dict_ep hod hdt
    exact next_key_end (I.ok.hd hc) st hgd hdt hsz hg.2 fun h' eb => ⟨rfl, I.turned (t' := s.toks) (fun b ob hb e => eb b ob hb e) f0 f1 f3 f4 f5⟩
  self := fun A i s Q E st h => wpAny_pyIter_keyiter st h
def iKeysX (w : World) (td : TE) : TI := fun σ H R => td σ H fun x H1 => ∃ (d : Addr) (o : Obj) (ks : List NestedKey) (kvs : List (V × V)), x = .ref d ∧ H1 d = some (.frz o (DX w d ks kvs)) ∧ R (Itkx w d o ks kvs) H1
theorem pi_keysX {tg e : Expr} (he : PE X e td) : PI X tg e (iKeysX X.w td) := by
  refine ⟨fun pins s σ H R I h => thn (he.run pins s σ H _ I h) fun u s1 ⟨x, H1, I1, rx, d, o, ks, kvs, ex, hd, q⟩ => ?_⟩
  subst ex
  cases (show u = Value.ref d from rx)
  obtain ⟨hs, hgd, hx, es, ep, hdt, hsz, _⟩ := frzX I1 hd
  refine iter_keys hs hgd hx hdt (pi_one (tk := s1.toks) I1 _ (turn_keysX _ hdt) ⟨_, Heap.get?_push_size _ rfl, rfl, ?_⟩ q)
  rw [hsz] <;> rfl
theorem walk_keysX {w : World} {ob : Obj} : Walk (Itkx w d ob ks kvs) kvs.length (fun H => H d = some (.frz ob (DX w d ks kvs))) (fun i H x H' => H' = H ∧ ∃ v, kvs[i]? = some (x, v)) :=
  ⟨fun _ _ hi q => ⟨q, hi⟩, fun _ q => ⟨q, Nat.le_refl _⟩, fun _ _ _ _ _ _ y => y⟩
end
end L2.MK
/-! dicts with keys of several kinds: stored, whatever stands there; entries as one list -/
namespace L2.MK
open PySem PySem.Spec PyProof.Rows SeqAt
abbrev En := NestedKey × V × V
/-- the dict at d with these entries -/
abbrev DE (w : World) (d : Addr) (es : List En) : HO := DX w d (es.map (·.1)) (es.map (·.2))
abbrev MixE (H : Hp) (es : List En) : Prop := MixK H (es.map (·.1)) (es.map (·.2))
def valE (es : List En) (k : NestedKey) : Option V := (es.find? fun e => decide (e.1 = k)).map (·.2.2)
def putE (es : List En) (k : NestedKey) (y v : V) : List En := if k ∈ es.map (·.1) then es.map fun e => if e.1 = k then (e.1, e.2.1, v) else e else es ++ [(k, y, v)]
theorem putE_new {es : List En} {k : NestedKey} {y v : V} (h : k ∉ es.map (·.1)) : putE es k y v = es ++ [(k, y, v)] := by unfold putE; rw [if_neg h]
theorem putE_old {es : List En} {k : NestedKey} {y v : V} (h : k ∈ es.map (·.1)) : putE es k y v = es.map fun e => if e.1 = k then (e.1, e.2.1, v) else e := by unfold putE; rw [if_pos h]
theorem putE_keys {es : List En} {k : NestedKey} {y v : V} : (putE es k y v).map (·.1) = if k ∈ es.map (·.1) then es.map (·.1) else es.map (·.1) ++ [k] := by
  unfold putE
  by_cases h : k ∈ es.map (·.1)
  · rw [if_pos h, if_pos h, List.map_map]
    refine List.map_congr_left fun e _ => ?_
    show (if e.1 = k then (e.1, e.2.1, v) else e).1 = e.1
    by_cases z : e.1 = k
    · rw [if_pos z]
    · rw [if_neg z]
  · rw [if_neg h, if_neg h, List.map_append]; rfl
theorem putE_length (es : List En) (k : NestedKey) (y v : V) : (putE es k y v).length ≤ es.length + 1 := by
  unfold putE
  by_cases h : k ∈ es.map (·.1)
  · rw [if_pos h, List.length_map]; omega
  · rw [if_neg h, List.length_append]; exact Nat.le_refl _
theorem putE_nodup {es : List En} {k : NestedKey} {y v : V} (h : (es.map (·.1)).Nodup) : ((putE es k y v).map (·.1)).Nodup := by
  rw [putE_keys]
  by_cases z : k ∈ es.map (·.1)
  · rw [if_pos z]; exact h
  · rw [if_neg z, List.nodup_append]
    exact ⟨h, by simp, fun a ha b hb e => by rw [List.mem_singleton] at hb; rw [e, hb] at ha; exact z ha⟩
theorem MixE.put {H : Hp} {es : List En} {k : NestedKey} {y v : V} (m : MixE H es) (hk : KeyH H k y) (hd : k.depth ≤ 8) : MixE H (putE es k y v) := by
  refine ⟨fun i k' p e1 e2 => ?_, putE_nodup m.nd, fun k' hk' => ?_⟩
  · rw [List.getElem?_map] at e1 e2
    obtain ⟨e, ee, rfl⟩ := Option.map_eq_some_iff.mp e1
    rw [ee] at e2
    obtain rfl := Option.some.inj e2
    by_cases z : k ∈ es.map (·.1)
    · rw [putE_old z, List.getElem?_map] at ee
      obtain ⟨e0, e0e, rfl⟩ := Option.map_eq_some_iff.mp ee
      have q := m.is_ i e0.1 e0.2 (by rw [List.getElem?_map, e0e]; rfl) (by rw [List.getElem?_map, e0e]; rfl)
      by_cases h : e0.1 = k
      · simp only [if_pos h]; exact q
      · simp only [if_neg h]; exact q
    · rw [putE_new z] at ee
      by_cases lt : i < es.length
      · rw [List.getElem?_append_left lt] at ee
        exact m.is_ i e.1 e.2 (by rw [List.getElem?_map, ee]; rfl) (by rw [List.getElem?_map, ee]; rfl)
      · rw [List.getElem?_append_right (by omega)] at ee
        have l2 := (List.getElem?_eq_some_iff.mp ee).1
        simp only [List.length_singleton] at l2
        rw [show i - es.length = 0 by omega] at ee
        obtain rfl := Option.some.inj ee
        exact hk
  · rw [putE_keys] at hk'
    by_cases z : k ∈ es.map (·.1)
    · rw [if_pos z] at hk'; exact m.dp _ hk'
    · rw [if_neg z] at hk'
      rcases List.mem_append.mp hk' with hk' | hk'
      · exact m.dp _ hk'
      · rw [List.mem_singleton] at hk'; rw [hk']; exact hd
section
variable {prog : Program} {w : World} {A : Around} {E : Value → Shared → Prop} {s : Shared} {d : Addr} {es : Array DictEntry} {ks : List NestedKey} {k : NestedKey} {key : Value}
theorem nk_setOld {v : Value} {j : Nat} {Q : Unit → Shared → Prop} (hu : A.units + 8 < cLine) (hk : NestedIs s.heap k key) (hd8 : k.depth ≤ 8) (hd : DictIs s.heap d es) (he : Ents w s.heap es ks) (hj : ks[j]? = some k)
    (hQ : ∀ h', DictIs h' d (es.modify j fun e => { e with val := v }) → Heap.SameBut d s.heap h' → Q () { s with heap := h', toks := s.toks + k.draws }) : wpAny (model prog w) A (dictSet d key v) Q E s := by
  obtain ⟨o, ep, ho, hc, hdt⟩ := hd
  unfold dictSet
  try with_reducible refine wpAny_holding ?_
  refine wpAny_bind (pyHash_key k key A s _ hk (by omega) ?_)
  unfold dictSetHashed
  try with_reducible refine wpAny_holding ?_
  refine wpAny_bind (nk_find (s := { s with toks := s.toks + k.draws }) hu hk hd8 ho hdt he (fun n => absurd (List.mem_of_getElem? hj) n) fun i hi => ?_)
  obtain rfl : i = j := (List.getElem?_inj (List.getElem?_eq_some_iff.mp hi).1 he.nd).mp (hi.trans hj.symm)
  exact wpAny_bind (wpAny_rule (wpAny_bind (wpAny_updateDict (s := { s with toks := s.toks + k.draws }) ho hdt (wpAny_point (hQ _ ⟨_, ep, Heap.get?_update_self _ ho (Obj.isFreed_of_dict (Obj.data_mapDict hdt _)), hc.mapDict _, Obj.data_mapDict hdt _⟩ (Heap.SameBut.update ..))))))
end
section
variable {X : Cx} {pins : List (Addr × Obj)} {σ : St} {H : Hp} {s : Shared} {A : Around} {E : Value → Shared → Prop} {d : Addr} {es : List En} {k : NestedKey} {y v : V} {u r : Value}
/-- d[k] = v by the machine's own store -/
theorem dx_dictSetS {Q : Unit → Shared → Prop} (hu : A.units + 8 < cLine) (I : Inv X pins σ H s) (hd : H d = some (DE X.w d es)) (m : MixE H es) (hk : KeyH H k y) (hd8 : k.depth ≤ 8) (hz : es.length < sizeLine) (ry : RelV y u) (rv : RelV v r)
    (h : ∀ (h' : Heap) (t : Nat), Heap.SameBut d s.heap h' → Inv X pins σ (upd H d (DE X.w d (putE es k y v))) { s with heap := h', toks := t } → Q () { s with heap := h', toks := t }) : wpAny (model X.prog X.w) A (dictSet d u r) Q E s := by
  obtain ⟨hs, hl, hle, ar, hdi, hsz, al⟩ := dx_rd I.hok (.inl hd)
  have en := dx_ents I.hok m hl hsz al
  have is := hk.is I.hok ry
  have lenA : ar.size = es.length := by rw [hsz, List.length_map]
  have fin : ∀ (h' : Heap) (ar' : Array DictEntry) (t : Nat), DictIs h' d ar' → Heap.SameBut d s.heap h' → ar'.size = (putE es k y v).length → (∀ (i : Nat) (e : DictEntry) (x : En), ar'[i]? = some e → (putE es k y v)[i]? = some x → e.hash = x.1.hash X.w ∧ RelV x.2.1 e.key ∧ RelV x.2.2 e.val) → Q () { s with heap := h', toks := t } := fun h' ar' t hd' sb l' al' => by
    have he : ∃ q, h'.get? d = some q := let ⟨o, _, z, _⟩ := hd'; ⟨o, z⟩
    refine h _ _ sb (d_write I (by rw [hd]; exact True.intro) sb he (dx_new hs (by rw [List.length_map, List.length_map]) ?_ hd' (by rw [l', List.length_map]) fun i e k' p a b c => ?_))
    · rw [List.length_map]; exact Nat.le_trans (putE_length es k y v) hz
    · rw [List.getElem?_map] at b c
      obtain ⟨x, ex, rfl⟩ := Option.map_eq_some_iff.mp b
      rw [ex] at c
      obtain rfl := Option.some.inj c
      exact al' i e x a ex
  have old : ∀ (i : Nat) (e : DictEntry) (x : En), ar[i]? = some e → es[i]? = some x → e.hash = x.1.hash X.w ∧ RelV x.2.1 e.key ∧ RelV x.2.2 e.val := fun i e x a b => al i e x.1 x.2 a (by rw [List.getElem?_map, b]; rfl) (by rw [List.getElem?_map, b]; rfl)
  by_cases z : k ∈ es.map (·.1)
  · obtain ⟨j, hj⟩ := List.mem_iff_getElem?.mp z
    refine nk_setOld hu is hd8 hdi en hj fun h' hd' sb => fin h' _ _ hd' sb ?_ fun i e x a b => ?_
    · rw [Array.size_modify, lenA, putE_old z, List.length_map]
    · rw [putE_old z, List.getElem?_map] at b
      obtain ⟨x0, ex0, rfl⟩ := Option.map_eq_some_iff.mp b
      rw [Array.getElem?_modify] at a
      have same : x0.1 = k ↔ j = i := by
        rw [List.getElem?_map] at hj
        obtain ⟨xj, exj, ej⟩ := Option.map_eq_some_iff.mp hj
        constructor
        · intro q
          have e1 : (es.map (·.1))[i]? = some k := by rw [List.getElem?_map, ex0, Option.map_some, q]
          have e2 : (es.map (·.1))[j]? = some k := by rw [List.getElem?_map, exj, Option.map_some, ej]
          exact (List.getElem?_inj (List.getElem?_eq_some_iff.mp e2).1 m.nd).mp (e2.trans e1.symm)
        · intro q
          subst q
          rw [ex0] at exj
          obtain rfl := Option.some.inj exj
          exact ej
      by_cases q : j = i
      · rw [if_pos q] at a
        obtain ⟨e0, ee0, rfl⟩ := Option.map_eq_some_iff.mp a
        obtain ⟨h1, h2, _⟩ := old i e0 x0 ee0 ex0
        simp only [if_pos (same.mpr q)]
        exact ⟨h1, h2, rv⟩
      · rw [if_neg q] at a
        simp only [if_neg (fun t => q (same.mp t))]
        exact old i e x0 a ex0
  · refine nk_setNew hu is hd8 hdi en z (by rw [hsz, List.length_map]; omega) fun h' hd' sb => fin h' _ _ hd' sb ?_ fun i e x a b => ?_
    · rw [Array.size_push, lenA, putE_new z, List.length_append]; rfl
    · rw [putE_new z] at b
      by_cases lt : i < es.length
      · rw [List.getElem?_append_left lt] at b
        rw [Array.getElem?_push_lt (by rw [lenA]; exact lt)] at a
        exact old i e x (by rw [Array.getElem?_eq_getElem (by rw [lenA]; exact lt)]; exact a) b
      · rw [List.getElem?_append_right (by omega)] at b
        have l2 := (List.getElem?_eq_some_iff.mp b).1
        simp only [List.length_singleton] at l2
        have e1 : i = ar.size := by omega
        subst e1
        rw [Array.getElem?_push_size] at a
        rw [show ar.size - es.length = 0 by omega] at b
        obtain rfl := Option.some.inj a
        obtain rfl := Option.some.inj b
        exact ⟨rfl, ry, rv⟩
theorem dx_dictSet {Q : Unit → Shared → Prop} (hu : A.units + 8 < cLine) (I : Inv X pins σ H s) (hd : H d = some (DE X.w d es)) (m : MixE H es) (hk : KeyH H k y) (hd8 : k.depth ≤ 8) (hz : es.length < sizeLine) (ry : RelV y u) (rv : RelV v r)
    (h : ∀ s', Inv X pins σ (upd H d (DE X.w d (putE es k y v))) s' → Q () s') : wpAny (model X.prog X.w) A (dictSet d u r) Q E s := dx_dictSetS hu I hd m hk hd8 hz ry rv fun _ _ _ I' => h _ I'
end
end L2.MK
/-! {k: v for .. in ..}, keys of any kind -/
namespace L2.MK
open PySem PySem.Spec PyProof.Rows SeqAt
/-- what a turn stores -/
def StoX (w : World) (D : Addr) (y z : V) (H : Hp) (Nx : Hp → Prop) : Prop := ∃ (es : List En) (k : NestedKey), H D = some (DE w D es) ∧ MixE H es ∧ KeyH H k y ∧ k.depth ≤ 8 ∧ es.length < sizeLine ∧ Nx (upd H D (DE w D (putE es k y z)))
def DcXW (w : World) (J : It) (g : TG) (tt : TT) (tk tv : TE) (vs : List Nat) (σ : St) (H1 : Hp) (Q : Addr → Hp → Prop) : Prop := ∀ D, H1 D = none → ∃ W : Nat → Nat → Hp → Prop, (∃ m, W 0 m (upd H1 D (DE w D []))) ∧ ∀ i m H, W i m H →
  (J.stop i H ∧ Q D H) ∨ (J.go i H ∧ ∃ Nx : Hp → Prop, (∀ H', Nx H' → ∃ m', m' < m ∧ W (i + 1) m' H') ∧ ∀ x H', J.yld i H x H' → g x (wipe σ vs) H' fun σ2 H2 => wipe σ2 vs = wipe σ vs ∧ tt σ2 H2 fun b H3 =>
    if b = true then tk σ2 H3 fun y H4 => tv σ2 H4 fun z H5 => StoX w D y z H5 Nx else Nx H3)
def tDcX (w : World) (wi : TI) (g : TG) (tt : TT) (tk tv : TE) (vs : List Nat) : TE := fun σ H Q => wi σ H fun J H1 => DcXW w J g tt tk tv vs σ H1 fun D H => Q (.ref D) H
section
variable {X : Cx}
theorem dx_empty {P : Program} {w : World} {H : Hp} {h : Heap} (hb : sysModules < h.objs.size) : ObjOk P w H (h.push { cls := .type "dict", data := .dict #[] }) h.objs.size (DE w h.objs.size []) :=
  dx_new (beq_eq_false_iff_ne.mpr (Ne.symm (Nat.ne_of_lt hb))) rfl (Nat.zero_le _) (es := #[]) ⟨_, 0, Heap.get?_push_size _ rfl, ⟨rfl, rfl, rfl⟩, rfl⟩ rfl (fun i e k p a => by simp at a)
theorem pe_dcX {w : World} (hw : X.w = w) {kx vx tg iter : Expr} {ifs : List Expr} {scope : Scope} {own : List (Str × Nat)} {pos : Pos} {wi : TI} {g : TG} {tt : TT} {tk tv : TE} (hu : X.A.units + 8 < cLine) (calm : X.calm = true) (unlike : X.N.Nodup) (walked : PI X tg iter wi) (fits : BlkOk X.N X.env.scope scope own)
    (target : ∀ (s : Shared) (H : Hp) (C : Addr) (cl : List (Str × Addr)) (fp : List Addr), PG (X.blk s H scope (compEnvC scope cl C X.env) fp) tg g) (tests : ∀ (s : Shared) (H : Hp) (C : Addr) (cl : List (Str × Addr)) (fp : List Addr), PTs (X.blk s H scope (compEnvC scope cl C X.env) fp) ifs tt)
    (keyE : ∀ (s : Shared) (H : Hp) (C : Addr) (cl : List (Str × Addr)) (fp : List Addr), PE (X.blk s H scope (compEnvC scope cl C X.env) fp) kx tk)
    (valueE : ∀ (s : Shared) (H : Hp) (C : Addr) (cl : List (Str × Addr)) (fp : List Addr), PE (X.blk s H scope (compEnvC scope cl C X.env) fp) vx tv) (folded : ∀ x, foldedSetIterable iter X.env x = pure x := by intro _; rfl) :
    PE X (.DictComp kx vx [⟨tg, iter, ifs, 0⟩] scope pos) (tDcX w wi g tt tk tv (own.map (·.2))) := by
  subst hw
  refine ⟨fun pins s σ H Q I reading => ?_⟩
  rw [arm_eval_DictComp]
  have cells : ∀ y ∈ scope.names, y.2 = .free → ∃ c, X.env.cells.lookup y.1 = some c := fun y hy e => (fits.free y hy e).elim (fun k => I.ok.has _ (.inl k)) fun k => I.ok.has _ (.inr k)
  refine wpAny_comprehension_free rfl folded (closure_ok cells) fits.kind (fun y hy e => by rw [fits.uniq y hy, e]) (thn (walked.run pins s σ H _ I reading) fun xv s1 hx => thn hx fun itv sA ⟨it, fp, tn, J, HA, eit, IA, T, stA, offA, turns⟩ => ?_)
  subst eit
  refine wpAny_newObj_type (newEnv_comp ?_)
  have newD : HA sA.heap.objs.size = none := IA.hok.fresh (Nat.le_refl _)
  obtain ⟨W, ⟨m0, w0⟩, turn⟩ := turns _ newD
  have IB : Inv X pins σ (upd HA sA.heap.objs.size (DE X.w sA.heap.objs.size [])) { sA with heap := sA.heap.push { cls := .type "dict", data := .dict #[] } } := IA.laid (t' := sA.toks) (fun b o e => Heap.get?_push_of_some _ e) (Nat.le_refl _) (dx_empty IA.big)
  generalize eD : sA.heap.objs.size = D at newD turn w0 IB ⊢
  generalize eB : ({ sA with heap := sA.heap.push { cls := .type "dict", data := .dict #[] } } : Shared) = sB at IB
  have hB : sB.heap = sA.heap.push { cls := .type "dict", data := .dict #[] } := by rw [← eB]
  have offB : ∀ b ∈ fp, FpOk X pins (upd HA D (DE X.w D [])) b ∧ b < sB.heap.objs.size := fun b hb => by
    obtain ⟨o, e, _⟩ := T.obj _ _ stA b hb
    have lt : b < sA.heap.objs.size := Heap.lt_size e
    exact ⟨⟨by rw [upd_ne (by rw [← eD]; exact Nat.ne_of_lt lt)]; exact (offA b hb).1, (offA b hb).2⟩, by rw [hB, Heap.size_push]; exact Nat.lt_succ_of_lt lt⟩
  have stB : tn 0 sB.heap := T.keep _ _ _ stA fun b _ o e => by rw [hB]; exact Heap.get?_push_of_some _ e
  have IC := block_start IB fits unlike offB
  have rg := target sB (upd HA D (DE X.w D [])) sB.heap.objs.size (cellsFrom (sB.heap.objs.size + 1) scope.names (cloFrom X.env.cells scope.names [])) fp
  have rt := tests sB (upd HA D (DE X.w D [])) sB.heap.objs.size (cellsFrom (sB.heap.objs.size + 1) scope.names (cloFrom X.env.cells scope.names [])) fp
  have rk := keyE sB (upd HA D (DE X.w D [])) sB.heap.objs.size (cellsFrom (sB.heap.objs.size + 1) scope.names (cloFrom X.env.cells scope.names [])) fp
  have rv := valueE sB (upd HA D (DE X.w D [])) sB.heap.objs.size (cellsFrom (sB.heap.objs.size + 1) scope.names (cloFrom X.env.cells scope.names [])) fp
  show codeAny _ _ (.compStart (.DictComp kx vx [⟨tg, iter, ifs, 0⟩] scope pos) 0 (.ref it) (.ref D) (compEnvC scope (cellsFrom (sB.heap.objs.size + 1) scope.names (cloFrom X.env.cells scope.names [])) sB.heap.objs.size X.env)) (compPost (model X.prog X.w) X.A X.xe _ _ (.ref D) sB.heap.objs.size) { sB with heap := pushCells (sB.heap.push { cls := .type "dict", data := .dict #[] }) scope.names }
  have offC : ∀ b ∈ fp, (upd HA D (DE X.w D [])) b = none := fun b hb => (offB b hb).1.1
  generalize eE : compEnvC scope (cellsFrom (sB.heap.objs.size + 1) scope.names (cloFrom X.env.cells scope.names [])) sB.heap.objs.size X.env = ce at IC rg rt rk rv ⊢
  have locC : ce.locals = sB.heap.objs.size := by rw [← eE]; rfl
  generalize upd HA D (DE X.w D []) = HB at IB IC rg rt rk rv w0 offB offC
  generalize eC' : ({ sB with heap := pushCells (sB.heap.push { cls := .type "dict", data := .dict #[] }) scope.names } : Shared) = sC at IC ⊢
  have stC : tn 0 sC.heap := T.keep _ _ _ stB fun b _ o e => by rw [← eC']; exact pushCells_keeps _ _ _ _ (Heap.get?_push_of_some _ e)
  have still : ∀ {σ' : St} {H' : Hp} {s' : Shared}, Inv (X.blk sB HB scope ce fp) [] σ' H' s' → (∀ b ∈ fp, H' b = none) → ∀ b ∈ fp, FpOk (X.blk sB HB scope ce fp) [] H' b := fun I' free b hb =>
    ⟨free b hb, (I'.ok.exf b hb).1, I'.ok.exfs b hb, .inl hb, fun x c e => (I'.ok.exf b hb).2 x c e, fun p hp => by rcases List.mem_append.mp (show p ∈ ([] : List (Addr × Obj)) ++ [] from hp) with z | z <;> cases z⟩
  refine (fun body => codeAny_compStart_dict body (T.self X.A 0 _ _ _ stC body)) ?_
  · refine compLoop_anyD (fun n s' => ∃ i H', Inv (X.blk sB HB scope ce fp) [] (wipe σ (own.map (·.2))) H' s' ∧ tn i s'.heap ∧ (∀ b ∈ fp, H' b = none) ∧ W i n H') ?_ m0 ⟨0, HB, IC, stC, offC, w0⟩
    rintro n s5 ⟨i, H5, I5, st5, free5, w5⟩
    rcases turn i n H5 w5 with ⟨ends, goal⟩ | ⟨goes, Nx, lower, step⟩
    · refine thnF (T.done (X.blk sB HB scope ce fp) rfl rfl rfl calm i [] s5 _ H5 (fun _ _ => False) I5 (still I5 free5) st5 ends) fun r s6 ⟨hr, I6⟩ => ?_
      subst hr
      obtain ⟨m, hns, _⟩ := I6.loc
      rw [show (X.blk sB HB scope ce fp).env.locals = sB.heap.objs.size from locC] at hns
      have nC : H5 sB.heap.objs.size = none := by rw [← locC]; exact I6.free
      have back : Inv X pins σ H5 s6 := IB.call' (ch := fp) I6.os I6.base I6.hok I6.bare fun b hb => let f := (offB b hb).1; ⟨f.2.2.2.1, f.2.1, f.2.2.2.2.1, f.2.2.2.2.2⟩
      obtain ⟨_, f1, f2, f3, f4, f5⟩ := IB.fpOk (Nat.le_refl _) nC
      exact ⟨m, hns, fun h'' sb => ⟨.ref D, H5, back.turned (t' := s6.toks) (fun b o hb e => (sb.2 b hb).trans e) nC f1 f3 f4 f5, rfl, goal⟩⟩
    · refine thnF (T.item (X.blk sB HB scope ce fp) rfl rfl rfl calm i [] s5 _ H5 (fun _ _ => False) I5 (still I5 free5) st5 goes) fun r s6 ⟨u, hr, h6⟩ => ?_
      subst hr
      refine thnF h6 fun _ s7 ⟨x, H7, I7, r7, y7, st7, free7⟩ => thnF (rg.run _ s7 _ H7 x u _ (I7.pinned (still I7 free7) (T.obj _ _ st7)) r7 (step x H7 y7)) fun _ s8 ⟨σ8, H8, I8, same8, q8⟩ => thnF (rt.run _ s8 σ8 H8 _ I8 q8) fun yes s9 ⟨H9, I9, q9⟩ => ?_
      have next : ∀ {s' : Shared} {H' : Hp}, Inv (X.blk sB HB scope ce fp) ([] ++ pinsAt fp s7.heap) σ8 H' s' → Nx H' → ∃ m, m < n ∧ ∃ i H', Inv (X.blk sB HB scope ce fp) [] (wipe σ (own.map (·.2))) H' s' ∧ tn i s'.heap ∧ (∀ b ∈ fp, H' b = none) ∧ W i m H' := fun {s' H'} I' nx => by
        obtain ⟨m', less, w'⟩ := lower H' nx
        have pinned : ∀ b ∈ fp, ∀ o, s7.heap.get? b = some o → s'.heap.get? b = some o ∧ H' b = none := fun b hb o e => by
          obtain ⟨z1, z2, _⟩ := I'.pin (b, o) (List.mem_append_right _ (List.mem_append_right _ (mem_pinsAt hb e)))
          exact ⟨z1, z2⟩
        refine ⟨m', less, i + 1, H', (I'.unpinned (pins := [])).weak (by rw [← same8, wipe_length]) (fun j v e => ?_), T.keep _ _ _ st7 fun b hb o e => (pinned b hb o e).1, fun b hb => ?_, w'⟩
        · rw [← same8] at e
          exact (wipe_some e).1
        · obtain ⟨o, e, _⟩ := T.obj _ _ st7 b hb
          exact (pinned b hb o e).2
      cases yes with
      | false => exact next I9 q9
      | true =>
        refine thnF (rk.run _ s9 σ8 H9 _ I9 q9) fun z sK ⟨yk, HK, IK, relK, qK⟩ => thnF (rv.run _ sK σ8 HK _ IK qK) fun z2 sV ⟨yv, HV, IV, relV, es, k, oD, mx, hk, dk, short, nx⟩ => ?_
        exact dx_dictSet (X := X.blk sB HB scope ce fp) hu IV oD mx hk dk short relK relV fun s12 I12 => next I12 nx
end
end L2.MK
/-! k in d, d[k] = v, list(d), list(d.items()), dict(pairs): keys of any kind -/
namespace L2.MK
open PySem PySem.Spec PyProof.Rows SeqAt
section
variable {X : Cx} {pins : List (Addr × Obj)} {σ : L2.St} {H : Hp} {s : Shared} {A : Around} {E : Value → Shared → Prop} {d : Addr} {es : List En} {k : NestedKey} {y v : V} {u r : Value} {o i value : Expr} {td ty tv : TE} {w : World}
theorem valE_at {j : Nat} {e : En} (nd : (es.map (·.1)).Nodup) (h : es[j]? = some e) : valE es e.1 = some e.2.2 := by
  unfold valE
  cases q : es.find? (fun x => decide (x.1 = e.1)) with
  | none => exact absurd (decide_eq_true rfl) (List.find?_eq_none.mp q e (List.mem_of_getElem? h))
  | some x =>
    have ex : x.1 = e.1 := by simpa using List.find?_some q
    obtain ⟨i, hi⟩ := List.mem_iff_getElem?.mp (List.mem_of_find?_eq_some q)
    have e1 : (es.map (·.1))[i]? = some e.1 := by rw [List.getElem?_map, hi, Option.map_some, ex]
    have e2 : (es.map (·.1))[j]? = some e.1 := by rw [List.getElem?_map, h]; rfl
    obtain rfl : i = j := (List.getElem?_inj (List.getElem?_eq_some_iff.mp e1).1 nd).mp (e1.trans e2.symm)
    rw [h] at hi
    rw [← Option.some.inj hi]; rfl
theorem valE_in {v : V} (h : valE es k = some v) : ∃ (j : Nat) (e : En), es[j]? = some e ∧ e.1 = k ∧ e.2.2 = v := by
  unfold valE at h
  obtain ⟨e, q, ev⟩ := Option.map_eq_some_iff.mp h
  obtain ⟨j, hj⟩ := List.mem_iff_getElem?.mp (List.mem_of_find?_eq_some q)
  exact ⟨j, e, hj, by simpa using List.find?_some q, ev⟩
theorem valE_mem : (valE es k).isSome = decide (k ∈ es.map (·.1)) := by
  by_cases h : k ∈ es.map (·.1)
  · rw [decide_eq_true h]
    obtain ⟨e, he, q⟩ := List.mem_map.mp h
    cases z : valE es k with
    | some v => rfl
    | none =>
      unfold valE at z
      rw [Option.map_eq_none_iff] at z
      exact absurd (decide_eq_true q) (List.find?_eq_none.mp z e he)
  · rw [decide_eq_false h]
    cases z : valE es k with
    | none => rfl
    | some v =>
      obtain ⟨j, e, he, q, _⟩ := valE_in z
      exact absurd (List.mem_map.mpr ⟨e, List.mem_of_getElem? he, q⟩) h
/-- the machine's own look -/
theorem dx_get {Q : Option Value → Shared → Prop} (hu : A.units + 8 < cLine) (I : Inv X pins σ H s) (e : Rd H d (DE X.w d es)) (m : MixE H es) (hk : KeyH H k y) (hd8 : k.depth ≤ 8) (ry : RelV y u) (hn : valE es k = none → ∀ t, Q none { s with toks := t }) (hs : ∀ v z t, valE es k = some v → RelV v z → Q (some z) { s with toks := t }) :
    wpAny (model X.prog X.w) A (dictGet d u) Q E s := by
  obtain ⟨_, hl, _, ar, ⟨ob, ep, ho, hc, hdt⟩, hz, al⟩ := dx_rd I.hok e
  refine nk_get hu (hk.is I.hok ry) hd8 ho hdt (dx_ents I.hok m hl hz al) (fun nm => hn ?_ _) fun j en a b => ?_
  · cases z : valE es k with
    | none => rfl
    | some v => have q := valE_mem (es := es) (k := k); rw [z, decide_eq_false nm] at q; cases q
  · rw [List.getElem?_map] at a
    obtain ⟨x, ex, ek⟩ := Option.map_eq_some_iff.mp a
    have ev := valE_at m.nd ex
    rw [ek] at ev
    exact hs _ _ _ ev (al j en x.1 x.2 b (by rw [List.getElem?_map, ex]; rfl) (by rw [List.getElem?_map, ex]; rfl)).2.2
theorem dx_has {Q : Bool → Shared → Prop} (hu : A.in1.units + 8 < cLine) (I : Inv X pins σ H s) (e : Rd H d (DE X.w d es)) (m : MixE H es) (hk : KeyH H k y) (hd8 : k.depth ≤ 8) (ry : RelV y u) (h : ∀ s', Inv X pins σ H s' → Q (valE es k).isSome s') : wpAny (model X.prog X.w) A (contains (.ref d) u) Q E s := by
  have hT := dx_type I e
  obtain ⟨sysn, _⟩ := dx_rd I.hok e
  unfold contains
  try with_reducible refine wpAny_holding ?_
  refine wpAny_bind (wpAny_specialOf hT slot_dict_contains.lookup ?_)
  show wpAny _ _ (if (some (Value.builtin "dict.__contains__") == some Value.none) = true then _ else _) _ E s
  rw [if_neg (by rw [beq_builtin_none]; exact Bool.false_ne_true)]
  refine wpAny_bind (wpAny_callSpecialUnlessNone?_slot (name := Str.ofString "__contains__") hT slot_dict_contains (wpAny_call_entry slot_dict_contains hT entry_dict_contains ?_ (args_dict_contains _ _)))
  show wpAny _ _ (dictGet d u >>= fun _ => _) _ _ s
  refine wpAny_bind (dx_get hu I e m hk hd8 ry (fun z t => ?_) fun v x t z _ => ?_)
  · rw [z] at h
    show wpAny _ _ (Builtin.Dict.pendingKey? d u >>= fun _ => _) _ _ _
    exact wpAny_bind (wpAny_pendingKey_other sysn (wpAny_pure ⟨_, rfl, wpAny_truthy_bool (h _ (I.tok _))⟩))
  · rw [z] at h
    exact wpAny_pure ⟨_, rfl, wpAny_truthy_bool (h _ (I.tok _))⟩
def tDInX (w : World) (neg : Bool) (ty td : TE) : TE := fun σ H Q => ty σ H fun y H1 => td σ H1 fun x H2 => ∃ (d : Addr) (es : List En) (k : NestedKey), x = .ref d ∧ Rd H2 d (DE w d es) ∧ MixE H2 es ∧ KeyH H2 k y ∧ k.depth ≤ 8 ∧ Q (.bl (xor neg (valE es k).isSome)) H2
theorem pc_dinX (hw : X.w = w) (hu : X.A.in1.units + 8 < cLine) (hi : PE X i ty) (ho : PE X o td) : PC X .In i o (tDInX w false ty td) := by
  subst hw
  refine ⟨fun pins s σ H Q I h => thn (hi.run pins s σ H _ I h) fun iv s1 ⟨y, H1, I1, ry, q1⟩ => thn (ho.run pins s1 σ H1 _ I1 q1) fun u s2 ⟨x, H2, I2, rx, d, es, k, ex, e, m, hk, dk, q2⟩ => ?_⟩
  subst ex
  cases (show u = Value.ref d from rx)
  show wpAny _ _ (do return Value.bool (← contains (.ref d) iv)) _ _ s2
  exact wpAny_bind (dx_has hu I2 e m hk dk ry fun s3 I3 => wpAny_pure ⟨.bl (valE es k).isSome, H2, I3, rfl, by simpa using q2⟩)
theorem pc_dnotinX (hw : X.w = w) (hu : X.A.in1.units + 8 < cLine) (hi : PE X i ty) (ho : PE X o td) : PC X .NotIn i o (tDInX w true ty td) := by
  subst hw
  refine ⟨fun pins s σ H Q I h => thn (hi.run pins s σ H _ I h) fun iv s1 ⟨y, H1, I1, ry, q1⟩ => thn (ho.run pins s1 σ H1 _ I1 q1) fun u s2 ⟨x, H2, I2, rx, d, es, k, ex, e, m, hk, dk, q2⟩ => ?_⟩
  subst ex
  cases (show u = Value.ref d from rx)
  show wpAny _ _ (do return Value.bool (!(← contains (.ref d) iv))) _ _ s2
  exact wpAny_bind (dx_has hu I2 e m hk dk ry fun s3 I3 => wpAny_pure ⟨.bl (!(valE es k).isSome), H2, I3, rfl, by simpa using q2⟩)
/-- d[k] = v -/
def sDPutX (w : World) (td ty tv : TE) : TS := fun D σ H => tv σ H fun v H1 => td σ H1 fun x H2 => ty σ H2 fun y H3 => ∃ (d : Addr) (es : List En) (k : NestedKey), x = .ref d ∧ H3 d = some (DE w d es) ∧ MixE H3 es ∧ KeyH H3 k y ∧ k.depth ≤ 8 ∧ es.length < sizeLine ∧ D.nx σ (upd H3 d (DE w d (putE es k y v)))
theorem dx_setItem {Q : Unit → Shared → Prop} (hu : A.in1.units + 8 < cLine) (I : Inv X pins σ H s) (hd : H d = some (DE X.w d es)) (m : MixE H es) (hk : KeyH H k y) (hd8 : k.depth ≤ 8) (hz : es.length < sizeLine) (ry : RelV y u) (rv : RelV v r) (h : ∀ s', Inv X pins σ (upd H d (DE X.w d (putE es k y v))) s' → Q () s') :
    wpAny (model X.prog X.w) A (setItem (.ref d) u r) Q E s := by
  have hT := dx_type I (.inl hd)
  unfold setItem
  try with_reducible refine wpAny_holding ?_
  refine wpAny_bind (wpAny_sequenceKey hT (by decide) (wpAny_bind (wpAny_callSpecial?_slot (name := Str.ofString "__setitem__") hT slot_dict_setitem (wpAny_call_entry slot_dict_setitem hT entry_dict_setitem ?_ (args_dict_setitem _ _ _)))))
  show wpAny _ _ (Builtin.Dict.notOrdered "__setitem__" ⟨[.ref d, u, r], []⟩ >>= fun _ => _) _ _ s
  refine wpAny_bind (wpAny_notOrdered_dict hT ?_)
  show wpAny _ _ (dictSet d u r >>= fun _ => _) _ _ s
  exact wpAny_bind (dx_dictSet hu I hd m hk hd8 hz ry rv fun s' I' => wpAny_pure ⟨.none, rfl, wpAny_pure (h _ I')⟩)
theorem ps_dputX {pos pos' : Pos} (hw : X.w = w) (hu : X.A.in1.units + 8 < cLine) (ho : PE X o td) (hi : PE X i ty) (hv : PE X value tv) (hs : swapsWith value (some (.Subscript o i pos')) pos.line X.env = pure false) : PS X (.Assign [.Subscript o i pos'] value pos) (sDPutX w td ty tv) := by
  subst hw
  refine ⟨fun pins s σ H D I h => wpAny_Assign_Subscript (thn (hv.run pins s σ H _ I h) fun r s1 ⟨v, H1, I1, rv, q1⟩ => thn (ho.run pins s1 σ H1 _ I1 q1) fun u s2 ⟨x, H2, I2, rx, q2⟩ => thn (hi.run pins s2 σ H2 _ I2 q2) fun iv s3 ⟨y, H3, I3, ry, d, es, k, ex, e, m, hk, dk, hz, q3⟩ => ?_) hs⟩
  subst ex
  cases (show u = Value.ref d from rx)
  exact dx_setItem hu I3 e m hk dk hz ry rv fun s4 I4 => ⟨σ, _, I4, q3⟩
/-! ### list(d) -/
theorem call_listX (hc : X.calm = true) : CallR X (.type "list") (fun xs H Q => ∃ (d : Addr) (es : List En), xs = [V.ref d] ∧ Rd H d (DE X.w d es) ∧ ∀ p, H p = none → Q (.ref p) (upd H p (.lst (es.map fun e => e.2.1)))) := by
  intro pins s σ H xs us Q I r h
  obtain ⟨d, es, rfl, e, q⟩ := h
  obtain ⟨u, rfl, ru⟩ := vals1 r
  cases (show u = Value.ref d from ru)
  obtain ⟨hs, hl, hle, ar, ⟨ob, ep, ho, hx, hdt⟩, hz, al⟩ := dx_rd I.hok e
  rw [List.length_map] at hz hle
  refine PySem.W.kdl_call (kdl_raw hs hx hdt) (I.ok.hd hc) ho (by omega) fun h' tk acc c kp oL it => ?_
  have la : acc.toList.length = es.length := by rw [Array.length_toList, it.1, hz]
  have rel : Vals (es.map fun e => e.2.1) acc.toList := vals_of_at (by rw [List.length_map, la]) fun j x z ex ez => by
    rw [List.getElem?_map] at ex
    obtain ⟨en, ee, rfl⟩ := Option.map_eq_some_iff.mp ex
    obtain ⟨de, hde, rfl⟩ := it.2 j z (by rw [← Array.getElem?_toList]; exact ez)
    exact (al j de en.1 en.2 hde (by rw [List.getElem?_map, ee]; rfl) (by rw [List.getElem?_map, ee]; rfl)).2.1
  exact ⟨.ref s.heap.objs.size, _, I.laid (t' := tk) (o := .lst (es.map fun e => e.2.1)) kp (Nat.le_refl _) ⟨by rw [List.length_map]; exact hle, acc.toList, c, rel, by rw [Array.toArray_toList]; exact oL⟩, rfl, q _ (I.hok.fresh (Nat.le_refl _))⟩
end
end L2.MK
/-! list(d.items()), dict(pairs): keys of any kind -/
namespace L2.MK
open PySem PySem.Spec PyProof.Rows SeqAt
section
variable {prog : Program} {w : World} {A : Around} {E : Value → Shared → Prop} {s : Shared} {d r : Addr} {es : Array DictEntry} {ep : Nat}
/-- list(view of the pairs) -/
theorem list_view {Q : Value → Shared → Prop} (calm : A.handled = none) (view : s.heap.IsItemsView r d) (raw : DT.Raw s.heap d es ep) (few : es.size ≤ sizeLine)
    (fin : ∀ (h' : Heap) (tk : Nat) (acc : Array Value) (c : Nat) (as : List Addr), (∀ b o, s.heap.get? b = some o → h'.get? b = some o) → h'.get? s.heap.objs.size = some { cls := .type "list", dict := none, data := .seq acc c, slots := #[] } → as.length = es.size → DT.Made es s.heap.objs.size h' as → acc.toList = as.map Value.ref →
      Q (.ref s.heap.objs.size) { s with heap := h', toks := tk }) : wpAny (model prog w) A (call (.type "list") [.ref r]) Q E s := by
  have rlt : r < s.heap.objs.size := let ⟨_, e, _⟩ := view; Heap.lt_size e
  have dlt : d < s.heap.objs.size := raw.lt
  refine callType_codes (Q₁ := fun obj s1 => obj = .ref s.heap.objs.size ∧ s1 = { s with heap := s.heap.push { cls := .type "list", data := .seq #[] } }) PySem.F.called_list (PySem.F.typeCall_list_1 _) PySem.F.entry_list_init (code_list_new _ ⟨rfl, rfl⟩) ?_
  rintro obj s1 ⟨rfl, rfl⟩
  have laid : (s.heap.push { cls := .type "list", data := .seq #[] }).get? s.heap.objs.size = some { cls := .type "list", data := .seq #[] } := Heap.get?_push_size _ rfl
  have push : ∀ {b : Addr} {o : Obj}, s.heap.get? b = some o → (s.heap.push { cls := .type "list", data := .seq #[] }).get? b = some o := fun e => Heap.get?_push_of_some _ e
  refine ⟨⟨_, laid, rfl⟩, PySem.F.args_list_init_2 _ _, ?_⟩
  show wpAny _ _ (do let old ← Builtin.List.listItems (.ref s.heap.objs.size); Builtin.List.listUpdate (.ref s.heap.objs.size) (fun _ => #[]); letGo old.toList.reverse; Builtin.List.listExtendWith (.ref s.heap.objs.size) (.ref r) .none) _ _ _
  unfold Builtin.List.listItems
  refine wpAny_bind (wpAny_bind (wpAny_seqItems laid rfl (wpAny_pure ?_)))
  show wpAny _ _ (updateSeq s.heap.objs.size (fun _ => #[]) >>= fun _ => letGo (#[] : Array Value).toList.reverse >>= fun _ => Builtin.List.listExtendWith (.ref s.heap.objs.size) (.ref r) .none) _ _ _
  have laid2 := Heap.get?_update_self (Obj.mapSeq (fun _ => (#[] : Array Value))) laid rfl
  have other : ∀ {b : Addr} {o : Obj}, b ≠ s.heap.objs.size → (s.heap.push { cls := .type "list", data := .seq #[] }).get? b = some o → ((s.heap.push { cls := .type "list", data := .seq #[] }).update s.heap.objs.size (Obj.mapSeq (fun _ => (#[] : Array Value)))).get? b = some o := fun nb e => (Heap.get?_update_other _ _ (Ne.symm nb)).trans e
  refine wpAny_bind (wpAny_updateSeq laid rfl (wpAny_bind (wpAny_letGo ?_)))
  refine DT.extI (prog := prog) (w := w) (A := A.in1) (s := { s with heap := (s.heap.push { cls := .type "list", data := .seq #[] }).update s.heap.objs.size (Obj.mapSeq (fun _ => (#[] : Array Value))) }) calm (let ⟨o, e, x⟩ := view; ⟨o, other (Nat.ne_of_lt rlt) (push e), x⟩) (raw.at' fun o e => other (Nat.ne_of_lt dlt) (push e)) _ (Nat.ne_of_gt rlt) (Nat.ne_of_lt dlt) .none _ laid2 (fun h' tk acc c as keep oL la mk ea => ?_) few
  exact ⟨rfl, fin h' tk acc c as (fun b o e => keep b o (Nat.ne_of_lt (Heap.lt_size e)) (other (Nat.ne_of_lt (Heap.lt_size e)) (push e))) oL la (mk.low (Nat.le_of_lt (Heap.lt_size laid2))) ea⟩
end
section
variable {X : Cx} {pins : List (Addr × Obj)} {σ : L2.St} {H : Hp} {s : Shared} {e : Expr} {te : TE} {p apos cpos pos : Pos} {w : World}
/-- the pairs, each a new tuple, in a new list -/
def tItemsX (w : World) (te : TE) : TE := fun σ H Q => te σ H fun x H1 => ∃ (d : Addr) (es : List En), x = .ref d ∧ Rd H1 d (DE w d es) ∧ ∀ (H' : Hp) (q : Addr) (ts : List Addr), Same H1 H' → H1 q = none → H' q = some (.lst (ts.map V.ref)) → Paired (fun (t : Addr) (x : En) => H1 t = none ∧ H' t = some (.tup [x.2.1, x.2.2])) ts es → Q (.ref q) H'
theorem nth_pair {α β : Type} {R : α → β → Prop} : ∀ (xs : List α) (ys : List β), xs.length = ys.length → (∀ (i : Nat) (x : α) (y : β), xs[i]? = some x → ys[i]? = some y → R x y) → Paired R xs ys
  | [], [], _, _ => .nil
  | x :: xs, y :: ys, l, h => .cons (h 0 x y rfl rfl) (nth_pair xs ys (by simpa using l) fun i a b ea eb => h (i + 1) a b ea eb)
  | [], _ :: _, l, _ => by simp at l
  | _ :: _, [], l, _ => by simp at l
theorem pe_itemsX (hw : X.w = w) (hc : X.calm = true) (he : PE X e te) (hg : Gl X "list") (hm : X.mg "list" = none) (hv : bootBuiltins "list" = some (.type "list")) (hbase : attributeBase e "items" X.env (eval e X.env) = eval e X.env := by rfl) (hline : (apos.endLine == cpos.line) = true := by rfl)
    (hs : starEach [.Call (.Attribute e "items" apos) [] [] cpos] X.env = (false, eval (.Call (.Attribute e "items" apos) [] [] cpos) X.env) :: starEach [] X.env := by rfl) :
    PE X (.Call (.Name "list" p) [.Call (.Attribute e "items" apos) [] [] cpos] [] pos) (tItemsX w te) := by
  subst hw
  refine ⟨fun pins s σ H Q I reading => wpAny_Call_Name_kw (ld_blt I hg hm hv (PyProof.Rows.callWith_type1 ?_ hs rfl))⟩
  rw [hs]
  show wpAny _ _ (spliced ((false, eval (.Call (.Attribute e "items" apos) [] [] cpos) X.env) :: backTo pos (starEach [] X.env))) _ _ s
  refine Calls.spliced_cons (wpAny_Call_method (T := "dict") (id := "dict.items") hbase rfl hline F.plainAttrs_dict F.slot_dict_items F.type_dict_items (thn (he.run pins s σ H _ I reading) fun u sA ⟨x, HA, IA, rx, d, es, ex, rd, q⟩ => ?_))
  subst ex
  cases (show u = Value.ref d from rx)
  have hT := dx_type IA rd
  obtain ⟨sysn, hl, hle, ar, ⟨ob, ep, ho, hx, hdt⟩, hz, al⟩ := dx_rd IA.hok rd
  rw [List.length_map] at hle hz
  refine ⟨hT, dx_noDict IA rd, ?_⟩
  have IB : Inv X pins σ HA { sA with heap := sA.heap.push { cls := .type "dict_items", data := .fields #[.ref d] } } := IA.kept (t' := sA.toks) fun b ob q => Heap.get?_push_of_some _ q
  show wpAny _ _ (callWith cpos (.builtin "dict.items") [.ref d] [] []) _ X.xe sA
  refine method_meetsIn F.slot_dict_items F.entry_dict_items rfl (PySem.evalArgs_none ⟨rfl, hT, F.args_dict_items_1 _, _, DT.meetsItems (ep := ep) sysn, ⟨⟨ob, ho, hx, hdt⟩, ?_⟩⟩)
  refine Calls.spliced_nil (list_view (ep := ep) (es := ar) (d := d) (IA.ok.hd hc) ⟨_, Heap.get?_push_size _ rfl, rfl, rfl⟩ ⟨ob, Heap.get?_push_of_some _ ho, hx, hdt⟩ (by omega) fun h' tk acc c as keep oL la mk ea => ?_)
  generalize ({ sA with heap := sA.heap.push { cls := .type "dict_items", data := .fields #[.ref d] } } : Shared) = sB at IB keep oL mk
  have low : ∀ t ∈ as, sB.heap.objs.size < t := mk.above
  have unlike : as.Nodup := List.Pairwise.imp (fun {a b} (h : a < b) => Nat.ne_of_lt h) mk.rise
  have newS : HA sB.heap.objs.size = none := IB.hok.fresh (Nat.le_refl _)
  have newT : ∀ t ∈ as, HA t = none := fun t ht => IB.hok.fresh (Nat.le_of_lt (low t ht))
  have lae : as.length = es.length := by rw [la, hz]
  have relS : Vals (as.map V.ref) acc.toList := by rw [ea]; exact LiI.vals_refs as
  have IC : Inv X pins σ (upd HA sB.heap.objs.size (.lst (as.map V.ref))) { sB with heap := h', toks := tk } := IB.laid (t' := tk) keep (Nat.le_refl _) ⟨by rw [List.length_map, lae]; exact hle, acc.toList, c, relS, by rw [Array.toArray_toList]; exact oL⟩
  obtain ⟨HD, ID, grow, at_⟩ := DX.takeT (P := fun t vs => ∀ (j : Nat) (x : En), as[j]? = some t → es[j]? = some x → vs = [x.2.1, x.2.2]) IB as _ IC unlike fun t ht => by
    refine ⟨Nat.le_of_lt (low t ht), by rw [upd_ne (Nat.ne_of_gt (low t ht))]; exact newT t ht, ?_⟩
    obtain ⟨j, hj⟩ := List.mem_iff_getElem?.mp ht
    have lt : j < es.length := by rw [← lae]; exact (List.getElem?_eq_some_iff.mp hj).1
    obtain ⟨de, hde, obT⟩ := mk.pairs j t hj
    obtain ⟨_, r1, r2⟩ := al j de es[j].1 es[j].2 hde (by rw [List.getElem?_map, List.getElem?_eq_getElem lt]; rfl) (by rw [List.getElem?_map, List.getElem?_eq_getElem lt]; rfl)
    refine ⟨[es[j].2.1, es[j].2.2], fun i x e1 e2 => ?_, fun H2 => ⟨by show 2 ≤ sizeLine; decide, [de.key, de.val], .cons r1 (.cons r2 .nil), ⟨_, obT, rfl, _, rfl⟩⟩⟩
    obtain rfl : i = j := (List.getElem?_inj (List.getElem?_eq_some_iff.mp e1).1 unlike).mp (e1.trans hj.symm)
    rw [List.getElem?_eq_getElem lt] at e2
    rw [← Option.some.inj e2]
  have same : Same HA HD := fun b o z => grow b o (by rw [upd_ne (ne_of_none z newS)]; exact z)
  refine ⟨.ref _, HD, ID, rfl, q HD _ as same newS (grow _ _ upd_same) (nth_pair as es lae fun i t x e1 e2 => ⟨newT t (List.mem_of_getElem? e1), ?_⟩)⟩
  obtain ⟨vs, pv, ot⟩ := at_ t (List.mem_of_getElem? e1)
  rw [ot, pv i x e1 e2]
end
end L2.MK
/-! dict(pairs): keys of any kind -/
namespace L2.MK
open PySem PySem.Spec PyProof.Rows SeqAt
def putsE (acc rest : List En) : List En := rest.foldl (fun a x => putE a x.1 x.2.1 x.2.2) acc
theorem putsE_length : ∀ (rest acc : List En), (putsE acc rest).length ≤ acc.length + rest.length
  | [], acc => Nat.le_refl _
  | x :: rest, acc => by
    have h1 := putsE_length rest (putE acc x.1 x.2.1 x.2.2)
    have h2 := putE_length acc x.1 x.2.1 x.2.2
    show (putsE (putE acc x.1 x.2.1 x.2.2) rest).length ≤ _
    rw [List.length_cons]
    omega
section
variable {X : Cx} {pins : List (Addr × Obj)} {σ : L2.St} {H : Hp} {A : Around}
theorem sqT_keep {K : PySem.W.Frag} {H H' : Hp} {a : Addr} {xs : List V} (h : SqT K H a xs) (s : Same H H') : SqT K H' a xs := h.imp (fun r => r.imp (s _ _) fun ⟨o, e⟩ => ⟨o, s _ _ e⟩) id
theorem new_keeps {H : Hp} {p : Addr} {o : HO} (n : H p = none) : Same H (upd H p o) := fun c u z => by rw [upd_ne (ne_of_none z n)]; exact z
/-- what is known of a pair -/
structure PairX (K : PySem.W.Frag) (H : Hp) (b : Addr) (x : En) : Prop where
  t : SqT K H b [x.2.1, x.2.2]
  k : KeyH H x.1 x.2.1
  d : x.1.depth ≤ 8
theorem PairX.same {K : PySem.W.Frag} {H H' : Hp} {b : Addr} {x : En} (h : PairX K H b x) (s : Same H H') : PairX K H' b x := ⟨sqT_keep h.t s, h.k.mono fun _ _ e => s _ _ e, h.d⟩
theorem upd_walk {R : Result → Shared → Prop} {S it l : Addr} {bs : List Addr} {res : Value} (calm : A.handled = none) (hu : A.in1.units + 8 < cLine) (newS : H S = none) (newI : H it = none) (apart : it ≠ S) (il : l ≠ it) (ol : SqL X.K H l (bs.map V.ref))
    (off : it ≠ X.env.locals ∧ (it ∈ X.ex ∨ X.s_0.heap.objs.size ≤ it) ∧ (∀ (x : Str) (c : Addr), X.env.cells.lookup x = some c → c ≠ it) ∧ ∀ p ∈ X.pn ++ pins, p.1 ≠ it) :
    ∀ (rest : List En) (i : Nat) (acc : List En) (ix : Int) (t : Tok) (s : Shared), bs.length = i + rest.length → acc.length + rest.length ≤ sizeLine → (∀ (j : Nat) (x : En), rest[j]? = some x → ∃ b, bs[i + j]? = some b ∧ PairX X.K H b x) → s.heap.IsListIter it l i →
      MixE H acc → Inv X pins σ (upd H S (DE X.w S acc)) s → (∀ s', Inv X pins σ (upd H S (DE X.w S (putsE acc rest))) s' → R (.ok (.ret res)) s') → codeAny (model X.prog X.w) A (.builtin "dict.update.loop" ⟨[.ref S, .ref it, .int ix t, res], []⟩) R s := by
  have grow : ∀ es : List En, Same H (upd H S (DE X.w S es)) := fun es => new_keeps newS
  intro rest
  induction rest with
  | nil =>
    intro i acc ix t s len short pr iter mix I fin
    obtain ⟨its, rv, ls, _⟩ := I.list ((grow acc).seq ol)
    obtain rfl := refs_at rv
    refine codeAny_builtin ud_entry ?_
    rw [Around.under_plainId ud_plain _]
    show wpAny _ A.in1 (pyNext (.ref it) >>= fun _ => _) _ _ s
    refine wpAny_bind (wpAny_pyNext_list_end (A := A.in1) calm iter ls.isList (Array.getElem?_eq_none (by simp at len; simp [len])) fun h' ext => ?_)
    show wpAny _ A.in1 (Builtin.Dict.addKeywords S [] >>= fun _ => _) _ _ _
    refine wpAny_bind (wpAny_pure (wpAny_pure ?_))
    exact (fin _ (I.turned (t' := s.toks) (fun b ob hb e => ext b ob hb e) (by rw [upd_ne apart]; exact newI) off.1 off.2.1 off.2.2.1 off.2.2.2))
  | cons x rest more =>
    intro i acc ix t s len short pr iter mix I fin
    rw [List.length_cons] at len short
    obtain ⟨b, eb, px⟩ := pr 0 x rfl
    rw [Nat.add_zero] at eb
    obtain ⟨its, rv, ls, _⟩ := I.list ((grow acc).seq ol)
    obtain rfl := refs_at rv
    refine codeAny_builtin ud_entry ?_
    rw [Around.under_plainId ud_plain _]
    show wpAny _ A.in1 (pyNext (.ref it) >>= fun _ => _) _ _ s
    refine wpAny_bind (wpAny_pyNext_list_item (x := .ref b) iter ls.isList (by simp [eb]) fun h1 iter1 same1 => ?_)
    have I1 : Inv X pins σ (upd H S (DE X.w S acc)) { s with heap := h1 } := I.turned (t' := s.toks) (fun c ob hb e => (same1.2 c hb).trans e) (by rw [upd_ne apart]; exact newI) off.1 off.2.1 off.2.2.1 off.2.2.2
    have px1 := px.same (grow acc)
    obtain ⟨ws, rw_, tup, _⟩ := I1.tuple px1.t
    obtain ⟨u, r, rfl, ru, rr⟩ := vals2 rw_
    obtain ⟨o, ho, hcls, n, hdat⟩ := id tup
    show wpAny _ A.in1 (holding [Value.ref b] _ >>= fun _ => _) _ _ _
    refine wpAny_bind (wpAny_holding (wpAny_bind (wpAny_tryCatch ?_)))
    unfold Builtin.Dict.pairItems
    refine wpAny_bind (wpAny_typeOf (T := "tuple") ⟨o, ho, hcls⟩ ?_)
    rw [if_pos (by first | decide | rfl | simp)]
    refine wpAny_bind (wpAny_seqItems ho hdat (wpAny_pure ?_))
    show wpAny _ A.in1 (holding [u, r] (dictSet S u r)) _ _ _
    refine wpAny_holding (dx_dictSetS hu I1 upd_same (mix.mono fun a vs e => grow acc _ _ e) px1.k px.d (by omega) ru rr fun h2 t2 same2 I2 => ?_)
    rw [upd_upd] at I2
    refine wpAny_pure ⟨plainId_quiet ud_plain _, more (i + 1) (putE acc x.1 x.2.1 x.2.2) (ix + 1) 0 _ (by omega) (by have := putE_length acc x.1 x.2.1 x.2.2; omega) (fun j y e => ?_) (iter1.at fun ob e => same2.extBut it ob apart e) (mix.put px.k px.d) I2 fin⟩
    obtain ⟨b', e', p'⟩ := pr (j + 1) y (by simpa using e)
    exact ⟨b', by rw [show i + 1 + j = i + (j + 1) by omega]; exact e', p'⟩
/-- dict(xs), xs a list of pairs: later pairs win -/
theorem call_dictPX (hc : X.calm = true) (hu : X.A.in1.in1.units + 8 < cLine) : CallR X (.type "dict") (fun xs H Q => ∃ (a : Addr) (ps : List Addr) (es : List En), xs = [.ref a] ∧ SqL X.K H a (ps.map V.ref) ∧ Paired (fun b x => PairX X.K H b x) ps es ∧
    ∀ p, H p = none → MixE (upd H p (DE X.w p (putsE [] es))) (putsE [] es) → Q (.ref p) (upd H p (DE X.w p (putsE [] es)))) := by
  rintro pins s σ H xs us Q I r ⟨a, ps, es, rfl, ol, pr, q⟩
  obtain ⟨u, rfl, ru⟩ := vals1 r
  cases (show u = Value.ref a from ru)
  obtain ⟨its, rv, ⟨ob, n, ho, hcls, hnd, hdat⟩, hz⟩ := I.list ol
  rw [List.length_map] at hz
  have calm := I.ok.hd hc
  have lp : ps.length = es.length := Paired.length pr
  refine callType_codes (Q₁ := fun obj s1 => obj = .ref s.heap.objs.size ∧ s1 = { s with heap := s.heap.push { cls := .type "dict", data := .dict #[] } }) PySem.F.kt_called_dict (PySem.F.kt_typeCall_dict_1 _) PySem.F.entry_dict_init (kt_code_dict_new _ ⟨rfl, rfl⟩) ?_
  rintro obj s1 ⟨rfl, rfl⟩
  have newS : H s.heap.objs.size = none := I.hok.fresh (Nat.le_refl _)
  have I1 : Inv X pins σ (upd H s.heap.objs.size (DE X.w s.heap.objs.size [])) { s with heap := s.heap.push { cls := .type "dict", data := .dict #[] } } := I.laid (t' := s.toks) (fun b o e => Heap.get?_push_of_some _ e) (Nat.le_refl _) (dx_empty I.big)
  have hT := dx_type I1 (.inl upd_same)
  refine ⟨hT, PySem.F.args_dict_init_2 _ _, ?_⟩
  unfold Builtin.«dict.__init__»
  refine wpAny_bind ?_
  unfold Builtin.Dict.selfAndRest
  refine wpAny_bind (wpAny_notOrdered_dict hT ?_)
  show wpAny _ _ (pure (s.heap.objs.size, [Value.ref a])) _ _ _
  refine wpAny_pure ?_
  show wpAny _ _ (Builtin.Dict.updateFrom "dict.__init__" s.heap.objs.size (.ref a) [] .none) _ _ _
  unfold Builtin.Dict.updateFrom
  have ho1 : (s.heap.push { cls := .type "dict", data := .dict #[] }).get? a = some ob := Heap.get?_push_of_some _ ho
  refine wpAny_bind (wpAny_typeOf (T := "list") ⟨ob, ho1, hcls⟩ ?_)
  rw [if_pos (by first | decide | rfl | simp)]
  refine wpAny_bind (miss_list ho1 hcls hdat hnd calm fun h1 tk1 keep1 => ?_)
  rw [if_pos (show (none : Option Value).isNone = true from rfl)]
  refine wpAny_bind (wpAny_rule ?_)
  have I2 : Inv X pins σ (upd H s.heap.objs.size (DE X.w s.heap.objs.size [])) { s with heap := h1, toks := tk1 } := I1.kept (t' := tk1) keep1
  refine wpAny_bind (wpAny_pyIter_list ⟨ob, keep1 _ _ ho1, hcls, n, hdat⟩ ?_)
  have I3 : Inv X pins σ (upd H s.heap.objs.size (DE X.w s.heap.objs.size [])) { s with heap := h1.push { cls := .type "list_iterator", data := .fields #[.ref a, .int 0 0] }, toks := tk1 } := I2.kept (t' := tk1) fun b o e => Heap.get?_push_of_some _ e
  have freeI : (upd H s.heap.objs.size (DE X.w s.heap.objs.size [])) h1.objs.size = none := I2.hok.fresh (Nat.le_refl _)
  obtain ⟨_, f1, f2, f3, f4, f5⟩ := I2.fpOk (Nat.le_refl _) freeI
  have apart : h1.objs.size ≠ s.heap.objs.size := fun z => by rw [z, upd_same] at freeI; cases freeI
  rw [upd_ne apart] at freeI
  have go := upd_walk (X := X) (pins := pins) (σ := σ) (A := X.A.in1) (R := wants (fun r s2 => r = .none ∧ EP X pins σ Q (.ref s.heap.objs.size) s2) X.xe) (S := s.heap.objs.size) (it := h1.objs.size) (l := a) (bs := ps) (res := Value.none) calm hu newS freeI apart (Nat.ne_of_lt (Heap.lt_size (keep1 _ _ ho1))) ol ⟨f1, f3, f4, f5⟩ es 0 [] 0 0
    { s with heap := h1.push { cls := .type "list_iterator", data := .fields #[.ref a, .int 0 0] }, toks := tk1 } (by rw [Nat.zero_add]; exact lp) (by rw [List.length_nil, Nat.zero_add, ← lp]; exact hz)
    (fun j x e => by
      rw [Nat.zero_add]
      have lt : j < ps.length := by rw [lp]; exact (List.getElem?_eq_some_iff.mp e).1
      obtain ⟨y, ey, py⟩ := paired_get pr (List.getElem?_eq_getElem lt)
      rw [e] at ey
      obtain rfl := Option.some.inj ey
      exact ⟨_, List.getElem?_eq_getElem lt, py⟩)
    ⟨_, Heap.get?_push_size _ rfl, rfl, rfl⟩ ⟨fun i k p e => by simp at e, List.nodup_nil, fun _ z => by cases z⟩ I3
  have mixed : ∀ (rest acc : List En) (bs : List Addr), Paired (fun b x => PairX X.K H b x) bs rest → MixE H acc → MixE H (putsE acc rest) := fun rest => by
    induction rest with
    | nil => intro acc bs _ m; exact m
    | cons x rest ih =>
      intro acc bs pr m
      cases pr with
      | cons px pr => exact ih _ _ pr (m.put px.k px.d)
  have mx := mixed es [] ps pr ⟨fun i k p e => by simp at e, List.nodup_nil, fun _ z => by cases z⟩
  have fin := go fun s' I' => ⟨rfl, .ref s.heap.objs.size, _, I', rfl, q _ newS (mx.mono fun b vs e => new_keeps newS _ _ e)⟩
  first
    | exact wpAny_pure ⟨plainId_quiet ud_plain _, fin⟩
    | exact wpAny_bind (wpAny_pure (wpAny_pure ⟨plainId_quiet ud_plain _, fin⟩))
end
end L2.MK
/-! for x in d.values(): keys of any kind -/
namespace L2.MK
open PySem PySem.Spec PyProof.Rows SeqAt
section
variable {d : Addr} {ks : List NestedKey} {kvs : List (V × V)} {X : Cx} {pins : List (Addr × Obj)} {σ : L2.St} {H : Hp} {s : Shared}
def Itvx (w : World) (d : Addr) (o : Obj) (ks : List NestedKey) (kvs : List (V × V)) : It :=
  ⟨fun i H => H d = some (.frz o (DX w d ks kvs)) ∧ i < kvs.length, fun i H x H' => H' = H ∧ ∃ y, kvs[i]? = some (y, x), fun i H => H d = some (.frz o (DX w d ks kvs)) ∧ kvs.length ≤ i⟩
theorem frzV {ob : Obj} (I : Inv X pins σ H s) (h : H d = some (.frz ob (DX X.w d ks kvs))) : (d == sysModules) = false ∧ s.heap.get? d = some ob ∧ ob.ExactDict ∧ ∃ (es : Array DictEntry) (ep : Nat), ob.data = .dict es ep ∧ es.size = kvs.length ∧ ∀ (i : Nat) (p : V × V), kvs[i]? = some p → ∃ en : DictEntry, es[i]? = some en ∧ RelV p.2 en.val := by
  obtain ⟨hd, ⟨hs, hl, _, es, ⟨o', ep, ho, hx, hdt⟩, hz, al⟩, _⟩ := I.hok d _ h
  obtain rfl := Option.some.inj (hd.symm.trans ho)
  refine ⟨hs, hd, hx, es, ep, hdt, hz.trans hl, fun i p e => ?_⟩
  have l0 := (List.getElem?_eq_some_iff.mp e).1
  have l1 : i < es.size := by omega
  have l2 : i < ks.length := by omega
  exact ⟨es[i], Array.getElem?_eq_getElem l1, (al i _ _ p (Array.getElem?_eq_getElem l1) (List.getElem?_eq_getElem l2) e).2.2⟩
theorem turn_valsX {P : Program} {w : World} {K : PySem.W.Frag} {tg : Expr} {ob : Obj} {es : Array DictEntry} {ep : Nat} (it : Addr) (hod : ob.data = .dict es ep) : Turn P w K tg (Itvx w d ob ks kvs) [it] it (fun i h => h.IsValIter it d i kvs.length ep) where
  mem := by simp
  obj := fun i h st b hb => by
    obtain rfl : b = it := by simpa using hb
    exact let ⟨oi, e, c, dd⟩ := st; ⟨oi, e, fun v z => by rw [dd] at z; cases z⟩
  keep := fun i h h' st k => st.at fun oi e => k it (by simp) oi e
  item := by
    intro X hP hw hK hc i pins s σ H E I hf st hg
    subst hP hw hK
    obtain ⟨f0, f1, f2, f3, f4, f5⟩ := hf it (by simp)
    obtain ⟨hs, hgd, hx, es', ep', hdt, hsz, ent⟩ := frzV I hg.1
    obtain ⟨rfl, rfl⟩ := dict_ep hod hdt
    have lt : i < kvs.length := hg.2
    obtain ⟨en, hen, rk⟩ := ent i kvs[i] (List.getElem?_eq_getElem lt)
    obtain ⟨l1, rfl⟩ := Array.getElem?_eq_some_iff.mp hen
    rw [← hsz] at st
    refine wpAny_pyNext_values_item_raw st ⟨_, hgd, hx, hdt⟩ l1 fun h' st' sb => ?_
    rw [hsz] at st'
    obtain ⟨oi, e, c, dd⟩ := id st'
    exact ⟨es'[i].val, rfl, go_of (s := { s with heap := h' }) e c dd (by decide) ⟨kvs[i].2, H, I.turned (t' := s.toks) (fun b ob hb e => (sb.2 b hb).trans e) f0 f1 f3 f4 f5, rk, ⟨rfl, kvs[i].1, List.getElem?_eq_getElem lt⟩, st', fun b hb => (hf b hb).1⟩⟩
  done := by
    intro X hP hw hK hc i pins s σ H E I hf st hg
    subst hP hw hK
    obtain ⟨f0, f1, f2, f3, f4, f5⟩ := hf it (by simp)
    obtain ⟨hs, hgd, hx, es', ep', hdt, hsz, ent⟩ := frzV I hg.1
    obtain ⟨rfl, rfl⟩ := dict_ep hod hdt
    rw [← hsz] at st
    exact wpAny_pyNext_values_end_raw (I.ok.hd hc) st ⟨_, hgd, hx, hdt⟩ (by rw [hsz]; exact hg.2) fun h' eb => ⟨rfl, I.turned (t' := s.toks) (fun b ob hb e => eb b ob hb e) f0 f1 f3 f4 f5⟩
  self := fun _ _ _ _ _ st got => wpAny_pyIter_valiter st got
def iValsX (w : World) (td : TE) : TI := fun σ H R => td σ H fun x H1 => ∃ (d : Addr) (o : Obj) (ks : List NestedKey) (kvs : List (V × V)), x = .ref d ∧ H1 d = some (.frz o (DX w d ks kvs)) ∧ R (Itvx w d o ks kvs) H1
theorem pi_valsX {tg e : Expr} {td : TE} {apos cpos : Pos} (he : PE X e td) (hbase : attributeBase e "values" X.env (eval e X.env) = eval e X.env := by rfl) (hline : (apos.endLine == cpos.line) = true := by rfl) : PI X tg (.Call (.Attribute e "values" apos) [] [] cpos) (iValsX X.w td) := by
  refine ⟨fun pins s σ H R I got => ?_⟩
  refine wpAny_Call_method (T := "dict") (id := "dict.values") hbase rfl hline F.plainAttrs_dict F.slot_dict_values F.type_dict_values (thn (he.run pins s σ H _ I got) fun u s1 ⟨x, H1, I1, rx, d, o, ks, kvs, ex, hd, q⟩ => ?_)
  subst ex
  obtain rfl : u = Value.ref d := rx
  obtain ⟨hs, hgd, hx, es, ep, hdt, hsz, _⟩ := frzV I1 hd
  have raw : s1.heap.DictRaw d es ep := ⟨_, hgd, hx, hdt⟩
  refine ⟨raw.typeIs, dx_noDict I1 (.inr ⟨_, hd⟩), ?_⟩
  have Iv := I1.kept (t' := s1.toks) (h' := s1.heap.push { cls := .type "dict_values", data := .fields #[.ref d] }) fun b ob z => Heap.get?_push_of_some _ z
  refine method_meetsIn F.slot_dict_values F.entry_dict_values rfl (PySem.evalArgs_none ⟨rfl, raw.typeIs, F.args_dict_values_1 _, _, meets_dict_values_raw d hs, ⟨_, _, raw⟩, ?_⟩)
  refine wpAny_pyIter_values_raw (d := d) ⟨_, Heap.get?_push_size _ rfl, rfl, rfl⟩ (raw.at fun o e => Heap.get?_push_of_some _ e) (pi_one (tk := s1.toks) Iv _ (turn_valsX _ hdt) ⟨_, Heap.get?_push_size _ rfl, rfl, ?_⟩ q)
  rw [hsz] <;> rfl
theorem walk_valsX {w : World} {ob : Obj} : Walk (Itvx w d ob ks kvs) kvs.length (fun H => H d = some (.frz ob (DX w d ks kvs))) (fun i H x H' => H' = H ∧ ∃ y, kvs[i]? = some (y, x)) :=
  ⟨fun _ _ hi q => ⟨q, hi⟩, fun _ q => ⟨q, Nat.le_refl _⟩, fun _ _ _ _ _ _ y => y⟩
end
end L2.MK
/-! a.update(b): keys of any kind, all of b's new to a -/
namespace L2.MK
open PySem PySem.Spec PyProof.Rows SeqAt
section
variable {prog : Program} {w : World} {A : Around} {E : Value → Shared → Prop} {s : Shared} {d o : Addr} {es fs : Array DictEntry} {ks acc rest : List NestedKey} {k : NestedKey}
theorem nk_putNew {e : DictEntry} {Q : Unit → Shared → Prop} (hu : A.units + 8 < cLine) (hk : NestedIs s.heap k e.key) (hh : e.hash = k.hash w) (hd8 : k.depth ≤ 8) (hd : DictIs s.heap d es) (he : Ents w s.heap es ks) (hn : k ∉ ks) (hz : es.size ≤ sizeLine)
    (hQ : ∀ h', DictIs h' d (es.push e) → Heap.SameBut d s.heap h' → Q () { s with heap := h' }) : wpAny (model prog w) A (dictSetHashed d e.key e.hash e.val) Q E s := by
  obtain ⟨ob, ep, ho, hc, hdt⟩ := hd
  have ee : (⟨k.hash w, e.key, e.val⟩ : DictEntry) = e := by rw [← hh]
  rw [hh]
  unfold dictSetHashed
  try with_reducible refine wpAny_holding ?_
  refine wpAny_bind (nk_find hu hk hd8 ho hdt he (fun _ => ?_) fun j hj => absurd (List.mem_of_getElem? hj) hn)
  rw [← ee] at hQ
  exact wpAny_bind (wpAny_rule (wpAny_updateDictKeys (hz := hz) ho hdt (hQ _ ⟨_, ep + 1, Heap.get?_update_self _ ho (Obj.isFreed_of_dict (Obj.data_mapDictKeys hdt _)), hc.mapDictKeys _, Obj.data_mapDictKeys hdt _⟩ (Heap.SameBut.update ..))))
theorem merge_new {nm : String} {Q : Unit → Shared → Prop} (hu : A.units + 8 < cLine) (hdo : d ≠ o) (hoS : (o == sysModules) = false) (hd : DictIs s.heap d es) (he : Ents w s.heap es acc) (ho : DictIs s.heap o fs) (hf : Ents w s.heap fs rest) (nd : (acc ++ rest).Nodup) (sz : es.size + fs.size ≤ sizeLine) (e0 : es.size = 0 → fs.size = 0)
    (hQ : ∀ h' es', DictIs h' d es' → es'.toList = es.toList ++ fs.toList → Heap.SameBut d s.heap h' → Q () { s with heap := h' }) : wpAny (model prog w) A (Builtin.Dict.mergeDict nm d o) Q E s := by
  obtain ⟨oo, epo, hoo, hco, hdo'⟩ := id ho
  unfold Builtin.Dict.mergeDict
  rw [if_neg (by simpa using (hdo))]
  unfold Builtin.Dict.showsAll
  rw [if_neg (hoS ▸ Bool.false_ne_true)]
  refine wpAny_bind (wpAny_pure (wpAny_bind (wpAny_dictEntries hoo hdo' ?_)))
  obtain ⟨od, epd, hod, _, hdd⟩ := id hd
  dsimp only
  split
  case' isTrue nf =>
    refine (wpAny_bind (wpAny_dictEntries hod hdd ?_))
    split
    case' isTrue em =>
      exfalso
      have f0 : fs = #[] := Array.eq_empty_of_size_eq_zero (e0 (by rw [Array.isEmpty_iff.mp em]; rfl))
      rw [f0] at nf
      simp at nf
  all_goals
    refine wpAny_bind (wpAny_dictEpoch hoo hdo' (wpAny_bind (wpAny_dictEntries hoo hdo' ?_)))
    refine wpAny_bind ?_
    rw [Std.Legacy.Range.forIn_eq_forIn_range']
    simp only [Std.Legacy.Range.size, Nat.sub_zero, Nat.add_sub_cancel, Nat.div_one]
    refine wpAny_forIn_list _ (fun left _ s' => ∃ (h' : Heap) (i : Nat) (es' : Array DictEntry), s' = { s with heap := h' } ∧ left = List.range' i (fs.size - i) ∧ i ≤ fs.size ∧ DictIs h' d es' ∧ es'.toList = es.toList ++ fs.toList.take i ∧ Ents w h' es' (acc ++ rest.take i) ∧ h'.get? o = some oo ∧ Heap.SameBut d s.heap h')
      _ ?_ ?_ _ _ ⟨s.heap, 0, es, rfl, by rw [Nat.sub_zero], Nat.zero_le _, hd, by simp, by simpa using he, hoo, Heap.SameBut.refl _ _⟩
    · rintro x left b s' ⟨h', i, es', rfl, hr, hi, hd', el, he', hoo', hs'⟩
      have hlt : i < fs.size := by
        rcases Nat.lt_or_ge i fs.size with h | h
        · exact h
        · rw [Nat.sub_eq_zero_of_le h] at hr; cases hr
      obtain ⟨rfl, hleft⟩ : x = i ∧ left = List.range' (i + 1) (fs.size - (i + 1)) := by
        rw [show fs.size - i = (fs.size - (i + 1)) + 1 by omega, List.range'_succ] at hr
        exact List.cons.inj hr
      refine (wpAny_bind (wpAny_dictEntries hoo' hdo' ?_))
      have ef : fs[x]? = some fs[x] := Array.getElem?_eq_getElem hlt
      rw [ef]
      obtain ⟨k, ek, kis, kh, k8⟩ := hf.keyAt ef
      have kin : k ∉ acc ++ rest.take x := fun m => by
        rcases List.mem_append.mp m with m | m
        · exact (List.nodup_append.mp nd).2.2 k m k (List.mem_of_getElem? ek) rfl
        · obtain ⟨j, hj⟩ := List.mem_iff_getElem?.mp m
          rw [List.getElem?_take] at hj
          split at hj
          · rename_i jx
            have := (List.getElem?_inj (List.getElem?_eq_some_iff.mp hj).1 (List.nodup_append.mp nd).2.1).mp (hj.trans ek.symm)
            omega
          · cases hj
      have z' : es'.size = es.size + x := by
        rw [← Array.length_toList, el, List.length_append, List.length_take, Array.length_toList, Array.length_toList]
        omega
      have kis' := nested_but hd hs' kis
      refine wpAny_bind (wpAny_holding (nk_putNew (s := { s with heap := h' }) hu kis' kh k8 hd' he' kin (by omega) fun h2 hd2 hs2 => ?_))
      have hoo2 : h2.get? o = some oo := (hs2.2 o hdo.symm).trans hoo'
      refine wpAny_bind (wpAny_dictEpoch hoo2 hdo' ?_)
      rw [if_neg (by simp)]
      have tk : fs.toList.take (x + 1) = fs.toList.take x ++ [fs[x]] := by
        rw [List.take_succ, show fs.toList[x]? = some fs[x] by rw [Array.getElem?_toList]; exact ef]
        rfl
      have tr : rest.take (x + 1) = rest.take x ++ [k] := by
        rw [List.take_succ, ek]
        rfl
      have en := (ents_but hd' hs2 he').push (v := fs[x].val) (nested_but hd' hs2 kis') k8 kin
      have ee : (⟨k.hash w, fs[x].key, fs[x].val⟩ : DictEntry) = fs[x] := by rw [← kh]
      rw [ee, List.append_assoc, ← tr] at en
      exact wpAny_pure ⟨h2, x + 1, _, rfl, hleft, hlt, hd2, by rw [Array.toList_push, el, tk, List.append_assoc], en, hoo2, hs'.trans hs2⟩
    · rintro b s' ⟨h', i, es', rfl, hr, hi, hd', el, he', hoo', hs'⟩
      have hin : i = fs.size := by
        rcases Nat.lt_or_ge i fs.size with h | h
        · rw [show fs.size - i = (fs.size - (i + 1)) + 1 by omega, List.range'_succ] at hr
          cases hr
        · omega
      refine wpAny_pure (hQ _ _ hd' ?_ hs')
      rw [el, hin, ← Array.length_toList, List.take_length]
end
section
variable {X : Cx}
def rUpdX (w : World) : V → List V → Hp → VK → Prop := fun x vs H Q => ∃ (a b : Addr) (ea eb : List En), x = .ref a ∧ vs = [.ref b] ∧ b ≠ a ∧ H a = some (DE w a ea) ∧ H b = some (DE w b eb) ∧ MixE H ea ∧ MixE H eb ∧ ((ea ++ eb).map (·.1)).Nodup ∧ ea.length ≤ 1000 ∧ eb.length ≤ 1000 ∧ (ea = [] → eb = []) ∧ Q .non (upd H a (DE w a (ea ++ eb)))
theorem mt_updX {w : World} (hw : X.w = w) (hu : X.A.in1.units + 8 < cLine) : MtR X "dict.update" (rUpdX w) := by
  subst hw
  intro pins s σ H x xs v us Q I rx rxs got
  obtain ⟨a, b, ea, eb, rfl, rfl, ne, oa, ob, ma, mb, nd, la, lb, e0, q⟩ := got
  obtain ⟨u, rfl, ru⟩ := (rxs.one)
  obtain rfl : v = Value.ref a := rx
  obtain rfl : u = Value.ref b := ru
  obtain ⟨sa, la1, la2, esa, da, za, ala⟩ := dx_rd I.hok (.inl oa)
  obtain ⟨sb, lb1, lb2, esb, db, zb, alb⟩ := dx_rd I.hok (.inl ob)
  have ena := dx_ents I.hok ma la1 za ala
  have enb := dx_ents I.hok mb lb1 zb alb
  rw [List.length_map] at za zb
  have ta := dx_type I (.inl oa)
  have tb := dx_type I (.inl ob)
  refine wpAny_call_entry PySem.F.slot_dict_update ta PySem.F.entry_dict_update ?_ (PySem.F.args_dict_update_2 _ _)
  unfold Builtin.«dict.update»
  refine wpAny_bind ?_
  unfold Builtin.Dict.selfAndRest
  refine wpAny_bind (wpAny_notOrdered_dict ta ?_)
  show wpAny _ _ (pure (a, [Value.ref b])) _ _ s
  refine wpAny_pure ?_
  show wpAny _ _ (Builtin.Dict.updateFrom "dict.update" a (.ref b) [] .none) _ _ s
  unfold Builtin.Dict.updateFrom
  refine wpAny_bind (wpAny_typeOf tb ?_)
  rw [if_neg (by decide)]
  refine wpAny_bind ?_
  unfold Builtin.Dict.merge Builtin.Dict.readDirectly
  refine wpAny_bind ?_
  refine wpAny_bind (wpAny_isInstance tb isSubtype_dict_dict ?_)
  simp only [Bool.not_true, Bool.false_eq_true, if_false]
  refine wpAny_bind (wpAny_specialOf tb F.slot_dict_iter.lookup (wpAny_pure ?_))
  simp only [if_true, beq_self_eq_true]
  refine wpAny_bind (wpAny_pure ?_)
  refine merge_new (A := X.A.in1) hu ne.symm sb da ena db enb (by rw [← List.map_append]; exact nd) (by rw [za, zb, sizeLine_eq]; omega) (fun z => ?_) fun h' es' hd' el sm => ?_
  · rw [za] at z
    rw [zb, e0 (List.eq_nil_of_length_eq_zero z)]
    rfl
  show wpAny _ _ (Builtin.Dict.addKeywords a [] >>= _) _ _ _
  have there : ∃ o, h'.get? a = some o := let ⟨o, _, e, _⟩ := hd'; ⟨o, e⟩
  refine wpAny_bind (wpAny_pure (wpAny_pure ⟨.none, rfl, .non, _, d_write (t' := s.toks) I (by rw [oa]; exact True.intro) sm there (dx_new sa (by rw [List.length_map, List.length_map]) (by rw [List.length_map, List.length_append, sizeLine_eq]; omega) hd' ?_ ?_), rfl, q⟩))
  · rw [← Array.length_toList, el, List.length_append, Array.length_toList, Array.length_toList, za, zb, List.length_map, List.length_append]
  · intro i e k p h1 h2 h3
    rw [← Array.getElem?_toList, el] at h1
    rw [List.map_append] at h2 h3
    by_cases lt : i < ea.length
    · rw [List.getElem?_append_left (by rw [Array.length_toList, za]; exact lt), Array.getElem?_toList] at h1
      rw [List.getElem?_append_left (by rw [List.length_map]; exact lt)] at h2 h3
      exact ala i e k p h1 h2 h3
    · rw [List.getElem?_append_right (by rw [Array.length_toList, za]; omega), Array.getElem?_toList, Array.length_toList, za] at h1
      rw [List.getElem?_append_right (by rw [List.length_map]; omega), List.length_map] at h2 h3
      exact alb _ e k p h1 h2 h3
/-- a method of such a dict, called -/
def tBMX (w : World) (r : V → List V → Hp → VK → Prop) (to : TE) (t : TA) : TE := fun σ H Q => to σ H fun x H1 => (∃ (d : Addr) (ks : List NestedKey) (kvs : List (V × V)), x = .ref d ∧ Rd H1 d (DX w d ks kvs)) ∧ t σ H1 fun vs H2 => r x vs H2 Q
theorem pe_bmX {w : World} {name : Str} {id : String} {o e : Expr} {es : List Expr} {apos cpos : Pos} {to : TE} {t : TA} {r : V → List V → Hp → VK → Prop} (hw : X.w = w) (slot : Slot "dict" name id) (hty : typeOf (.builtin id) = pure (.type "method_descriptor")) (hm : MtR X id r) (ho : PE X o to) (ha : PA X (e :: es) t)
    (hbase : attributeBase o name X.env (eval o X.env) = eval o X.env := by rfl) (hfew : ((backTo cpos (starEach (e :: es) X.env)).all (fun x => !x.1) && (backToKw cpos (keywordEach [] X.env)).all (fun x => x.1.isSome) && decide ((e :: es).length + ([] : List Keyword).length + (if ([] : List Keyword).isEmpty then 0 else 1) < 30)) = true := by rfl)
    (hl : (apos.endLine == cpos.line) = true := by rfl) (hs : starEach (e :: es) X.env = (false, eval e X.env) :: starEach es X.env := by rfl) (hplain : (backTo cpos (starEach es X.env)).any (·.1) = false := by rfl) :
    PE X (.Call (.Attribute o name apos) (e :: es) [] cpos) (tBMX w r to t) := by
  subst hw
  refine ⟨fun pins s σ H Q I h => ?_⟩
  refine wpAny_Call_method_late hbase hfew hl rfl (thn (ho.run pins s σ H _ I h) fun v s1 ⟨x, H1, I1, r1, ⟨d, ks, kvs, ex, rd⟩, q1⟩ => ?_)
  subst ex
  obtain rfl : v = Value.ref d := r1
  refine ⟨"dict", id, PySem.F.plainAttrs_dict, slot, hty, dx_type I1 rd, dx_noDict I1 rd, ?_⟩
  have args := ha.run cpos pins s1 σ H1 _ I1 q1
  rw [hs] at args ⊢
  refine Calls.callWith_builtin (show (false || (backTo cpos (starEach es X.env)).any (·.1)) = false from hplain) (Calls.evalArgs_plain ?_)
  exact thn args fun us s2 ⟨vs, H2, I2, r2, q2⟩ => hm pins s2 σ H2 (.ref d) vs (.ref d) us Q I2 rfl r2 q2
end
end L2.MK
/-! _law_c_leads of a dict whose keys are pairs -/
namespace L2.TB
open PySem PySem.Spec PyProof.Rows MK
def spLeadsX (w : World) : Sp := fun vs H Q _ => ∃ (D : Addr) (es : List En) (Es : List ArT) (b : Str), vs = [.ref D, .str b] ∧ H D = some (DE w D es) ∧ Paired (fun (e : En) (a : ArT) => ∃ t, e.2.2 = .ref t ∧ H t = some (.tup [.str a.1, .str a.2])) es Es ∧ Es.length < 1000 ∧
  ∀ H' q (S : List Str), H q = none → H' q = some (.lst (S.map V.str)) → S.Nodup → (∀ n, n ∈ S ↔ Reach Es b n) → S.length ≤ Es.length + 1 → Same H H' → Q (.ref q) H'
section
variable {P : Program} {w : World} {K : PySem.W.Frag} {mg : Str → Option Value} {base : Heap} {f : Addr} {fd : FuncData}
theorem ok_leadsX (F : Fun K "_law_c_leads" "_law_c_leads" sLeads f fd) (nR : mg "range" = none) (nN : mg "len" = none) : FnOk P w K mg base CX0 1 f fd ["arcs", "first"] (spLeadsX w) := by
  refine F.ok scLeads (fun vs H Q E h => by obtain ⟨D, es, Es, b, e, _⟩ := h; rw [e]; rfl) fun cdv A outer s H vs Q E hr hsp => ?_
  obtain ⟨D, es, Es, b, rfl, oD, pr, sh, hq⟩ := hsp
  have nd := scLeads.nd
  refine ⟨_, pss_cons (ps_set (i := 2) nd rfl (Or.inl rfl) (pe_lst (pa_cons (pv 1) pa_nil)))
    (pss_cons (ps_for PassesOwn.never rfl (pi_range1 rfl nR (pa_cons (pe_callB call_lenX rfl nN boot_len (pa_cons (pv 0) pa_nil)) pa_nil)) (pg_name (i := 3) nd rfl (Or.inl rfl))
      (pss_one (ps_lock (ps_for PassesOwn.never rfl (pi_valsX (pv 0)) (pg_tup rfl (pgs_cons (pg_name (i := 4) nd rfl (Or.inl rfl)) (pgs_cons (pg_name (i := 5) nd rfl (Or.inl rfl)) pgs_nil)))
        (pss_one (ps_via (ps_if (PW.pt (pw_and (pt_cmpR op_in_seq (pv 4) (pv 2) rfl) (pw_and1 (pt_cmpR op_notIn_seq (pv 5) (pv 2) rfl))))
          (pss_one (ps_expr (pe_bm PySem.F.plainAttrs_list PySem.F.slot_list_append PySem.F.type_list_append mt_append (pv 2) (pa_cons (pv 5) pa_nil)))) pss_nil)))))))
    (pss_one (ps_ret (pv 2)))), ?_⟩
  have les : es.length = Es.length := Paired.length pr
  have lkv : (es.map fun x : En => x.2).length = es.length := List.length_map _
  refine ⟨_, rfl, (by show 1 ≤ sizeLine; decide), fun q nq => ?_⟩
  have k1 := same_new (o := .lst [.str b]) nq
  have oq : upd H q (.lst [.str b]) q = some (.lst ([b].map V.str)) := upd_same
  have qD : q ≠ D := fun z => by rw [z, oD] at nq; cases nq
  have oD1 := k1 _ _ oD
  generalize upd H q (.lst [.str b]) = H1 at k1 oq oD1
  refine ⟨_, rfl, D, _, _, rfl, .inl oD1, _, rfl, (by omega), (by omega), for_range (n := (es.map fun x : En => x.2).length) (fun i σ H' => ∃ (S : List Str) (s3 s4 s5 : Option V), σ = [some (.ref D), some (.str b), some (.ref q), s3, s4, s5] ∧ H' q = some (.lst (S.map V.str)) ∧ RI Es b 0 S ∧ Same H H' ∧ (i + 1 ≤ S.length ∨ ∀ e ∈ Es, e.1 ∈ S → e.2 ∈ S))
    ⟨[b], _, _, _, rfl, oq, ⟨by simp, by simp, fun n hn => by rw [List.mem_singleton.mp hn]; exact .base, Nat.zero_le _, fun j n lt => absurd lt (Nat.not_lt_zero _), fun n hn => .inl (List.mem_singleton.mp hn)⟩, k1, .inl (Nat.le_refl _)⟩ ?_ ?_⟩
  · rintro i σ H2 lt ⟨S, s3, s4, s5, rfl, oq2, R, k2, prog⟩
    have sh2 := R.short
    have oD2 := k2 _ _ oD
    refine ⟨D, _, oD2, trivial, fun od => ⟨_, rfl, D, od, _, _, rfl, upd_same, for_it walk_valsX (fun j σ H' => ∃ (S' : List Str) (s4 s5 : Option V), σ = [some (.ref D), some (.str b), some (.ref q), some (.int (0 + (i : Nat))), s4, s5] ∧ H' q = some (.lst (S'.map V.str)) ∧ RI Es b 0 S' ∧ Same (upd H D (.frz od (DE w D es))) H' ∧ (∀ x ∈ S, x ∈ S') ∧ (S' = S ∨ S.length + 1 ≤ S'.length) ∧ ∀ e ∈ Es.take j, e.1 ∈ S → e.2 ∈ S')
      ⟨S, _, _, rfl, by rw [upd_ne qD]; exact oq2, R, fun c o e => ?_, fun x h => h, .inl rfl, fun e he => by rw [List.take_zero] at he; cases he⟩ (fun j σ H' _ h => ?_) ?_ ?_⟩⟩
    · by_cases c1 : c = D
      · rw [c1, upd_same] at e
        rw [c1, upd_same]
        exact e
      · rw [upd_ne c1] at e
        rw [upd_ne c1]
        exact k2 _ _ e
    · obtain ⟨_, _, _, _, _, _, k, _⟩ := h
      exact k _ _ upd_same
    · rintro j y σ H3 H4 lt ⟨S', s4, s5, rfl, oq3, R3, k3, sub, gr, cl⟩ ⟨rfl, k0, ekv⟩
      rw [List.getElem?_map] at ekv
      obtain ⟨en, een, eyv⟩ := Option.map_eq_some_iff.mp ekv
      obtain ⟨e2, ee, t0, hv, op⟩ := paired_get pr een
      obtain rfl : y = .ref t0 := by rw [← hv, eyv]
      have tD : t0 ≠ D := fun z => by rw [z, oD] at op; cases op
      have op3 := k3 _ _ (show upd H D (.frz od (DE w D es)) t0 = _ by rw [upd_ne tD]; exact op)
      have eE : Es[j]? = some e2 := ee
      have ein : e2 ∈ Es := List.mem_of_getElem? eE
      have tk : Es.take (j + 1) = Es.take j ++ [e2] := by rw [List.take_succ, eE]; rfl
      have sh3 := R3.short
      refine ⟨t0, _, rfl, SqT.of op3, rfl, _, _, rfl, _, _, rfl, rfl, ?_⟩
      refine ⟨fun σ' H' => ∃ (S' : List Str) (s4 s5 : Option V), σ' = [some (.ref D), some (.str b), some (.ref q), some (.int (0 + (i : Nat))), s4, s5] ∧ H' q = some (.lst (S'.map V.str)) ∧ RI Es b 0 S' ∧ Same (upd H D (.frz od (DE w D es))) H' ∧ (∀ x ∈ S, x ∈ S') ∧ (S' = S ∨ S.length + 1 ≤ S'.length) ∧ ∀ e ∈ Es.take (j + 1), e.1 ∈ S → e.2 ∈ S', ?_, fun σ' H' h => h⟩
      have stay : (e2.1 ∈ S' → e2.2 ∈ S') → ∀ e' ∈ Es.take (j + 1), e'.1 ∈ S → e'.2 ∈ S' := fun h e' he' h1 => by
        rw [tk] at he'
        rcases List.mem_append.mp he' with z | z
        · exact cl e' z h1
        · rw [List.mem_singleton.mp z] at h1 ⊢
          exact h (sub _ h1)
      refine ⟨_, rfl, _, rfl, q, _, rfl, .inl (SqL.of oq3), rfl, flat_strs S', _, rfl, ?_⟩
      rw [if_neg Bool.false_ne_true, inV_strs]
      by_cases c : e2.1 ∈ S'
      case neg =>
        rw [decide_eq_false c]
        exact iteF (iteF ⟨S', _, _, rfl, oq3, R3, k3, sub, gr, stay fun h => absurd h c⟩)
      rw [decide_eq_true c]
      refine iteT ⟨_, rfl, _, rfl, q, _, rfl, .inl (SqL.of oq3), rfl, flat_strs S', _, rfl, ?_⟩
      rw [if_pos rfl, inV_strs]
      by_cases m : e2.2 ∈ S'
      · rw [decide_eq_true m]
        exact iteF ⟨S', _, _, rfl, oq3, R3, k3, sub, gr, stay fun _ => m⟩
      · rw [decide_eq_false m]
        refine iteT ⟨_, rfl, .inl ⟨rfl, _, SqL.of oq3⟩, _, rfl, q, _, _, rfl, rfl, oq3, by rw [sizeLine_eq, List.length_map]; omega, ?_⟩
        refine ⟨S' ++ [e2.2], _, _, rfl, by rw [upd_same, List.map_append]; rfl, R3.add ein c m, fun c' o h => ?_, fun x h => List.mem_append_left _ (sub x h), .inr ?_, fun e' he' h1 => ?_⟩
        · have nb : c' ≠ q := fun z => by
            rw [z, upd_ne qD, nq] at h
            cases h
          rw [upd_ne nb]
          exact k3 _ _ h
        · rw [List.length_append]
          have : S.length ≤ S'.length := by rcases gr with h | h <;> first | (rw [h]; exact Nat.le_refl _) | omega
          show _ ≤ S'.length + 1
          omega
        · rw [tk] at he'
          rcases List.mem_append.mp he' with z | z
          · exact List.mem_append_left _ (cl e' z h1)
          · rw [List.mem_singleton.mp z]; exact List.mem_append_right _ (List.mem_singleton.mpr rfl)
    · rintro σ H3 ⟨S', s4, s5, rfl, oq3, R3, k3, sub, gr, cl⟩
      obtain ⟨b1, k4⟩ := lock_offN oD k3
      rw [lkv, les, List.take_length] at cl
      refine ⟨b1, S', _, _, _, rfl, by rw [upd_ne qD]; exact oq3, R3, k4, ?_⟩
      rcases gr with rfl | h
      · exact .inr cl
      · rcases prog with p | p
        · exact .inl (by omega)
        · exfalso
          have z := nd_sub_len R3.nd fun x hx => reach_in R.b0 p (R3.r x hx)
          omega
  · rintro σ H2 ⟨S, s3, s4, s5, rfl, oq2, R, k2, prog⟩
    have cl : ∀ e ∈ Es, e.1 ∈ S → e.2 ∈ S := by
      rcases prog with h | h
      · exact fun e he _ => closed_all R (by rw [← les, ← lkv]; exact h) e he
      · exact h
    have sh2 := R.short
    exact ⟨_, rfl, hq _ q S nq oq2 R.nd (fun n => ⟨R.r n, fun h => reach_in R.b0 cl h⟩) sh2 k2⟩
end
end L2.TB
/-! dicts made of pairs -/
namespace L2.TB
open PySem PySem.Spec PyProof.Rows MK
def rDictPX (w : World) (K : PySem.W.Frag) : List V → Hp → VK → Prop := fun xs H Q => ∃ (a : Addr) (ps : List Addr) (es : List En), xs = [.ref a] ∧ SqL K H a (ps.map V.ref) ∧ Paired (fun b x => PairX K H b x) ps es ∧
  ∀ p, H p = none → MixE (upd H p (DE w p (putsE [] es))) (putsE [] es) → Q (.ref p) (upd H p (DE w p (putsE [] es)))
theorem call_dictPXw {X : Cx} {w : World} (hw : X.w = w) (hc : X.calm = true) (hu : X.A.in1.in1.units + 8 < cLine) : CallR X (.type "dict") (rDictPX w X.K) := by
  subst hw
  exact call_dictPX hc hu
theorem hu_in2 {k : Nat} {A : Around} (hr : Room k A) : A.in1.in1.units + 8 < cLine := by
  have h := hr.un
  show A.units + _ + _ + 8 < cLine
  omega
theorem putsE_nd : ∀ (es acc : List En), ((acc ++ es).map (·.1)).Nodup → putsE acc es = acc ++ es
  | [], acc, _ => (List.append_nil acc).symm
  | x :: es, acc, nd => by
    have e : acc ++ x :: es = (acc ++ [x]) ++ es := by simp
    rw [e] at nd ⊢
    have no : x.1 ∉ acc.map (·.1) := fun h => by
      rw [List.map_append, List.map_append, List.nodup_append] at nd
      have nd1 := nd.1
      rw [List.nodup_append] at nd1
      exact nd1.2.2 _ h _ (by simp) rfl
    show putsE (putE acc x.1 x.2.1 x.2.2) es = _
    rw [putE_new no]
    exact putsE_nd es _ nd
theorem hu_in {k : Nat} {A : Around} (hr : Room k A) : A.in1.units + 8 < cLine := by
  have h := hr.un
  show A.units + _ + 8 < cLine
  omega
end L2.TB
/-! what spans what: lists that span none of their own, the dearest of them -/
namespace L2.TB
open PySem PySem.Spec
section
variable {α : Type} [eqα : DecidableEq α]
structure Clo (C : List α → α → Prop) : Prop where
  mono : ∀ {X Y : List α} {e : α}, (∀ x ∈ X, x ∈ Y) → C X e → C Y e
  self : ∀ {X : List α} {e : α}, e ∈ X → C X e
  trans : ∀ {X Y : List α} {e : α}, (∀ y ∈ Y, C X y) → C Y e → C X e
  exch : ∀ {X : List α} {g e : α}, C (g :: X) e → ¬ C X e → C (e :: X) g
/-- none is spanned by those behind it -/
def IndL (C : List α → α → Prop) : List α → Prop
  | [] => True
  | e :: X => ¬ C X e ∧ IndL C X
variable {C : List α → α → Prop}
theorem ind_perm (c : Clo C) {X Y : List α} (p : X.Perm Y) : IndL C X → IndL C Y := by
  induction p with
  | nil => exact id
  | cons a p ih => exact fun h => ⟨fun z => h.1 (c.mono (fun x hx => p.mem_iff.mpr hx) z), ih h.2⟩
  | swap a b X => exact fun h => ⟨fun z => h.2.1 (Classical.byContradiction fun q => by
      by_cases d : C X a
      · exact h.2.1 d
      · exact h.1 (c.exch z d)), fun z => h.1 (c.mono (fun x hx => List.mem_cons_of_mem _ hx) z), h.2.2⟩
  | trans _ _ i1 i2 => exact fun h => i2 (i1 h)
theorem ind_sub {X Y : List α} (s : List.Sublist X Y) (c : Clo C) : IndL C Y → IndL C X := by
  induction s with
  | slnil => exact id
  | cons a _ ih => exact fun h => ih h.2
  | cons_cons a s ih => exact fun h => ⟨fun z => h.1 (c.mono (fun x hx => s.subset hx) z), ih h.2⟩
/-- one of those that span is not needed where a new one comes in -/
theorem steinitz (c : Clo C) : ∀ (R : List α) {P : List α} {f : α}, ¬ C P f → C (R ++ P) f → ∃ R1 g R2, R = R1 ++ g :: R2 ∧ C (f :: (R2 ++ P)) g
  | [], P, f, n, h => absurd h n
  | g :: R, P, f, n, h => by
    by_cases q : C (R ++ P) f
    · obtain ⟨R1, g', R2, rfl, z⟩ := steinitz c R n q
      exact ⟨g :: R1, g', R2, rfl, z⟩
    · exact ⟨[], g, R, rfl, c.exch h q⟩
theorem ind_len_go (c : Clo C) : ∀ (F P R : List α), IndL C (F.reverse ++ P) → (∀ f ∈ F, C (R ++ P) f) → F.length ≤ R.length
  | [], P, R, _, _ => Nat.zero_le _
  | f :: F, P, R, i, s => by
    have i2 : IndL C (F.reverse ++ (f :: P)) := by
      rw [List.reverse_cons, List.append_assoc] at i
      exact i
    have nf : ¬ C P f := (show IndL C (f :: P) from ind_sub (List.sublist_append_right _ _) c i2).1
    obtain ⟨R1, g, R2, rfl, z⟩ := steinitz c R nf (s f List.mem_cons_self)
    have ih := ind_len_go c F (f :: P) (R1 ++ R2) i2 fun f' hf => by
      refine c.trans (fun y hy => ?_) (s f' (List.mem_cons_of_mem _ hf))
      rcases List.mem_append.mp hy with hy | hy
      · rcases List.mem_append.mp hy with hy | hy
        · exact c.self (List.mem_append_left _ (List.mem_append_left _ hy))
        · rcases (List.mem_cons.mp hy) with rfl | hy
          · refine c.mono (fun x hx => ?_) z
            rcases List.mem_cons.mp hx with rfl | hx
            · exact List.mem_append_right _ List.mem_cons_self
            · rcases List.mem_append.mp hx with hx | hx
              · exact List.mem_append_left _ (List.mem_append_right _ hx)
              · exact List.mem_append_right _ (List.mem_cons_of_mem _ hx)
          · exact c.self (List.mem_append_left _ (List.mem_append_right _ hy))
      · exact c.self (List.mem_append_right _ (List.mem_cons_of_mem _ hy))
    simp only [List.length_append, List.length_cons] at ih ⊢
    omega
theorem ind_len (c : Clo C) {F G : List α} (i : IndL C F) (s : ∀ f ∈ F, C G f) : F.length ≤ G.length :=
  ind_len_go c F [] G (by rw [List.append_nil]; exact ind_perm c (List.reverse_perm F).symm i) (by rw [List.append_nil]; exact s)
theorem augment (c : Clo C) {A B : List α} (ib : IndL C B) (lt : A.length < B.length) : ∃ b ∈ B, ¬ C A b := Classical.byContradiction fun n => by
  have z := ind_len c ib (G := A) fun f hf => Classical.byContradiction fun q => n ⟨f, hf, q⟩
  omega
/-- taken one after the other, each that is not spanned by those taken -/
noncomputable def greedy (C : List α → α → Prop) : List α → List α → List α
  | G, [] => G
  | G, e :: L => by
    classical
    exact if C G e then greedy C G L else greedy C (e :: G) L
theorem greedy_snoc : ∀ (L : List α) (G : List α) (e : α), greedy C G (L ++ [e]) = (by classical exact if C (greedy C G L) e then greedy C G L else e :: greedy C G L)
  | [], G, e => rfl
  | a :: L, G, e => by
    classical
    show (if C G a then greedy C G (L ++ [e]) else greedy C (a :: G) (L ++ [e])) = if C (if C G a then greedy C G L else greedy C (a :: G) L) e then (if C G a then greedy C G L else greedy C (a :: G) L) else e :: (if C G a then greedy C G L else greedy C (a :: G) L)
    by_cases h : C G a
    · rw [if_pos h, if_pos h]
      exact greedy_snoc L G e
    · rw [if_neg h, if_neg h]
      exact greedy_snoc L (a :: G) e
end
end L2.TB
/-! what greedy takes is dearest; arcs gone either way span so -/
namespace L2.TB
open PySem PySem.Spec
section
variable {α : Type} [DecidableEq α] {C : List α → α → Prop}
theorem greedy_ind : ∀ (L G : List α), IndL C G → IndL C (greedy C G L)
  | [], G, h => h
  | e :: L, G, h => by
    classical
    show IndL C (if C G e then greedy C G L else greedy C (e :: G) L)
    by_cases q : C G e
    · rw [if_pos q]; exact greedy_ind L G h
    · rw [if_neg q]; exact greedy_ind L (e :: G) ⟨q, h⟩
theorem greedy_in : ∀ (L G : List α), ∀ x ∈ greedy C G L, x ∈ G ∨ x ∈ L
  | [], G, x, h => .inl h
  | e :: L, G, x, h => by
    classical
    have h : x ∈ (if C G e then greedy C G L else greedy C (e :: G) L) := h
    by_cases q : C G e
    · rw [if_pos q] at h
      exact (greedy_in L G x h).imp id fun z => List.mem_cons_of_mem _ z
    · rw [if_neg q] at h
      rcases greedy_in L (e :: G) x h with z | z
      · rcases List.mem_cons.mp z with rfl | z
        · exact .inr List.mem_cons_self
        · exact .inl z
      · exact .inr (List.mem_cons_of_mem _ z)
theorem greedy_keep : ∀ (L G : List α), ∀ x ∈ G, x ∈ greedy C G L
  | [], G, x, h => h
  | e :: L, G, x, h => by
    classical
    show x ∈ (if C G e then greedy C G L else greedy C (e :: G) L)
    by_cases q : C G e
    · rw [if_pos q]; exact greedy_keep L G x h
    · rw [if_neg q]; exact greedy_keep L (e :: G) x (List.mem_cons_of_mem _ h)
theorem greedy_span (c : Clo C) : ∀ (L G : List α), ∀ x ∈ L, C (greedy C G L) x
  | e :: L, G, x, h => by
    classical
    show C (if C G e then greedy C G L else greedy C (e :: G) L) x
    by_cases q : C G e
    · rw [if_pos q]
      rcases List.mem_cons.mp h with rfl | h
      · exact c.mono (greedy_keep L G) q
      · exact greedy_span c L G x h
    · rw [if_neg q]
      rcases List.mem_cons.mp h with rfl | h
      · exact c.self (greedy_keep L (x :: G) x List.mem_cons_self)
      · exact greedy_span c L (e :: G) x h
theorem sum_perm {w : α → Int} {X Y : List α} (p : X.Perm Y) : (X.map w).sum = (Y.map w).sum := by
  induction p with
  | nil => rfl
  | cons a p ih => rw [List.map_cons, List.map_cons, List.sum_cons, List.sum_cons, ih]
  | swap a b X => simp only [List.map_cons, List.sum_cons]; omega
  | trans _ _ i1 i2 => rw [i1, i2]
/-- no list that spans none of its own is dearer than what is taken from the dearest on -/
theorem greedy_best (c : Clo C) {w : α → Int} : ∀ (n : Nat) (L : List α), L.length = n → (∀ x ∈ L, 0 ≤ w x) → L.Pairwise (fun a b => w b ≤ w a) → ∀ F : List α, IndL C F → (∀ f ∈ F, f ∈ L) → (F.map w).sum ≤ ((greedy C [] L).map w).sum
  | 0, L, hn, _, _, F, _, s => by
    obtain rfl := List.eq_nil_of_length_eq_zero hn
    cases F with
    | nil => exact Int.le_refl _
    | cons f F => cases s f List.mem_cons_self
  | n + 1, L, hn, nn, so, F, iF, s => by
    obtain ⟨L', e, rfl⟩ : ∃ L' e, L = L' ++ [e] := by
      rcases List.eq_nil_or_concat L with rfl | ⟨L', e, h⟩
      · cases hn
      · exact ⟨L', e, by simpa using h⟩
    have ln : L'.length = n := by rw [List.length_append] at hn; simpa using hn
    have ih := greedy_best c n L' ln (fun x hx => nn x (List.mem_append_left _ hx)) (List.pairwise_append.mp so).1
    have low : ∀ x ∈ L', w e ≤ w x := fun x hx => (List.pairwise_append.mp so).2.2 x hx e (List.mem_singleton.mpr rfl)
    have e0 := nn e (List.mem_append_right _ (List.mem_singleton.mpr rfl))
    have sp := greedy_span c L' []
    have gi : IndL C (greedy C [] L') := greedy_ind L' [] trivial
    classical
    rw [greedy_snoc]
    by_cases he : e ∈ F
    · have pF := List.perm_cons_erase he
      have iF2 := ind_perm c pF iF
      have sub : ∀ f ∈ F.erase e, f ∈ L' := fun f hf => by
        rcases List.mem_append.mp (s f (List.mem_of_mem_erase hf)) with h | h
        · exact h
        · rw [List.mem_singleton.mp h] at hf
          exact absurd (c.self hf) iF2.1
      rw [sum_perm pF, List.map_cons, List.sum_cons]
      by_cases q : C (greedy C [] L') e
      · rw [if_pos q]
        have ll := ind_len c iF (G := greedy C [] L') fun f hf => by
          rcases List.mem_append.mp (s f hf) with h | h
          · exact sp f h
          · rw [List.mem_singleton.mp h]; exact q
        have le : (F.erase e).length + 1 = F.length := by
          rw [pF.length_eq, List.length_cons]
        obtain ⟨g, hg, ng⟩ := augment c gi (A := F.erase e) (by omega)
        have hgL : g ∈ L' := (greedy_in L' [] g hg).resolve_left fun z => by cases z
        have z := ih (g :: F.erase e) ⟨ng, iF2.2⟩ fun f hf => by
          rcases (List.mem_cons.mp hf) with rfl | hf
          · exact hgL
          · exact sub f hf
        rw [List.map_cons, List.sum_cons] at z
        have := low g hgL
        omega
      · rw [if_neg q, List.map_cons, List.sum_cons]
        have := ih (F.erase e) iF2.2 sub
        omega
    · have z := ih F iF fun f hf => by
        rcases List.mem_append.mp (s f hf) with h | h
        · exact h
        · rw [List.mem_singleton.mp h] at hf
          exact absurd hf he
      by_cases q : C (greedy C [] L') e
      · rw [if_pos q]; exact z
      · rw [if_neg q, List.map_cons, List.sum_cons]
        omega
end
/-! arcs gone either way -/
theorem eith_on {L : NtT} {e : Str × ArT} (h : e ∈ L) : (e.2.1, e.2.2) ∈ eithE L := List.mem_map.mpr ⟨onS e, List.mem_append_left _ (List.mem_map_of_mem h), rfl⟩
theorem eith_bk {L : NtT} {e : Str × ArT} (h : e ∈ L) : (e.2.2, e.2.1) ∈ eithE L := List.mem_map.mpr ⟨bkS e, List.mem_append_right _ (List.mem_map_of_mem h), rfl⟩
theorem eith_of {L : NtT} {u v : Str} (h : (u, v) ∈ eithE L) : ∃ e ∈ L, (u = e.2.1 ∧ v = e.2.2) ∨ (u = e.2.2 ∧ v = e.2.1) := by
  obtain ⟨s, hs, es⟩ := List.mem_map.mp h
  rcases List.mem_append.mp hs with hs | hs
  · obtain ⟨e, he, rfl⟩ := List.mem_map.mp hs
    cases es
    exact ⟨e, he, .inl ⟨rfl, rfl⟩⟩
  · obtain ⟨e, he, rfl⟩ := List.mem_map.mp hs
    cases es
    exact ⟨e, he, .inr ⟨rfl, rfl⟩⟩
theorem eith_symm {L : NtT} {a b : Str} (h : Reach (eithE L) a b) : Reach (eithE L) b a := by
  induction h with
  | base => exact .base
  | step _ m ih =>
    obtain ⟨e, he, ⟨rfl, rfl⟩ | ⟨rfl, rfl⟩⟩ := eith_of m
    · exact reach_trans (.step .base (eith_bk he)) ih
    · exact reach_trans (.step .base (eith_on he)) ih
theorem reach_map {E E' : List ArT} (h : ∀ u v, (u, v) ∈ E → Reach E' u v) {a b : Str} (r : Reach E a b) : Reach E' a b := by
  induction r with
  | base => exact .base
  | step _ m ih => exact reach_trans ih (h _ _ m)
def SpanN (X : NtT) (e : Str × ArT) : Prop := Reach (eithE X) e.2.2 e.2.1
theorem eith_add {X : NtT} {g : Str × ArT} {a b : Str} (h : Reach (eithE (g :: X)) a b) : Reach (eithE X) a b ∨ (Reach (eithE X) a g.2.1 ∧ Reach (eithE X) g.2.2 b) ∨ (Reach (eithE X) a g.2.2 ∧ Reach (eithE X) g.2.1 b) := by
  induction h with
  | base => exact .inl .base
  | @step x y _ m ih =>
    obtain ⟨e, he, hxy⟩ := eith_of m
    rcases (List.mem_cons.mp he) with rfl | he
    · rcases hxy with ⟨rfl, rfl⟩ | ⟨rfl, rfl⟩
      · rcases ih with h | ⟨h1, h2⟩ | ⟨h1, h2⟩
        · exact .inr (.inl ⟨h, .base⟩)
        · exact .inr (.inl ⟨h1, .base⟩)
        · exact .inl h1
      · rcases ih with h | ⟨h1, h2⟩ | ⟨h1, h2⟩
        · exact .inr (.inr ⟨h, .base⟩)
        · exact .inl h1
        · exact .inr (.inr ⟨h1, .base⟩)
    · have st : Reach (eithE X) x y := by
        rcases hxy with ⟨rfl, rfl⟩ | ⟨rfl, rfl⟩
        · exact .step .base (eith_on he)
        · exact .step .base (eith_bk he)
      rcases ih with h | ⟨h1, h2⟩ | ⟨h1, h2⟩
      · exact .inl (reach_trans h st)
      · exact .inr (.inl ⟨h1, reach_trans h2 st⟩)
      · exact .inr (.inr ⟨h1, reach_trans h2 st⟩)
theorem clo_net : Clo SpanN where
  mono := fun s h => reach_map (fun u v m => by
    obtain ⟨e, he, ⟨rfl, rfl⟩ | ⟨rfl, rfl⟩⟩ := eith_of m
    · exact .step .base (eith_on (s e he))
    · exact .step .base (eith_bk (s e he))) h
  self := fun h => .step .base (eith_bk h)
  trans := fun s h => reach_map (fun u v m => by
    obtain ⟨e, he, ⟨rfl, rfl⟩ | ⟨rfl, rfl⟩⟩ := eith_of m
    · exact eith_symm (s e he)
    · exact s e he) h
  exch := fun {X g e} h n => by
    have up : ∀ {a b : Str}, Reach (eithE X) a b → Reach (eithE (e :: X)) a b := fun r => reach_map (fun u v m => by
      obtain ⟨o, ho, ⟨rfl, rfl⟩ | ⟨rfl, rfl⟩⟩ := eith_of m
      · exact .step .base (eith_on (List.mem_cons_of_mem _ ho))
      · exact .step .base (eith_bk (List.mem_cons_of_mem _ ho))) r
    have on : Reach (eithE (e :: X)) e.2.1 e.2.2 := .step .base (eith_on List.mem_cons_self)
    have bk : Reach (eithE (e :: X)) e.2.2 e.2.1 := .step .base (eith_bk List.mem_cons_self)
    rcases eith_add h with h | ⟨h1, h2⟩ | ⟨h1, h2⟩
    · exact absurd h n
    · exact reach_trans (reach_trans (up h2) on) (up h1)
    · exact reach_trans (reach_trans (up (eith_symm h1)) bk) (up (eith_symm h2))
/-- a list that spans none of its own: each is off where it is taken out -/
theorem ind_bridge {X : NtT} (nd : (X.map (·.1)).Nodup) : IndL SpanN X ↔ ∀ e ∈ X, ¬ SpanN (X.filter fun o => decide (o.1 ≠ e.1)) e := by
  constructor
  · intro h e he z
    have p := List.perm_cons_erase he
    have h2 := ind_perm clo_net p h
    refine h2.1 (clo_net.mono (fun x hx => ?_) z)
    obtain ⟨h3, h4⟩ := List.mem_filter.mp hx
    exact (List.mem_erase_of_ne fun q => (of_decide_eq_true h4) (by rw [q])).mpr h3
  · intro h
    induction X with
    | nil => trivial
    | cons a X ih =>
      rw [List.map_cons, List.nodup_cons] at nd
      have rest : ∀ x ∈ X, x.1 ≠ a.1 := fun x hx z => nd.1 (z ▸ List.mem_map_of_mem hx)
      refine ⟨fun z => h a List.mem_cons_self (clo_net.mono (fun x hx => List.mem_filter.mpr ⟨List.mem_cons_of_mem _ hx, decide_eq_true (rest x hx)⟩) z), ih nd.2 fun e he z => h e (List.mem_cons_of_mem _ he) (clo_net.mono (fun x hx => ?_) z)⟩
      obtain ⟨h3, h4⟩ := List.mem_filter.mp hx
      exact List.mem_filter.mpr ⟨List.mem_cons_of_mem _ h3, h4⟩
end L2.TB
/-! _law_c_joined -/
namespace L2.TB
open PySem PySem.Spec PyProof.Rows MK
/-- one of the pairs: its name, the way, the nodes -/
def JPair (H : Hp) (i : Int) (t : Addr) (e : Str × ArT) : Prop := ∃ kt vt, H t = some (.tup [.ref kt, .ref vt]) ∧ H kt = some (.tup [.str e.1, .int i]) ∧ H vt = some (.tup [.str e.2.1, .str e.2.2])
def keyJ (n : Str) (i : Int) : NestedKey := .tup [.text n, .num i]
theorem keyJ_inj {n m : Str} {i j : Int} (h : keyJ n i = keyJ m j) : n = m ∧ i = j := by
  unfold keyJ at h
  injection h with h
  injection h with h1 h2
  injection h1 with h1
  injection h2 with h2
  injection h2 with h2
  exact ⟨h1, h2⟩
theorem keyJ_h {H : Hp} {a : Addr} {n : Str} {i : Int} (h : H a = some (.tup [.str n, .int i])) : KeyH H (keyJ n i) (.ref a) := .tup h rfl fun j v k e1 e2 => by
  match j with
  | 0 => obtain rfl := Option.some.inj e1; obtain rfl := Option.some.inj e2; exact .str n
  | 1 => obtain rfl := Option.some.inj e1; obtain rfl := Option.some.inj e2; exact .int i
  | j + 2 => simp at e1
theorem keyJ_d (n : Str) (i : Int) : (keyJ n i).depth ≤ 8 := by simp [keyJ, NestedKey.depth, NestedKey.depthAll]
theorem mk_enJ {K : PySem.W.Frag} {H : Hp} (i : Int) : ∀ {ps : List Addr} {L : NtT}, Paired (JPair H i) ps L → ∃ es : List En, Paired (fun b x => PairX K H b x) ps es ∧ es.map (·.1) = L.map (fun e => keyJ e.1 i) ∧ Paired (fun (e : En) (a : ArT) => ∃ t, e.2.2 = .ref t ∧ H t = some (.tup [.str a.1, .str a.2])) es (L.map (·.2))
  | _, _, .nil => ⟨[], .nil, rfl, .nil⟩
  | _, _, @Paired.cons _ _ _ p e ps L h t => by
    obtain ⟨es, h1, h2, h3⟩ := mk_enJ (K := K) i t
    obtain ⟨kt, vt, o1, o2, o3⟩ := h
    exact ⟨(keyJ e.1 i, .ref kt, .ref vt) :: es, .cons ⟨SqT.of o1, keyJ_h o2, keyJ_d _ _⟩ h1, by rw [List.map_cons, List.map_cons, h2], .cons ⟨vt, rfl, o3⟩ h3⟩
theorem keyJ_nd {i : Int} : ∀ {L : NtT}, (L.map (·.1)).Nodup → (L.map fun e => keyJ e.1 i).Nodup
  | [], _ => by simp
  | e :: r, h => by
    rw [List.map_cons, List.nodup_cons] at h ⊢
    refine ⟨fun z => h.1 ?_, keyJ_nd h.2⟩
    obtain ⟨o, ho, e1⟩ := List.mem_map.mp z
    exact (keyJ_inj e1).1 ▸ List.mem_map_of_mem ho
def swapE (e : Str × ArT) : Str × ArT := (e.1, (e.2.2, e.2.1))
theorem eith_two (L : NtT) : eithE L = L.map (·.2) ++ (L.map swapE).map (·.2) := by
  unfold eithE eiS
  rw [List.map_append, List.map_map, List.map_map, List.map_map]
  rfl
theorem fin_pairs {K : PySem.W.Frag} {H : Hp} {i : Int} {L : NtT} {ys : List V} (ly : ys.length = L.length) (ry : ∀ (j : Nat) (y : V), ys[j]? = some y → ∃ t e, y = .ref t ∧ L[j]? = some e ∧ JPair H i t e) :
    ∃ (ps : List Addr) (es : List En), ys = ps.map V.ref ∧ Paired (fun b x => PairX K H b x) ps es ∧ es.map (·.1) = L.map (fun e => keyJ e.1 i) ∧ Paired (fun (e : En) (a : ArT) => ∃ t, e.2.2 = .ref t ∧ H t = some (.tup [.str a.1, .str a.2])) es (L.map (·.2)) := by
  obtain ⟨ps, rfl, pa⟩ := addrs_of (H := H) (P := fun j p => ∃ e, L[j]? = some e ∧ JPair H i p e) ys 0 fun j y e => by
    obtain ⟨t, e, e1, e2, e3⟩ := ry j y e
    exact ⟨t, e1, e, by rw [Nat.zero_add]; exact e2, e3⟩
  rw [List.length_map] at ly
  obtain ⟨es, h1, h2, h3⟩ := mk_enJ (K := K) i (paired_of ps L ly fun j p e e1 e2 => by
    obtain ⟨e', e3, e4⟩ := pa j p e1
    rw [Nat.zero_add, e2] at e3
    obtain rfl := Option.some.inj e3
    exact e4)
  exact ⟨ps, es, rfl, h1, h2, h3⟩
theorem JPair.stay {H H' : Hp} {D : Addr} {l : List V} {i : Int} {t : Addr} {e : Str × ArT} (h : JPair H i t e) (oD : H D = some (.lst l)) (k : ∀ b o, b ≠ D → H b = some o → H' b = some o) : JPair H' i t e := by
  obtain ⟨kt, vt, o1, o2, o3⟩ := h
  have no : ∀ {b : Addr} {xs : List V}, H b = some (.tup xs) → b ≠ D := fun e z => by rw [z, oD] at e; cases e
  exact ⟨kt, vt, k _ _ (no o1) o1, k _ _ (no o2) o2, k _ _ (no o3) o3⟩
def spJoinedL : Sp := fun vs H Q _ => ∃ (D q : Addr) (arcs L : NtT) (A : Addr → Prop) (b : Str), vs = [.ref D, .ref q, .str b] ∧ PyD.at_ A H (.ref D) (Dc.mk arcs) ∧ H q = some (.lst ((L.map (·.1)).map V.str)) ∧ (∀ e ∈ L, e ∈ arcs) ∧ (L.map (·.1)).Nodup ∧ L.length ≤ 400 ∧
  ∀ H' r (S : List Str), H' r = some (.lst (S.map V.str)) → (∀ n, n ∈ S ↔ Reach (eithE L) b n) → S.length < 1000 → Same H H' → Q (.ref r) H'
abbrev NJo : List Str := ["arcs", "names", "first", "both", "name"]
theorem scJoL : FnScope NJo ["arcs", "names", "first"] (defScope sJoinedL) := ⟨rfl, rfl, rfl, by decide +kernel, rfl, by decide +kernel, by decide +kernel⟩
section
variable {P : Program} {w : World} {K : PySem.W.Frag} {mg : Str → Option Value} {base : Heap} {f fL : Addr} {fd fdL : FuncData}
theorem ok_joinL (F : Fun K "_law_c_joined" "_law_c_joined" sJoinedL f fd) (FL : Fun K "_law_c_leads" "_law_c_leads" sLeads fL fdL) (gL : mg "_law_c_leads" = some (.ref fL)) (nD : mg "dict" = none) (nR : mg "range" = none) (nN : mg "len" = none) : FnOk P w K mg base CX0 2 f fd ["arcs", "names", "first"] spJoinedL := by
  have GL : FnOk P w K mg base CX0 1 fL fdL ["arcs", "first"] (spLeadsX w) := ok_leadsX FL nR nN
  have bL := FL.binds (ps := ["arcs", "first"]) fun _ _ _ _ _ _ us hl => match us, hl with | [_, _], _ => rfl
  refine F.ok scJoL (fun vs H Q E h => by obtain ⟨D, q, arcs, L, A, b, e, _⟩ := h; rw [e]; rfl) fun cdv A outer s H vs Q E hr hsp => ?_
  obtain ⟨D, q, arcs, L, A0, b, rfl, at_, oq, sub, ndL, sh, hq⟩ := hsp
  have nd := scJoL.nd
  have hu := hu_of hr
  refine ⟨_, pss_cons (ps_set (i := 3) nd rfl (Or.inl rfl) (pe_callTy (call_dictPXw (w := w) rfl rfl (hu_in2 hr)) rfl nD boot_dict' (pa_cons (pe_lc (own := [("name", 4)]) (tt := tYes) (g := gName 4) (te := tTup (tCons (tTup (tCons (tVar 4) (tCons (tC (.int 0)) tNil))) (tCons (tDGet (tVar 0) (tVar 4)) tNil))) rfl nd (pi_list (pv 1)) (blkOk_by (N := NJo) (sc := defScope sJoinedL) (by decide +kernel)) (fun _ _ _ _ _ => pg_name (i := 4) nd rfl (Or.inl rfl)) (fun _ _ _ _ _ => pts_nil)
      (fun _ _ _ _ _ => pe_tup (pa_cons (pe_tup (pa_cons (pv 4) (pa_cons pe_int pa_nil))) (pa_cons (pe_dget hu (pv 0) (pv 4) (fun _ _ => rfl)) pa_nil)))) pa_nil)))
    (pss_cons (ps_expr (pe_bmX (r := rUpdX w) (w := w) rfl PySem.F.slot_dict_update PySem.F.type_dict_update (mt_updX (w := w) rfl (hu_in hr)) (pv 3) (pa_cons (pe_callTy (call_dictPXw (w := w) rfl rfl (hu_in2 hr)) rfl nD boot_dict' (pa_cons (pe_lc (own := [("name", 4)]) (tt := tYes) (g := gName 4) (te := tTup (tCons (tTup (tCons (tVar 4) (tCons (tC (.int 1)) tNil))) (tCons (tTup (tCons (tOp (rIx K) (tDGet (tVar 0) (tVar 4)) (tC (.int 1))) (tCons (tOp (rIx K) (tDGet (tVar 0) (tVar 4)) (tC (.int 0))) tNil))) tNil))) rfl nd (pi_list (pv 1)) (blkOk_by (N := NJo) (sc := defScope sJoinedL) (by decide +kernel)) (fun _ _ _ _ _ => pg_name (i := 4) nd rfl (Or.inl rfl)) (fun _ _ _ _ _ => pts_nil)
      (fun _ _ _ _ _ => pe_tup (pa_cons (pe_tup (pa_cons (pv 4) (pa_cons pe_int pa_nil))) (pa_cons (pe_tup (pa_cons (pe_ix (r := rIx K) ix_seq (pe_dget hu (pv 0) (pv 4) (fun _ _ => rfl)) pe_int (fun _ _ => rfl)) (pa_cons (pe_ix (r := rIx K) ix_seq (pe_dget hu (pv 0) (pv 4) (fun _ _ => rfl)) pe_int (fun _ _ => rfl)) pa_nil))) pa_nil)))) pa_nil)) pa_nil)))
    (pss_one (ps_ret (pe_call GL hr rfl gL FL.kp bL .nil pass0 (pa_cons (pv 3) (pa_cons (pv 2) pa_nil)))))), ?_⟩
  have lL : ((L.map (·.1)).map V.str).length = L.length := by rw [List.length_map, List.length_map]
  have nameAt : ∀ {j : Nat} {x : V}, ((L.map (·.1)).map V.str)[j]? = some x → ∃ e, L[j]? = some e ∧ x = .str e.1 := fun {j x} h => by
    rw [List.getElem?_map, List.getElem?_map] at h
    obtain ⟨n, h1, rfl⟩ := Option.map_eq_some_iff.mp h
    obtain ⟨e, h2, rfl⟩ := Option.map_eq_some_iff.mp h1
    exact ⟨e, h2, rfl⟩
  refine ⟨_, rfl, q, rfl, ⟨_, SqL.of oq⟩, ?_⟩
  refine lc_made L.length (by omega) (fun i H' k lt => ⟨_, _, SqL.of (k _ _ oq), List.getElem?_eq_getElem (by rw [lL]; exact lt)⟩) (fun H' k => ⟨_, SqL.of (k _ _ oq), by rw [lL]; exact Nat.le_refl _⟩)
    (fun j y H' => ∃ t e, y = .ref t ∧ L[j]? = some e ∧ JPair H' 0 t e) (fun j y H1 H2 C l ⟨t, e, e1, e2, e3⟩ oC k => ⟨t, e, e1, e2, e3.stay oC k⟩) ?_ ?_
  · rintro j v G1 G2 Cn Nn lt s2 ⟨rfl, ev⟩ yes
    obtain ⟨e, ee, rfl⟩ := nameAt (ev _ (SqL.of (s2 _ _ oq)))
    have he := sub e (List.mem_of_getElem? ee)
    obtain ⟨es, t0, oD, ev0, _, ot⟩ := arc_at (PyD.kp at_ fun b o a z => ⟨a, s2 _ _ z⟩) he
    refine ⟨rfl, _, rfl, (by show 2 ≤ sizeLine; decide), fun kt nk => ?_⟩
    have k1 := same_new (o := .tup [.str e.1, .int 0]) nk
    refine ⟨_, rfl, _, rfl, D, _, rfl, .inl ⟨es, Sum.inr e.1, .inl (k1 _ _ oD), rfl, ev0.symm⟩, (by show 2 ≤ sizeLine; decide), fun p np => ?_⟩
    have k2 := same_new (o := .tup [.ref kt, .ref t0]) np
    exact yes _ _ ⟨p, e, rfl, ee, kt, t0, upd_same, k2 _ _ upd_same, k2 _ _ (k1 _ _ ot)⟩ (k1.trans k2)
  · intro G1 C1 ys nC oC ly ry s1
    obtain ⟨ps, es1, rfl, p1, key1, val1⟩ := fin_pairs (K := K) ly ry
    have nd1 : (es1.map (·.1)).Nodup := by rw [key1]; exact keyJ_nd ndL
    refine ⟨C1, ps, es1, rfl, SqL.of oC, p1, fun B nB0 mx1 => ?_⟩
    rw [putsE_nd es1 [] (by rw [List.nil_append]; exact nd1), List.nil_append] at mx1 ⊢
    have kB := same_new (o := DE w B es1) nB0
    have s2 := s1.trans kB
    have oB : upd G1 B (DE w B es1) B = some (DE w B es1) := upd_same
    have val1 : Paired (fun (e : En) (a : ArT) => ∃ t, e.2.2 = .ref t ∧ upd G1 B (DE w B es1) t = some (.tup [.str a.1, .str a.2])) es1 (L.map (·.2)) := Paired.mapP val1 fun e a ⟨t, h1, h2⟩ => ⟨t, h1, kB _ _ h2⟩
    generalize upd G1 B (DE w B es1) = G2 at mx1 s2 oB val1
    clear kB
    refine ⟨_, rfl, ⟨B, _, _, rfl, .inl oB⟩, _, rfl, q, rfl, ⟨_, SqL.of (s2 _ _ oq)⟩, ?_⟩
    refine lc_made L.length (by omega) (fun i H' k lt => ⟨_, _, SqL.of (k _ _ (s2 _ _ oq)), List.getElem?_eq_getElem (by rw [lL]; exact lt)⟩) (fun H' k => ⟨_, SqL.of (k _ _ (s2 _ _ oq)), by rw [lL]; exact Nat.le_refl _⟩)
      (fun j y H' => ∃ t e, y = .ref t ∧ (L.map swapE)[j]? = some e ∧ JPair H' 1 t e) (fun j y H1 H2 C l ⟨t, e, e1, e2, e3⟩ oC k => ⟨t, e, e1, e2, e3.stay oC k⟩) ?_ ?_
    · rintro j v G3 G4 Cn Nn lt s4 ⟨rfl, ev⟩ yes
      have s5 := s2.trans s4
      obtain ⟨e, ee, rfl⟩ := nameAt (ev _ (SqL.of (s5 _ _ oq)))
      have he := sub e (List.mem_of_getElem? ee)
      obtain ⟨es, t0, oD, ev0, _, ot⟩ := arc_at (PyD.kp at_ fun b o a z => ⟨a, s5 _ _ z⟩) he
      refine ⟨rfl, _, rfl, (by show 2 ≤ sizeLine; decide), fun kt nk => ?_⟩
      have k1 := same_new (o := .tup [.str e.1, .int 1]) nk
      have dg : DGet (upd G4 kt (.tup [.str e.1, .int 1])) D (.str e.1) (some (.ref t0)) := .inl ⟨es, Sum.inr e.1, .inl (k1 _ _ oD), rfl, ev0.symm⟩
      refine ⟨_, rfl, _, rfl, D, _, rfl, dg, .inr (.inl ⟨t0, _, _, _, rfl, rfl, SqT.of (k1 _ _ ot), rfl, ?_⟩)⟩
      refine ⟨_, rfl, _, rfl, D, _, rfl, dg, .inr (.inl ⟨t0, _, _, _, rfl, rfl, SqT.of (k1 _ _ ot), rfl, ?_⟩)⟩
      refine ⟨(by show 2 ≤ sizeLine; decide), fun vt nv => ?_⟩
      have k2 := same_new (o := .tup [.str e.2.2, .str e.2.1]) nv
      refine ⟨(by show 2 ≤ sizeLine; decide), fun p np => ?_⟩
      have k3 := same_new (o := .tup [.ref kt, .ref vt]) np
      exact yes _ _ ⟨p, swapE e, rfl, by rw [List.getElem?_map, ee]; rfl, kt, vt, upd_same, k3 _ _ (k2 _ _ upd_same), k3 _ _ upd_same⟩ ((k1.trans k2).trans k3)
    · intro G5 C2 ys2 nC2 oC2 ly2 ry2 s5
      obtain ⟨ps2, es2, rfl, p2, key2, val2⟩ := fin_pairs (K := K) (L := L.map swapE) (by rw [List.length_map]; exact ly2) ry2
      have key2 : es2.map (·.1) = L.map (fun e => keyJ e.1 1) := by rw [key2, List.map_map]; rfl
      have nd2 : (es2.map (·.1)).Nodup := by rw [key2]; exact keyJ_nd ndL
      have l1 : es1.length = L.length := by have z := congrArg List.length key1; rwa [List.length_map, List.length_map] at z
      have l2 : es2.length = L.length := by have z := congrArg List.length key2; rwa [List.length_map, List.length_map] at z
      refine ⟨C2, ps2, es2, rfl, SqL.of oC2, p2, fun B2 nB2 mx2 => ?_⟩
      rw [putsE_nd es2 [] (by rw [List.nil_append]; exact nd2), List.nil_append] at mx2 ⊢
      have kB2 := same_new (o := DE w B2 es2) nB2
      have oB5 := s5 _ _ oB
      have nB : B2 ≠ B := fun z => by rw [z, oB5] at nB2; cases nB2
      refine ⟨B, B2, es1, es2, rfl, rfl, nB, kB2 _ _ oB5, upd_same, mx1.mono fun a vs z => kB2 _ _ (s5 _ _ z), mx2, ?_, by omega, by omega, fun z => ?_, ?_⟩
      · rw [List.map_append, List.nodup_append]
        refine ⟨nd1, nd2, fun a ha b hb z => ?_⟩
        rw [key1] at ha
        rw [key2] at hb
        obtain ⟨e1, _, rfl⟩ := List.mem_map.mp ha
        obtain ⟨e2, _, rfl⟩ := List.mem_map.mp hb
        have := (keyJ_inj z).2
        omega
      · refine List.eq_nil_of_length_eq_zero ?_
        rw [z] at l1
        rw [l2, ← l1]
        rfl
      · have noB : H B = none := by
          cases z : H B with
          | none => rfl
          | some o => rw [s1 _ _ z] at nB0; cases nB0
        have s7 : ∀ (u : HO), Same H (upd (upd G5 B2 (DE w B2 es2)) B u) := fun u b o z => by
          rw [upd_ne (ne_of_none z noB)]
          exact kB2 _ _ (s5 _ _ (s2 _ _ z))
        have far : ∀ {t : Addr} {xs : List V} (u : HO), upd G5 B2 (DE w B2 es2) t = some (.tup xs) → upd (upd G5 B2 (DE w B2 es2)) B u t = some (.tup xs) := fun {t xs} u z => by
          rw [upd_ne (fun y => by rw [y, kB2 _ _ oB5] at z; cases z)]
          exact z
        have le : (eithE L).length = 2 * L.length := by
          rw [eith_two, List.length_append, List.length_map, List.length_map, List.length_map]
          omega
        refine ⟨_, rfl, _, rfl, B, es1 ++ es2, eithE L, b, rfl, upd_same, ?_, by omega, fun H' r S nr or ndS mem lS sm => hq H' r S or mem (by omega) ((s7 _).trans sm)⟩
        rw [eith_two]
        exact paired_appN (Paired.mapP val1 fun e a ⟨t, h1, h2⟩ => ⟨t, h1, far _ (kB2 _ _ (s5 _ _ h2))⟩) (Paired.mapP val2 fun e a ⟨t, h1, h2⟩ => ⟨t, h1, far _ (kB2 _ _ h2)⟩)
end
end L2.TB
/-! arcs that are walked (locked) meanwhile: nodes, what is joined -/
namespace L2.TB
open PySem PySem.Spec PyProof.Rows MK
def AtF (A : Addr → Prop) (H : Hp) (D : Addr) (arcs : NtT) : Prop := ∃ od es, A D ∧ H D = some (.frz od (.dK es)) ∧ (arcs.map (·.1)).Nodup ∧ Paired (DcE A H) es arcs
theorem AtF.kp {A A' : Addr → Prop} {H H' : Hp} {D : Addr} {arcs : NtT} (h : AtF A H D arcs) (k : ∀ b o, A b → H b = some o → A' b ∧ H' b = some o) : AtF A' H' D arcs := by
  obtain ⟨od, es, ha, o, nd, pr⟩ := h
  exact ⟨od, es, (k _ _ ha o).1, (k _ _ ha o).2, nd, Paired.mapP pr fun e p h => ⟨h.1, PyD.kp h.2 k⟩⟩
theorem arc_atF {A : Addr → Prop} {H : Hp} {D : Addr} {arcs : NtT} (h : AtF A H D arcs) {e : Str × ArT} (he : e ∈ arcs) : ∃ es t, (∃ od, H D = some (.frz od (.dK es))) ∧ valV es (Sum.inr e.1) = some (.ref t) ∧ A t ∧ H t = some (.tup [.str e.2.1, .str e.2.2]) := by
  obtain ⟨od, es, aD, oD, rnd, pr⟩ := h
  obtain ⟨v, ev, t, y, z, hv, at_, ot, hy, hz⟩ := val_atD pr (lk_mem rnd he)
  have hy : y = .str e.2.1 := hy
  have hz : z = .str e.2.2 := hz
  subst hv hy hz
  exact ⟨es, t, ⟨od, oD⟩, ev, at_, ot⟩
def spNodesF : Sp := fun vs H Q _ => ∃ (D : Addr) (arcs : NtT) (A : Addr → Prop), vs = [.ref D] ∧ AtF A H D arcs ∧ arcs.length < 1000 ∧ ∀ H' q, H q = none → H' q = some (.lst ((nodesL arcs).map V.str)) → Same H H' → Q (.ref q) H'
def spJoinedF : Sp := fun vs H Q _ => ∃ (D q : Addr) (arcs L : NtT) (A : Addr → Prop) (b : Str), vs = [.ref D, .ref q, .str b] ∧ AtF A H D arcs ∧ H q = some (.lst ((L.map (·.1)).map V.str)) ∧ (∀ e ∈ L, e ∈ arcs) ∧ (L.map (·.1)).Nodup ∧ L.length ≤ 400 ∧
  ∀ H' r (S : List Str), H' r = some (.lst (S.map V.str)) → (∀ n, n ∈ S ↔ Reach (eithE L) b n) → S.length < 1000 → Same H H' → Q (.ref r) H'
section
variable {P : Program} {w : World} {K : PySem.W.Frag} {mg : Str → Option Value} {base : Heap} {f fL : Addr} {fd fdL : FuncData}
theorem ok_nodesF (F : Fun K "_law_c_nodes" "_law_c_nodes" sNodesL f fd) (nI : mg "int" = none) : FnOk P w K mg base CX0 1 f fd ["arcs"] spNodesF := by
  refine F.ok scNodesL (fun vs H Q E h => by obtain ⟨D, arcs, A, e, _⟩ := h; rw [e]; rfl) fun cdv A outer s H vs Q E hr hsp => ?_
  obtain ⟨D, arcs, A0, rfl, at_, sh, hq⟩ := hsp
  have nd := scNodesL.nd
  refine ⟨_, pss_cons (ps_set (i := 1) nd rfl (Or.inl rfl) (pe_lst pa_nil))
    (pss_cons (ps_for PassesOwn.never rfl (pi_values (pv 0)) (pg_tup rfl (pgs_cons (pg_name (i := 2) nd rfl (Or.inl rfl)) (pgs_cons (pg_name (i := 3) nd rfl (Or.inl rfl)) pgs_nil)))
      (pss_one (ps_for PassesOwn.never rfl (pi_seq (pe_tup (pa_cons (pv 2) (pa_cons (pv 3) pa_nil)))) (pg_name (i := 4) nd rfl (Or.inl rfl))
        (pss_one (ps_set (i := 1) nd rfl (Or.inl rfl) (pe_op op_cat (pv 1) (pe_op op_rep (pe_lst (pa_cons (pv 4) pa_nil)) (pe_callTy call_int1 rfl nI boot_int' (pa_cons (pe_cmpR op_notIn_seq (pv 4) (pv 1) rfl) pa_nil)))))))))
    (pss_one (ps_ret (pv 1)))), ?_⟩
  obtain ⟨od, es, aD, oD, rnd, pr⟩ := at_
  have les : es.length = arcs.length := Paired.length pr
  refine ⟨Nat.zero_le _, fun q nq => ?_⟩
  have k1 := same_new (o := .lst []) nq
  have oq : upd H q (.lst []) q = some (.lst (([] : List Str).map V.str)) := upd_same
  have oD1 := k1 _ _ oD
  generalize upd H q (.lst []) = H1 at k1 oq oD1
  have lb : ∀ j, (nodesF [] (arcs.take j)).length ≤ 2 * arcs.length := fun j => by
    have := nodesF_len (arcs.take j) []
    rw [List.length_take, List.length_nil] at this
    omega
  refine ⟨_, rfl, D, od, es, rfl, oD1, for_it walk_values (fun j σ H' => ∃ (p : Addr) (s2 s3 s4 : Option V), σ = [some (.ref D), some (.ref p), s2, s3, s4] ∧ H p = none ∧ H' p = some (.lst ((nodesF [] (arcs.take j)).map V.str)) ∧ Same H1 H')
    ⟨q, _, _, _, rfl, nq, oq, Same.refl _⟩ (fun j σ H' _ h => by obtain ⟨_, _, _, _, _, _, _, k⟩ := h; exact k _ _ oD1) ?_ ?_⟩
  · rintro j y σ H3 H4 lt ⟨p, s2, s3, s4, rfl, np, op3, k3⟩ ⟨rfl, k0, ekv⟩
    obtain ⟨e, ee, hk, t0, x, z, hv, ap, op, hx, hz⟩ := paired_get pr ekv
    have hv : y = .ref t0 := hv
    have hx : x = .str e.2.1 := hx
    have hz : z = .str e.2.2 := hz
    subst hv hx hz
    have ee : arcs[j]? = some e := ee
    have tD : t0 ≠ D := fun z => by rw [z, oD] at op; cases op
    have ot3 := k3 _ _ (k1 _ _ op)
    refine ⟨t0, _, rfl, SqT.of ot3, rfl, _, _, rfl, _, _, rfl, rfl, ?_⟩
    have lb0 := lb j
    rw [nodesF_take [] ee]
    generalize nodesF [] (arcs.take j) = S0 at op3 lb0
    refine ⟨_, rfl, _, rfl, (by show 2 ≤ sizeLine; decide), fun t nt => ?_⟩
    have kt := same_new (o := .tup [.str e.2.1, .str e.2.2]) nt
    have low : ∀ {G : Hp}, Same H1 G → ∀ {a : Addr}, G a = none → H a = none := fun s a n => k1.free (s.free n)
    refine for_seq (xs := [V.str e.2.1, V.str e.2.2]) (o := .tup [.str e.2.1, .str e.2.2]) (.inr rfl) (fun i σ H' => ∃ (p : Addr) (s4 : Option V) (S' : List Str), σ = [some (.ref D), some (.ref p), some (.str e.2.1), some (.str e.2.2), s4] ∧ H p = none ∧ H' p = some (.lst (S'.map V.str)) ∧ Same H1 H' ∧ H' t = some (.tup [.str e.2.1, .str e.2.2]) ∧ S'.length ≤ 2 * arcs.length + i ∧
        ((i = 0 ∧ S' = S0) ∨ (i = 1 ∧ S' = addN S0 e.2.1) ∨ (i = 2 ∧ S' = addN (addN S0 e.2.1) e.2.2)))
      ⟨p, _, S0, rfl, np, kt _ _ op3, k3.trans kt, upd_same, lb0, .inl ⟨rfl, rfl⟩⟩ (fun i σ H' _ h => by obtain ⟨_, _, _, _, _, _, _, h, _⟩ := h; exact h) ?_ ?_
    · rintro i v σ H5 ev ⟨p, s4, S', rfl, np, op5, k5, ot5, ls, st⟩
      obtain ⟨n, rfl, st'⟩ : ∃ n : Str, v = .str n ∧ ((i + 1 = 0 ∧ addN S' n = S0) ∨ (i + 1 = 1 ∧ addN S' n = addN S0 e.2.1) ∨ (i + 1 = 2 ∧ addN S' n = addN (addN S0 e.2.1) e.2.2)) := by
        rcases st with ⟨rfl, rfl⟩ | ⟨rfl, rfl⟩ | ⟨rfl, _⟩
        · exact ⟨_, (Option.some.inj ev).symm, .inr (.inl ⟨rfl, rfl⟩)⟩
        · exact ⟨_, (Option.some.inj ev).symm, .inr (.inr ⟨rfl, rfl⟩)⟩
        · cases ev
      have ln := addN_len S' n
      have li : i < 2 := (List.getElem?_eq_some_iff.mp ev).1
      refine ⟨_, rfl, _, rfl, (by show 1 ≤ sizeLine; decide), fun u nu => ?_⟩
      have ku := same_new (o := .lst [.str n]) nu
      have ou : upd H5 u (.lst [.str n]) u = some (.lst [.str n]) := upd_same
      have op6 := ku _ _ op5
      have k6 := k5.trans ku
      have ot6 := ku _ _ ot5
      generalize upd H5 u (.lst [.str n]) = H6 at ku ou op6 k6 ot6
      refine ⟨_, rfl, _, rfl, p, _, rfl, .inl (SqL.of op6), rfl, flat_strs S', .inr ⟨_, rfl, ?_⟩⟩
      rw [if_pos rfl, inV_strs]
      by_cases m : n ∈ S'
      · rw [decide_eq_true m]
        have ea : addN S' n = S' := by unfold addN; rw [if_pos m]
        refine ⟨u, 0, [.str n], rfl, rfl, ou, by decide, by decide, (by rw [sizeLine_eq]; show 1 * 0 ≤ _; decide), fun a na => ?_⟩
        have ka := same_new (o := .lst (List.replicate (0 : Int).toNat [V.str n]).flatten) na
        have oa : upd H6 a (.lst (List.replicate (0 : Int).toNat [V.str n]).flatten) a = some (.lst []) := upd_same
        have op7 := ka _ _ op6
        have k7 := k6.trans ka
        have ot7 := ka _ _ ot6
        generalize upd H6 a (.lst (List.replicate (0 : Int).toNat [V.str n]).flatten) = H7 at ka oa op7 k7 ot7
        refine ⟨p, a, _, _, rfl, rfl, op7, oa, by rw [List.length_map, List.length_nil, sizeLine_eq]; omega, fun c nc => ?_⟩
        have kc := same_new (o := .lst (S'.map V.str ++ [])) nc
        exact ⟨c, _, addN S' n, rfl, low k7 nc, by rw [upd_same, ea, List.append_nil], k7.trans kc, kc _ _ ot7, by omega, st'⟩
      · rw [decide_eq_false m]
        have ea : addN S' n = S' ++ [n] := by unfold addN; rw [if_neg m]
        refine ⟨u, 1, [.str n], rfl, rfl, ou, by decide, by decide, (by rw [sizeLine_eq]; show 1 * 1 ≤ _; decide), fun a na => ?_⟩
        have ka := same_new (o := .lst (List.replicate (1 : Int).toNat [V.str n]).flatten) na
        have oa : upd H6 a (.lst (List.replicate (1 : Int).toNat [V.str n]).flatten) a = some (.lst [.str n]) := upd_same
        have op7 := ka _ _ op6
        have k7 := k6.trans ka
        have ot7 := ka _ _ ot6
        generalize upd H6 a (.lst (List.replicate (1 : Int).toNat [V.str n]).flatten) = H7 at ka oa op7 k7 ot7
        refine ⟨p, a, _, _, rfl, rfl, op7, oa, by rw [List.length_map, List.length_singleton, sizeLine_eq]; omega, fun c nc => ?_⟩
        have kc := same_new (o := .lst (S'.map V.str ++ [V.str n])) nc
        exact ⟨c, _, addN S' n, rfl, low k7 nc, by rw [upd_same, ea, List.map_append]; rfl, k7.trans kc, kc _ _ ot7, by omega, st'⟩
    · rintro σ H5 ⟨p, s4, S', rfl, np, op5, k5, ot5, ls, st⟩
      rcases st with ⟨e, _⟩ | ⟨e, _⟩ | ⟨_, rfl⟩
      · cases e
      · cases e
      · exact ⟨p, _, _, _, rfl, np, op5, k5⟩
  · rintro σ H3 ⟨p, s2, s3, s4, rfl, np, op3, k3⟩
    rw [les, List.take_length] at op3
    exact ⟨_, rfl, hq _ p np op3 (k1.trans k3)⟩
theorem ok_joinF (F : Fun K "_law_c_joined" "_law_c_joined" sJoinedL f fd) (FL : Fun K "_law_c_leads" "_law_c_leads" sLeads fL fdL) (gL : mg "_law_c_leads" = some (.ref fL)) (nD : mg "dict" = none) (nR : mg "range" = none) (nN : mg "len" = none) : FnOk P w K mg base CX0 2 f fd ["arcs", "names", "first"] spJoinedF := by
  have GL : FnOk P w K mg base CX0 1 fL fdL ["arcs", "first"] (spLeadsX w) := ok_leadsX FL nR nN
  have bL := FL.binds (ps := ["arcs", "first"]) fun _ _ _ _ _ _ us hl => match us, hl with | [_, _], _ => rfl
  refine F.ok scJoL (fun vs H Q E h => by obtain ⟨D, q, arcs, L, A, b, e, _⟩ := h; rw [e]; rfl) fun cdv A outer s H vs Q E hr hsp => ?_
  obtain ⟨D, q, arcs, L, A0, b, rfl, at_, oq, sub, ndL, sh, hq⟩ := hsp
  have nd := scJoL.nd
  have hu := hu_of hr
  refine ⟨_, pss_cons (ps_set (i := 3) nd rfl (Or.inl rfl) (pe_callTy (call_dictPXw (w := w) rfl rfl (hu_in2 hr)) rfl nD boot_dict' (pa_cons (pe_lc (own := [("name", 4)]) (tt := tYes) (g := gName 4) (te := tTup (tCons (tTup (tCons (tVar 4) (tCons (tC (.int 0)) tNil))) (tCons (tDGet (tVar 0) (tVar 4)) tNil))) rfl nd (pi_list (pv 1)) (blkOk_by (N := NJo) (sc := defScope sJoinedL) (by decide +kernel)) (fun _ _ _ _ _ => pg_name (i := 4) nd rfl (Or.inl rfl)) (fun _ _ _ _ _ => pts_nil)
      (fun _ _ _ _ _ => pe_tup (pa_cons (pe_tup (pa_cons (pv 4) (pa_cons pe_int pa_nil))) (pa_cons (pe_dget hu (pv 0) (pv 4) (fun _ _ => rfl)) pa_nil)))) pa_nil)))
    (pss_cons (ps_expr (pe_bmX (r := rUpdX w) (w := w) rfl PySem.F.slot_dict_update PySem.F.type_dict_update (mt_updX (w := w) rfl (hu_in hr)) (pv 3) (pa_cons (pe_callTy (call_dictPXw (w := w) rfl rfl (hu_in2 hr)) rfl nD boot_dict' (pa_cons (pe_lc (own := [("name", 4)]) (tt := tYes) (g := gName 4) (te := tTup (tCons (tTup (tCons (tVar 4) (tCons (tC (.int 1)) tNil))) (tCons (tTup (tCons (tOp (rIx K) (tDGet (tVar 0) (tVar 4)) (tC (.int 1))) (tCons (tOp (rIx K) (tDGet (tVar 0) (tVar 4)) (tC (.int 0))) tNil))) tNil))) rfl nd (pi_list (pv 1)) (blkOk_by (N := NJo) (sc := defScope sJoinedL) (by decide +kernel)) (fun _ _ _ _ _ => pg_name (i := 4) nd rfl (Or.inl rfl)) (fun _ _ _ _ _ => pts_nil)
      (fun _ _ _ _ _ => pe_tup (pa_cons (pe_tup (pa_cons (pv 4) (pa_cons pe_int pa_nil))) (pa_cons (pe_tup (pa_cons (pe_ix (r := rIx K) ix_seq (pe_dget hu (pv 0) (pv 4) (fun _ _ => rfl)) pe_int (fun _ _ => rfl)) (pa_cons (pe_ix (r := rIx K) ix_seq (pe_dget hu (pv 0) (pv 4) (fun _ _ => rfl)) pe_int (fun _ _ => rfl)) pa_nil))) pa_nil)))) pa_nil)) pa_nil)))
    (pss_one (ps_ret (pe_call GL hr rfl gL FL.kp bL .nil pass0 (pa_cons (pv 3) (pa_cons (pv 2) pa_nil)))))), ?_⟩
  have lL : ((L.map (·.1)).map V.str).length = L.length := by rw [List.length_map, List.length_map]
  have nameAt : ∀ {j : Nat} {x : V}, ((L.map (·.1)).map V.str)[j]? = some x → ∃ e, L[j]? = some e ∧ x = .str e.1 := fun {j x} h => by
    rw [List.getElem?_map, List.getElem?_map] at h
    obtain ⟨n, h1, rfl⟩ := Option.map_eq_some_iff.mp h
    obtain ⟨e, h2, rfl⟩ := Option.map_eq_some_iff.mp h1
    exact ⟨e, h2, rfl⟩
  refine ⟨_, rfl, q, rfl, ⟨_, SqL.of oq⟩, ?_⟩
  refine lc_made L.length (by omega) (fun i H' k lt => ⟨_, _, SqL.of (k _ _ oq), List.getElem?_eq_getElem (by rw [lL]; exact lt)⟩) (fun H' k => ⟨_, SqL.of (k _ _ oq), by rw [lL]; exact Nat.le_refl _⟩)
    (fun j y H' => ∃ t e, y = .ref t ∧ L[j]? = some e ∧ JPair H' 0 t e) (fun j y H1 H2 C l ⟨t, e, e1, e2, e3⟩ oC k => ⟨t, e, e1, e2, e3.stay oC k⟩) ?_ ?_
  · rintro j v G1 G2 Cn Nn lt s2 ⟨rfl, ev⟩ yes
    obtain ⟨e, ee, rfl⟩ := nameAt (ev _ (SqL.of (s2 _ _ oq)))
    have he := sub e (List.mem_of_getElem? ee)
    obtain ⟨es, t0, oD, ev0, _, ot⟩ := arc_atF (AtF.kp at_ fun b o a z => ⟨a, s2 _ _ z⟩) he
    refine ⟨rfl, _, rfl, (by show 2 ≤ sizeLine; decide), fun kt nk => ?_⟩
    have k1 := same_new (o := .tup [.str e.1, .int 0]) nk
    refine ⟨_, rfl, _, rfl, D, _, rfl, .inl ⟨es, Sum.inr e.1, .inr (oD.imp fun _ z => k1 _ _ z), rfl, ev0.symm⟩, (by show 2 ≤ sizeLine; decide), fun p np => ?_⟩
    have k2 := same_new (o := .tup [.ref kt, .ref t0]) np
    exact yes _ _ ⟨p, e, rfl, ee, kt, t0, upd_same, k2 _ _ upd_same, k2 _ _ (k1 _ _ ot)⟩ (k1.trans k2)
  · intro G1 C1 ys nC oC ly ry s1
    obtain ⟨ps, es1, rfl, p1, key1, val1⟩ := fin_pairs (K := K) ly ry
    have nd1 : (es1.map (·.1)).Nodup := by rw [key1]; exact keyJ_nd ndL
    refine ⟨C1, ps, es1, rfl, SqL.of oC, p1, fun B nB0 mx1 => ?_⟩
    rw [putsE_nd es1 [] (by rw [List.nil_append]; exact nd1), List.nil_append] at mx1 ⊢
    have kB := same_new (o := DE w B es1) nB0
    have s2 := s1.trans kB
    have oB : upd G1 B (DE w B es1) B = some (DE w B es1) := upd_same
    have val1 : Paired (fun (e : En) (a : ArT) => ∃ t, e.2.2 = .ref t ∧ upd G1 B (DE w B es1) t = some (.tup [.str a.1, .str a.2])) es1 (L.map (·.2)) := Paired.mapP val1 fun e a ⟨t, h1, h2⟩ => ⟨t, h1, kB _ _ h2⟩
    generalize upd G1 B (DE w B es1) = G2 at mx1 s2 oB val1
    clear kB
    refine ⟨_, rfl, ⟨B, _, _, rfl, .inl oB⟩, _, rfl, q, rfl, ⟨_, SqL.of (s2 _ _ oq)⟩, ?_⟩
    refine lc_made L.length (by omega) (fun i H' k lt => ⟨_, _, SqL.of (k _ _ (s2 _ _ oq)), List.getElem?_eq_getElem (by rw [lL]; exact lt)⟩) (fun H' k => ⟨_, SqL.of (k _ _ (s2 _ _ oq)), by rw [lL]; exact Nat.le_refl _⟩)
      (fun j y H' => ∃ t e, y = .ref t ∧ (L.map swapE)[j]? = some e ∧ JPair H' 1 t e) (fun j y H1 H2 C l ⟨t, e, e1, e2, e3⟩ oC k => ⟨t, e, e1, e2, e3.stay oC k⟩) ?_ ?_
    · rintro j v G3 G4 Cn Nn lt s4 ⟨rfl, ev⟩ yes
      have s5 := s2.trans s4
      obtain ⟨e, ee, rfl⟩ := nameAt (ev _ (SqL.of (s5 _ _ oq)))
      have he := sub e (List.mem_of_getElem? ee)
      obtain ⟨es, t0, oD, ev0, _, ot⟩ := arc_atF (AtF.kp at_ fun b o a z => ⟨a, s5 _ _ z⟩) he
      refine ⟨rfl, _, rfl, (by show 2 ≤ sizeLine; decide), fun kt nk => ?_⟩
      have k1 := same_new (o := .tup [.str e.1, .int 1]) nk
      have dg : DGet (upd G4 kt (.tup [.str e.1, .int 1])) D (.str e.1) (some (.ref t0)) := .inl ⟨es, Sum.inr e.1, .inr (oD.imp fun _ z => k1 _ _ z), rfl, ev0.symm⟩
      refine ⟨_, rfl, _, rfl, D, _, rfl, dg, .inr (.inl ⟨t0, _, _, _, rfl, rfl, SqT.of (k1 _ _ ot), rfl, ?_⟩)⟩
      refine ⟨_, rfl, _, rfl, D, _, rfl, dg, .inr (.inl ⟨t0, _, _, _, rfl, rfl, SqT.of (k1 _ _ ot), rfl, ?_⟩)⟩
      refine ⟨(by show 2 ≤ sizeLine; decide), fun vt nv => ?_⟩
      have k2 := same_new (o := .tup [.str e.2.2, .str e.2.1]) nv
      refine ⟨(by show 2 ≤ sizeLine; decide), fun p np => ?_⟩
      have k3 := same_new (o := .tup [.ref kt, .ref vt]) np
      exact yes _ _ ⟨p, swapE e, rfl, by rw [List.getElem?_map, ee]; rfl, kt, vt, upd_same, k3 _ _ (k2 _ _ upd_same), k3 _ _ upd_same⟩ ((k1.trans k2).trans k3)
    · intro G5 C2 ys2 nC2 oC2 ly2 ry2 s5
      obtain ⟨ps2, es2, rfl, p2, key2, val2⟩ := fin_pairs (K := K) (L := L.map swapE) (by rw [List.length_map]; exact ly2) ry2
      have key2 : es2.map (·.1) = L.map (fun e => keyJ e.1 1) := by rw [key2, List.map_map]; rfl
      have nd2 : (es2.map (·.1)).Nodup := by rw [key2]; exact keyJ_nd ndL
      have l1 : es1.length = L.length := by have z := congrArg List.length key1; rwa [List.length_map, List.length_map] at z
      have l2 : es2.length = L.length := by have z := congrArg List.length key2; rwa [List.length_map, List.length_map] at z
      refine ⟨C2, ps2, es2, rfl, SqL.of oC2, p2, fun B2 nB2 mx2 => ?_⟩
      rw [putsE_nd es2 [] (by rw [List.nil_append]; exact nd2), List.nil_append] at mx2 ⊢
      have kB2 := same_new (o := DE w B2 es2) nB2
      have oB5 := s5 _ _ oB
      have nB : B2 ≠ B := fun z => by rw [z, oB5] at nB2; cases nB2
      refine ⟨B, B2, es1, es2, rfl, rfl, nB, kB2 _ _ oB5, upd_same, mx1.mono fun a vs z => kB2 _ _ (s5 _ _ z), mx2, ?_, by omega, by omega, fun z => ?_, ?_⟩
      · rw [List.map_append, List.nodup_append]
        refine ⟨nd1, nd2, fun a ha b hb z => ?_⟩
        rw [key1] at ha
        rw [key2] at hb
        obtain ⟨e1, _, rfl⟩ := List.mem_map.mp ha
        obtain ⟨e2, _, rfl⟩ := List.mem_map.mp hb
        have := (keyJ_inj z).2
        omega
      · refine List.eq_nil_of_length_eq_zero ?_
        rw [z] at l1
        rw [l2, ← l1]
        rfl
      · have noB : H B = none := by
          cases z : H B with
          | none => rfl
          | some o => rw [s1 _ _ z] at nB0; cases nB0
        have s7 : ∀ (u : HO), Same H (upd (upd G5 B2 (DE w B2 es2)) B u) := fun u b o z => by
          rw [upd_ne (ne_of_none z noB)]
          exact kB2 _ _ (s5 _ _ (s2 _ _ z))
        have far : ∀ {t : Addr} {xs : List V} (u : HO), upd G5 B2 (DE w B2 es2) t = some (.tup xs) → upd (upd G5 B2 (DE w B2 es2)) B u t = some (.tup xs) := fun {t xs} u z => by
          rw [upd_ne (fun y => by rw [y, kB2 _ _ oB5] at z; cases z)]
          exact z
        have le : (eithE L).length = 2 * L.length := by
          rw [eith_two, List.length_append, List.length_map, List.length_map, List.length_map]
          omega
        refine ⟨_, rfl, _, rfl, B, es1 ++ es2, eithE L, b, rfl, upd_same, ?_, by omega, fun H' r S nr or ndS mem lS sm => hq H' r S or mem (by omega) ((s7 _).trans sm)⟩
        rw [eith_two]
        exact paired_appN (Paired.mapP val1 fun e a ⟨t, h1, h2⟩ => ⟨t, h1, far _ (kB2 _ _ (s5 _ _ h2))⟩) (Paired.mapP val2 fun e a ⟨t, h1, h2⟩ => ⟨t, h1, far _ (kB2 _ _ h2)⟩)
end
end L2.TB
/-! the law: whether an arc is not told -/
namespace L2.TB
open PySem PySem.Spec PyProof.Rows LamX
def spIsOpenL (K : PySem.W.Frag) : Sp := fun vs H Q _ => ∃ (D lv kn : Addr) (arcs : NtT) (A : Addr → Prop) (ks : List Str) (e : Str × ArT), vs = [.ref D, .ref lv, .ref kn, .str e.1] ∧ AtF A H D arcs ∧ NtOk arcs ∧ H lv = some (.lst ((liveL arcs).map V.str)) ∧ KnA K H kn arcs ks ∧ e ∈ arcs ∧
  ∀ H' b, (b = true ↔ ¬ Told arcs ks e) → Same H H' → Q (.bl b) H'
abbrev NIo : List Str := ["arcs", "live", "known", "asked", "left", "name"]
theorem scIoL : FnScope NIo ["arcs", "live", "known", "asked"] (defScope sIsOpen) := ⟨rfl, rfl, rfl, by decide +kernel, rfl, by decide +kernel, by decide +kernel⟩
theorem left_oth (arcs : NtT) (ks : List Str) (a : Str) : (liveL arcs).filter (fun n => decide (n ∉ ks) && decide (n ≠ a)) = (othE arcs ks a).map (·.1) := by
  rw [oth_names]
  unfold othN freeN
  rw [List.filter_filter]
  refine List.filter_congr fun n _ => ?_
  cases decide (n ∉ ks) <;> cases decide (n ≠ a) <;> rfl
section
variable {P : Program} {w : World} {K : PySem.W.Frag} {mg : Str → Option Value} {base : Heap} {f fJ : Addr} {fd fdJ : FuncData}
theorem ok_isOpenL (F : Fun K "_law_c_is_open" "_law_c_is_open" sIsOpen f fd) (FJ : Fun K "_law_c_joined" "_law_c_joined" sJoinedL fJ fdJ) (gJ : mg "_law_c_joined" = some (.ref fJ)) (GJ : FnOk P w K mg base CX0 2 fJ fdJ ["arcs", "names", "first"] spJoinedF) : FnOk P w K mg base CX0 3 f fd ["arcs", "live", "known", "asked"] (spIsOpenL K) := by
  have bJ := FJ.binds (ps := ["arcs", "names", "first"]) fun _ _ _ _ _ _ us hl => match us, hl with | [_, _, _], _ => rfl
  refine F.ok scIoL (fun vs H Q E h => by obtain ⟨D, lv, kn, arcs, A, ks, e0, e, _⟩ := h; rw [e]; rfl) fun cdv A outer s H vs Q E hr hsp => ?_
  obtain ⟨D, lv, kn, arcs, A0, ks, e, rfl, at_, nok, olv, ka, he, hq⟩ := hsp
  have nd := scIoL.nd
  have hu := hu_of (hr.mono (show 1 ≤ 2 by decide))
  refine ⟨_, pss_cons (ps_setLc (i := 4) (own := [("name", 5)]) (tt := tAnd (tTest (tOp (rIn K true) (tVar 5) (tVar 2))) (tTest (tOp rNe (tVar 5) (tVar 3)))) (g := gName 5) (te := tVar 5) rfl nd rfl rfl (sw_true rfl rfl rfl rfl) (pi_list (pv 1)) (blkOk_by (N := NIo) (sc := defScope sIsOpen) (by decide +kernel)) (fun _ _ _ _ _ => pg_name (i := 5) nd rfl (Or.inl rfl)) (fun _ _ _ _ _ => pts_one (PW.pt (pw_and (pt_cmpR op_notIn_seq (pv 5) (pv 2) rfl) (pw_and1 (pt_cmpR op_ne (pv 5) (pv 3) (nomark _)))))) (fun _ _ _ _ _ => pv 5))
    (pss_cons (ps_if (PW.pt (pw_or (pt_cmpR op_in_seq (pv 3) (pv 2) rfl) (pw_or1 (pt_cmpR op_notIn_seq (pv 3) (pv 1) rfl)))) (pss_one (ps_ret pe_bl)) pss_nil)
    (pss_one (ps_ret (pe_cmpR op_in_seq (pe_ix (r := rIx K) ix_seq (pe_dget hu (pv 0) (pv 3) (fun _ _ => rfl)) pe_int (fun _ _ => rfl)) (pe_call GJ hr rfl gJ FJ.kp bJ .nil pass0 (pa_cons (pv 0) (pa_cons (pv 4) (pa_cons (pe_ix (r := rIx K) ix_seq (pe_dget hu (pv 0) (pv 3) (fun _ _ => rfl)) pe_int (fun _ _ => rfl)) pa_nil)))) rfl)))), ?_⟩
  have sh := nok.n1
  have ll := live_len arcs
  refine ⟨_, rfl, lv, rfl, ⟨_, SqL.of olv⟩, ?_⟩
  refine lc_selN (fun n => decide (n ∉ ks) && decide (n ≠ e.1)) olv (by omega) (fun _ => rfl) (fun _ => rfl) (fun n H2 T _ s2 go => ?_) fun H2 q nq oq s2 => ?_
  · refine ⟨_, rfl, _, rfl, kn, _, rfl, seqOr (ka.o.same s2), rfl, flat_strs ks, _, rfl, ?_⟩
    have z := go H2 (Same.refl _)
    rw [inV_strs]
    have e1 : (if true = true then !decide (n ∈ ks) else decide (n ∈ ks)) = decide (n ∉ ks) := by
      rw [if_pos rfl]
      by_cases c : n ∈ ks
      · rw [decide_eq_true c, decide_eq_false (fun h => h c)]; rfl
      · rw [decide_eq_false c, decide_eq_true c]; rfl
    rw [e1]
    cases c : decide (n ∉ ks) with
    | false =>
      rw [c] at z
      exact iteF z
    | true =>
      rw [c] at z
      refine iteT ⟨_, rfl, _, rfl, rfl, _, rfl, ?_⟩
      have e2 : (!decide (V.str n = V.str e.1)) = decide (n ≠ e.1) := by
        by_cases c : n = e.1
        · rw [decide_eq_true (by rw [c]), decide_eq_false (fun h => h c)]; rfl
        · rw [decide_eq_false (fun h => c (V.str.inj h)), decide_eq_true c]; rfl
      rw [e2]
      exact z
  rw [left_oth] at oq
  refine ⟨_, rfl, _, rfl, kn, _, rfl, seqOr (ka.o.same s2), rfl, flat_strs ks, _, rfl, ?_⟩
  rw [inV_strs]
  by_cases c1 : e.1 ∈ ks
  · rw [decide_eq_true c1]
    exact iteT (iteT (hq H2 false ⟨fun z => (by cases z), fun z => absurd c1 ((open_iff nok.nd he).mp z).1⟩ s2))
  rw [decide_eq_false c1]
  refine iteF ⟨_, rfl, _, rfl, lv, _, rfl, .inl (SqL.of (s2 _ _ olv)), rfl, flat_strs _, _, rfl, ?_⟩
  rw [inV_strs]
  by_cases c2 : e.1 ∈ liveL arcs
  case neg =>
    rw [decide_eq_false c2]
    exact iteT (hq H2 false ⟨fun z => (by cases z), fun z => absurd ((live_in nok.nd he).mpr ((open_iff nok.nd he).mp z).2.1) c2⟩ s2)
  rw [decide_eq_true c2]
  refine iteF ?_
  have at2 := AtF.kp at_ (H' := H2) fun b o a z => ⟨a, s2 _ _ z⟩
  obtain ⟨es, t0, oD, ev0, _, ot⟩ := arc_atF at2 he
  have dg : DGet H2 D (.str e.1) (some (.ref t0)) := .inl ⟨es, Sum.inr e.1, .inr oD, rfl, ev0.symm⟩
  refine ⟨_, rfl, _, rfl, D, _, rfl, dg, .inr (.inl ⟨t0, _, _, _, rfl, rfl, SqT.of ot, rfl, ?_⟩)⟩
  refine ⟨_, rfl, _, rfl, _, rfl, _, rfl, D, _, rfl, dg, .inr (.inl ⟨t0, _, _, _, rfl, rfl, SqT.of ot, rfl, ?_⟩)⟩
  refine ⟨D, q, arcs, othE arcs ks e.1, A0, e.2.2, rfl, at2, oq, oth_sub, (nok.nd.sublist ((List.filter_sublist).map _)), by have := oth_len arcs ks e.1; omega, fun H3 r S or mem shS s3 => ?_⟩
  refine ⟨r, _, rfl, .inl (SqL.of or), rfl, flat_strs S, ?_⟩
  rw [inV_strs]
  refine hq H3 _ ?_ (s2.trans s3)
  rw [open_iff nok.nd he]
  have lv1 := (live_in nok.nd he).mp c2
  show decide (e.2.1 ∈ S) = true ↔ _
  rw [decide_eq_true_iff, mem]
  exact ⟨fun h => ⟨c1, lv1, h⟩, fun h => h.2.2⟩
end
end L2.TB
/-! the law: the fewest that hide -/
namespace L2.TB
open PySem PySem.Spec PyProof.Rows LamX
/-- all lists of some names, in order -/
def filesF : List (List Str) → List Str → List (List Str)
  | S, [] => S
  | S, n :: r => filesF (S ++ S.map fun x => x ++ [n]) r
def filesL (ns : List Str) : List (List Str) := filesF [[]] ns
theorem filesF_snoc : ∀ (r : List Str) (S : List (List Str)) (n : Str), filesF S (r ++ [n]) = filesF S r ++ (filesF S r).map fun x => x ++ [n]
  | [], S, n => rfl
  | a :: r, S, n => filesF_snoc r _ n
theorem filesL_len : ∀ ns : List Str, (filesL ns).length = 2 ^ ns.length := fun ns => by
  have go : ∀ (r : List Str) (S : List (List Str)), (filesF S r).length = S.length * 2 ^ r.length := fun r => by
    induction r with
    | nil => intro S; show S.length = S.length * 2 ^ 0; omega
    | cons a r ih =>
      intro S
      show (filesF (S ++ S.map fun x => x ++ [a]) r).length = _
      rw [ih, List.length_append, List.length_map, List.length_cons, Nat.pow_succ, ← Nat.two_mul, Nat.mul_comm 2, Nat.mul_assoc, Nat.mul_comm 2]
  show (filesF [[]] ns).length = _
  rw [go ns [[]]]
  show 1 * _ = _
  omega
/-- just the lists that are in the order of the names -/
theorem filesF_in : ∀ (r : List Str) (S : List (List Str)) (x : List Str), x ∈ filesF S r ↔ ∃ y ∈ S, ∃ z, List.Sublist z r ∧ x = y ++ z
  | [], S, x => by
    constructor
    · exact fun h => ⟨x, h, [], .slnil, by rw [List.append_nil]⟩
    · rintro ⟨y, hy, z, hz, rfl⟩
      rw [List.sublist_nil.mp hz, List.append_nil]
      exact hy
  | n :: r, S, x => by
    show x ∈ filesF (S ++ S.map fun x => x ++ [n]) r ↔ _
    rw [filesF_in r]
    constructor
    · rintro ⟨y, hy, z, hz, rfl⟩
      rcases List.mem_append.mp hy with hy | hy
      · exact ⟨y, hy, z, hz.cons n, rfl⟩
      · obtain ⟨u, hu, rfl⟩ := List.mem_map.mp hy
        exact ⟨u, hu, n :: z, hz.cons₂ n, by rw [List.append_assoc]; rfl⟩
    · rintro ⟨y, hy, z, hz, rfl⟩
      cases hz with
      | cons _ h => exact ⟨y, List.mem_append_left _ hy, z, h, rfl⟩
      | cons_cons _ h => exact ⟨y ++ [n], List.mem_append_right _ (List.mem_map_of_mem hy), _, h, by rw [List.append_assoc]; rfl⟩
/-- a comprehension that makes lists -/
theorem lc_lists {α : Type} {J : It} {g : TG} {tt : TT} {te : TE} {vs : List Nat} {σ : St} {H1 : Hp} {Q : Addr → Hp → Prop} (as : List α) (f : α → List V) (short : as.length < 1000) (go : ∀ i H, Same H1 H → i < as.length → J.go i H) (stop : ∀ H, Same H1 H → J.stop as.length H)
    (turn : ∀ (i : Nat) (v : V) (a : α) (H H' : Hp) (C : V → Hp → Prop) (N : Hp → Prop), as[i]? = some a → Same H1 H → J.yld i H v H' → (∀ t H4, H t = none → H4 t = some (.lst (f a)) → Same H H4 → C (.ref t) H4) →
      g v (wipe σ vs) H' fun σ2 H2 => wipe σ2 vs = wipe σ vs ∧ tt σ2 H2 fun b H3 => if b = true then te σ2 H3 C else N H3)
    (fin : ∀ H D ts, H1 D = none → H D = some (.lst ((ts : List Addr).map V.ref)) → Paired (fun t a => H t = some (.lst (f a)) ∧ H1 t = none) ts as → Same H1 H → Q D H) : LcW J g tt te vs σ H1 Q := by
  intro D nD
  refine ⟨fun i m H => m = as.length - i ∧ i ≤ as.length ∧ (∃ ts : List Addr, H D = some (.lst (ts.map V.ref)) ∧ ts.length = i ∧ Paired (fun t a => H t = some (.lst (f a)) ∧ t ≠ D ∧ H1 t = none) ts (as.take i)) ∧ Same H1 H,
    ⟨_, rfl, Nat.zero_le _, ⟨[], upd_same, rfl, .nil⟩, same_new nD⟩, ?_⟩
  rintro i m H ⟨rfl, le, ⟨ts, oD, lt', pr⟩, s1⟩
  by_cases lt : i < as.length
  · refine .inr ⟨go i H s1 lt, fun H' => (∃ ts : List Addr, H' D = some (.lst (ts.map V.ref)) ∧ ts.length = i + 1 ∧ Paired (fun t a => H' t = some (.lst (f a)) ∧ t ≠ D ∧ H1 t = none) ts (as.take (i + 1))) ∧ Same H1 H', fun H' h => ⟨as.length - (i + 1), by omega, rfl, lt, h⟩, fun x H' yl => ?_⟩
    have ea : as[i]? = some as[i] := List.getElem?_eq_getElem lt
    refine turn i x as[i] H H' _ _ ea s1 yl (fun t H4 nt ot s4 => ?_)
    have tD : t ≠ D := fun q => by rw [q, oD] at nt; cases nt
    refine ⟨_, s4 _ _ oD, by rw [sizeLine_eq, List.length_map]; omega, ⟨ts ++ [t], by rw [upd_same, List.map_append]; rfl, by simp [lt'], ?_⟩, fun b u e => ?_⟩
    · refine pair_snoc (Paired.mapP pr fun p a h => ⟨?_, h.2⟩) ea ⟨by rw [upd_ne tD]; exact ot, tD, ?_⟩
      · rw [upd_ne h.2.1]
        exact s4 _ _ h.1
      · cases z : H1 t with
        | none => rfl
        | some o => rw [s1 _ _ z] at nt; cases nt
    · rw [upd_ne (ne_of_none e nD)]
      exact s4 _ _ (s1 _ _ e)
  · obtain rfl : i = as.length := by omega
    rw [List.take_length] at pr
    exact .inl ⟨stop H s1, fin H D ts nD oD (Paired.mapP pr fun t a h => ⟨h.1, h.2.2⟩) s1⟩
theorem paired_mapR {α β γ : Type} {R : α → γ → Prop} {f : β → γ} {as : List α} {bs : List β} (h : Paired (fun a b => R a (f b)) as bs) : Paired R as (bs.map f) := by
  induction h with
  | nil => exact .nil
  | cons h _ ih => exact .cons h ih
def FlP (H : Hp) (ts : List Addr) (S : List (List Str)) : Prop := Paired (fun t x => H t = some (.lst ((x : List Str).map V.str))) ts S
theorem FlP.same {H H' : Hp} {ts : List Addr} {S : List (List Str)} (h : FlP H ts S) (s : Same H H') : FlP H' ts S := Paired.mapP h fun t x h => s _ _ h
structure FewB (arcs : NtT) (ks : List Str) (e : Str × ArT) (b : Int) : Prop where
  le : b ≤ ks.length
  is : b = ks.length ∨ ∃ x : List Str, x.Sublist ks ∧ ¬ Told arcs (lessN ks x) e ∧ b = x.length
  low : ∀ x : List Str, x.Sublist ks → ¬ Told arcs (lessN ks x) e → b ≤ x.length
def spFewL (K : PySem.W.Frag) : Sp := fun vs H Q _ => ∃ (D lv kn : Addr) (arcs : NtT) (A : Addr → Prop) (ks : List Str) (e : Str × ArT), vs = [.ref D, .ref lv, .ref kn, .str e.1] ∧ AtF A H D arcs ∧ NtOk arcs ∧ H lv = some (.lst ((liveL arcs).map V.str)) ∧ KnA K H kn arcs ks ∧ H kn = some (.lst (ks.map V.str)) ∧ ks.length ≤ 8 ∧ e ∈ arcs ∧
  ∀ H' b, FewB arcs ks e b → Same H H' → Q (.int b) H'
abbrev NFw : List Str := ["arcs", "live", "known", "asked", "rows", "name", "x", "best", "left"]
theorem scFw : FnScope NFw ["arcs", "live", "known", "asked"] (defScope sFewest) := ⟨rfl, rfl, rfl, by decide +kernel, rfl, by decide +kernel, by decide +kernel⟩
section
variable {P : Program} {w : World} {K : PySem.W.Frag} {mg : Str → Option Value} {base : Heap} {f fO : Addr} {fd fdO : FuncData}
theorem ok_fewL (F : Fun K "_law_c_fewest" "_law_c_fewest" sFewest f fd) (FO : Fun K "_law_c_is_open" "_law_c_is_open" sIsOpen fO fdO) (gO : mg "_law_c_is_open" = some (.ref fO)) (GO : FnOk P w K mg base CX0 3 fO fdO ["arcs", "live", "known", "asked"] (spIsOpenL K)) (nN : mg "len" = none) : FnOk P w K mg base CX0 4 f fd ["arcs", "live", "known", "asked"] (spFewL K) := by
  have bO := FO.binds (ps := ["arcs", "live", "known", "asked"]) fun _ _ _ _ _ _ us hl => match us, hl with | [_, _, _, _], _ => rfl
  refine F.ok scFw (fun vs H Q E h => by obtain ⟨D, lv, kn, arcs, A, ks, e0, e, _⟩ := h; rw [e]; rfl) fun cdv A outer s H vs Q E hr hsp => ?_
  obtain ⟨D, lv, kn, arcs, A0, ks, e, rfl, at_, nok, olv, ka, oq, l8, he, hq⟩ := hsp
  have nd := scFw.nd
  refine ⟨_, pss_cons (ps_set (i := 4) nd rfl (Or.inl rfl) (pe_lst (pa_cons (pe_lst pa_nil) pa_nil)))
    (pss_cons (ps_for PassesOwn.never rfl (pi_list (pv 2)) (pg_name (i := 5) nd rfl (Or.inr rfl))
      (pss_one (ps_set (i := 4) nd rfl (Or.inl rfl) (pe_op op_cat (pv 4) (pe_lc (own := [("x", 6)]) (tt := tYes) (g := gName 6) (te := tOp rCat (tVar 6) (tLst (tCons (tVar 5) tNil))) rfl nd (pi_list (pv 4)) (blkOk_by (N := NFw) (sc := defScope sFewest) (by decide +kernel)) (fun _ _ _ _ _ => pg_name (i := 6) nd rfl (Or.inl rfl)) (fun _ _ _ _ _ => pts_nil) (fun _ _ _ _ _ => pe_op op_cat (pv 6) (pe_lst (pa_cons (pv 5) pa_nil))))))))
    (pss_cons (ps_set (i := 7) nd rfl (Or.inl rfl) (pe_callB call_len rfl nN boot_len (pa_cons (pv 2) pa_nil)))
    (pss_cons (ps_for PassesOwn.never rfl (pi_list (pv 4)) (pg_name (i := 6) nd rfl (Or.inr rfl))
      (pss_cons (ps_setLc (i := 8) (own := [("name", 5)]) (tt := tTest (tOp (rIn K true) (tVar 5) (tVar 6))) (g := gName 5) (te := tVar 5) rfl nd rfl rfl (sw_true rfl rfl rfl rfl) (pi_list (pv 2)) (blkOk_by (N := NFw) (sc := defScope sFewest) (by decide +kernel)) (fun _ _ _ _ _ => pg_name (i := 5) nd rfl (Or.inl rfl)) (fun _ _ _ _ _ => pts_one (pt_cmpR op_notIn_seq (pv 5) (pv 6) rfl)) (fun _ _ _ _ _ => pv 5))
      (pss_one (ps_if (PW.pt (pw_and (pt_cmpR op_lt (pe_callB call_len rfl nN boot_len (pa_cons (pv 6) pa_nil)) (pv 7) (nomark _)) (pw_and1 (pt_val (pe_call GO hr rfl gO FO.kp bO .nil pass0 (pa_cons (pv 0) (pa_cons (pv 1) (pa_cons (pv 8) (pa_cons (pv 3) pa_nil)))))))))
        (pss_one (ps_set (i := 7) nd rfl (Or.inl rfl) (pe_callB call_len rfl nN boot_len (pa_cons (pv 6) pa_nil)))) pss_nil))))
    (pss_one (ps_ret (pv 7)))))), ?_⟩
  refine ⟨Nat.zero_le _, fun p1 np1 => ?_⟩
  have k1 := same_new (o := .lst []) np1
  have o1 : upd H p1 (.lst []) p1 = some (.lst []) := upd_same
  refine ⟨(by show 1 ≤ sizeLine; decide), fun p2 np2 => ?_⟩
  have k2 := same_new (o := .lst [.ref p1]) np2
  have o2 : upd (upd H p1 (.lst [])) p2 (.lst [.ref p1]) p2 = some (.lst ([p1].map V.ref)) := upd_same
  have kk := k1.trans k2
  have o1 := k2 _ _ o1
  generalize upd (upd H p1 (.lst [])) p2 (.lst [.ref p1]) = H2 at kk o1 o2
  clear k1 k2 np2
  refine ⟨_, rfl, kn, rfl, ⟨_, SqL.of (kk _ _ oq)⟩, for_list (xs := ks.map V.str) (fun i σ H' => ∃ (r : Addr) (ts : List Addr) (s5 s6 s7 s8 : Option V), σ = [some (.ref D), some (.ref lv), some (.ref kn), some (.str e.1), some (.ref r), s5, s6, s7, s8] ∧ H' r = some (.lst (ts.map V.ref)) ∧ FlP H' ts (filesF [[]] (ks.take i)) ∧ Same H H')
    ⟨p2, [p1], _, _, _, _, rfl, o2, .cons o1 .nil, kk⟩ (fun i σ H' _ h => by obtain ⟨_, _, _, _, _, _, _, _, _, k⟩ := h; exact SqL.of (k _ _ oq)) ?_ ?_⟩
  · rintro i v σ G0 ev ⟨r, ts, s5, s6, s7, s8, rfl, or, pr, k⟩
    rw [List.getElem?_map] at ev
    obtain ⟨n, en, rfl⟩ := Option.map_eq_some_iff.mp ev
    have et : ks.take (i + 1) = ks.take i ++ [n] := by rw [List.take_succ, en]; rfl
    have lS := Paired.length pr
    have lp : (filesF [[]] (ks.take i)).length ≤ 256 := by
      have z := filesL_len (ks.take i)
      rw [List.length_take] at z
      have h8 : min i ks.length ≤ 8 := by omega
      have := Nat.pow_le_pow_right (show 0 < 2 by decide) h8
      show (filesL (ks.take i)).length ≤ 256
      omega
    have lr : (ts.map V.ref).length = ts.length := List.length_map _
    refine ⟨_, rfl, _, rfl, r, rfl, ⟨_, SqL.of or⟩, ?_⟩
    refine lc_lists (filesF [[]] (ks.take i)) (fun x => (x ++ [n]).map V.str) (by omega) (fun j H' s lt => ⟨_, _, SqL.of (s _ _ or), List.getElem?_eq_getElem (by rw [lr, lS]; exact lt)⟩) (fun H' s => ⟨_, SqL.of (s _ _ or), by rw [lr, lS]; exact Nat.le_refl _⟩) ?_ ?_
    · rintro j y x G1 G2 Cn Nn ex s2 ⟨rfl, ev2⟩ yes
      have ev2 := ev2 _ (SqL.of (s2 _ _ or))
      rw [List.getElem?_map] at ev2
      obtain ⟨t, et2, rfl⟩ := Option.map_eq_some_iff.mp ev2
      obtain ⟨x', ex', ot⟩ := paired_get pr et2
      rw [ex] at ex'
      obtain rfl := Option.some.inj ex'
      have lx : x.length ≤ 8 := by
        obtain ⟨y, hy, z, hz, rfl⟩ := (filesF_in (ks.take i) [[]] x).mp (List.mem_of_getElem? ex)
        obtain rfl := List.mem_singleton.mp hy
        have := hz.length_le
        rw [List.length_take] at this
        rw [List.nil_append]
        omega
      refine ⟨rfl, _, rfl, _, rfl, (by show 1 ≤ sizeLine; decide), fun p np => ?_⟩
      have kp := same_new (o := .lst [.str n]) np
      refine ⟨t, p, _, _, rfl, rfl, kp _ _ (s2 _ _ ot), upd_same, (by rw [sizeLine_eq, List.length_map]; show x.length + 1 ≤ _; omega), fun z nz => ?_⟩
      have kz := same_new (o := .lst (x.map V.str ++ [.str n])) nz
      exact yes z _ (kp.free nz) (by rw [upd_same, List.map_append]; rfl) (kp.trans kz)
    · intro G5 B ts2 nB oB pp s5
      have l2 := Paired.length pp
      refine ⟨r, B, _, _, rfl, rfl, s5 _ _ or, oB, (by rw [sizeLine_eq, lr, List.length_map]; omega), fun r2 nr2 => ?_⟩
      have kr := same_new (o := .lst (ts.map V.ref ++ ts2.map V.ref)) nr2
      refine ⟨r2, ts ++ ts2, _, _, _, _, rfl, by rw [upd_same, List.map_append], ?_, (k.trans s5).trans kr⟩
      rw [et, filesF_snoc]
      refine paired_appN (FlP.same pr (s5.trans kr)) ?_
      have pp2 : FlP G5 ts2 ((filesF [[]] (ks.take i)).map fun x => x ++ [n]) := by
        exact paired_mapR (R := fun t (x : List Str) => G5 t = some (.lst (x.map V.str))) (Paired.mapP pp fun t a h => h.1)
      exact pp2.same kr
  · rintro σ G0 ⟨r, ts, s5, s6, s7, s8, rfl, or, pr, k⟩
    rw [List.length_map, List.take_length] at pr
    have lkn : ((ks.map V.str).length) = ks.length := List.length_map _
    refine ⟨_, rfl, .ref kn, ks.length, rfl, .inl ⟨_, SqL.of (k _ _ oq), lkn.symm⟩, ?_⟩
    have lS := Paired.length pr
    refine ⟨_, rfl, r, rfl, ⟨_, SqL.of or⟩, for_list (xs := ts.map V.ref) (fun i σ H' => ∃ (s5 s6 s8 : Option V) (b : Int), σ = [some (.ref D), some (.ref lv), some (.ref kn), some (.str e.1), some (.ref r), s5, s6, some (.int b), s8] ∧ Same G0 H' ∧ b ≤ ks.length ∧ (b = ks.length ∨ ∃ x : List Str, x.Sublist ks ∧ ¬ Told arcs (lessN ks x) e ∧ b = x.length) ∧ ∀ x ∈ (filesL ks).take i, ¬ Told arcs (lessN ks x) e → b ≤ x.length)
      ⟨_, _, _, _, rfl, Same.refl _, Int.le_refl _, .inl rfl, fun x hx => by rw [List.take_zero] at hx; cases hx⟩ (fun i σ H' _ h => by obtain ⟨_, _, _, _, _, k2, _⟩ := h; exact SqL.of (k2 _ _ or)) ?_ ?_⟩
    · rintro i v σ G1 ev ⟨s5, s6, s8, b, rfl, k1, ble, bis, blow⟩
      rw [List.getElem?_map] at ev
      obtain ⟨t, et, rfl⟩ := Option.map_eq_some_iff.mp ev
      obtain ⟨x, ex, ot⟩ := paired_get pr et
      have ex : (filesL ks)[i]? = some x := ex
      have tk : (filesL ks).take (i + 1) = (filesL ks).take i ++ [x] := by rw [List.take_succ, ex]; rfl
      have sx : x.Sublist ks := by
        obtain ⟨y, hy, z, hz, rfl⟩ := (filesF_in ks [[]] x).mp (List.mem_of_getElem? ex)
        obtain rfl := List.mem_singleton.mp hy
        exact hz
      have k01 := k.trans k1
      refine ⟨_, rfl, kn, rfl, ⟨_, SqL.of (k01 _ _ oq)⟩, ?_⟩
      refine lc_selN (fun n => decide (n ∉ x)) (k01 _ _ oq) (by omega) (fun _ => rfl) (fun _ => rfl) (fun n G2 T _ s2 go => ?_) fun G2 q nq oq2 s2 => ?_
      · refine ⟨_, rfl, _, rfl, t, _, rfl, .inl (SqL.of (s2 _ _ (k1 _ _ ot))), rfl, flat_strs x, _, rfl, ?_⟩
        have z := go G2 (Same.refl _)
        rw [inV_strs]
        have e1 : (if true = true then !decide (n ∈ x) else decide (n ∈ x)) = decide (n ∉ x) := by
          rw [if_pos rfl]
          by_cases c : n ∈ x
          · rw [decide_eq_true c, decide_eq_false (fun h => h c)]; rfl
          · rw [decide_eq_false c, decide_eq_true c]; rfl
        rw [e1]
        exact z
      have k02 := k01.trans s2
      have k12 := k1.trans s2
      have lx : (x.map V.str).length = x.length := List.length_map _
      have low : ∀ b' : Int, b' ≤ b → (¬ Told arcs (lessN ks x) e → b' ≤ x.length) → ∀ x ∈ (filesL ks).take (i + 1), ¬ Told arcs (lessN ks x) e → b' ≤ x.length := fun b' hb h y hy op => by
        rw [tk] at hy
        rcases (List.mem_append.mp hy) with hy | hy
        · have := blow y hy op
          omega
        · rw [List.mem_singleton.mp hy] at op ⊢
          exact h op
      have lent : LenV K (.ref t) G2 x.length := .inl ⟨_, SqL.of (k12 _ _ ot), lx.symm⟩
      refine ⟨_, rfl, .ref t, x.length, rfl, lent, _, rfl, _, _, rfl, rfl, _, rfl, ?_⟩
      by_cases c : (x.length : Int) < b
      case neg =>
        rw [decide_eq_false c]
        exact iteF (iteF ⟨_, _, _, b, rfl, k12, ble, bis, low b (Int.le_refl _) fun _ => by omega⟩)
      rw [decide_eq_true c]
      refine iteT ⟨_, rfl, _, rfl, _, rfl, _, rfl, D, lv, q, arcs, A0, lessN ks x, e, rfl, AtF.kp at_ (fun b o a z => ⟨a, k02 _ _ z⟩), nok, k02 _ _ olv, ⟨.inl oq2, fun n hn => ka.sub n (less_in.mp hn).1, ka.nd.filter _⟩, he, fun G3 b3 hb3 k3 => ⟨b3, rfl, ?_⟩⟩
      cases b3 with
      | false => exact iteF ⟨_, _, _, b, rfl, k12.trans k3, ble, bis, low b (Int.le_refl _) fun z => by cases hb3.mpr z⟩
      | true =>
        have lent3 : LenV K (.ref t) G3 x.length := .inl ⟨_, SqL.of (k3 _ _ (k12 _ _ ot)), lx.symm⟩
        refine iteT ⟨_, rfl, .ref t, x.length, rfl, lent3, ?_⟩
        exact ⟨_, _, _, x.length, rfl, k12.trans k3, by omega, .inr ⟨x, sx, hb3.mp rfl, rfl⟩, low x.length (by omega) fun _ => Int.le_refl _⟩
    · rintro σ G1 ⟨s5, s6, s8, b, rfl, k1, ble, bis, blow⟩
      rw [List.length_map, show ts.length = (filesL ks).length from lS, List.take_length] at blow
      exact ⟨_, rfl, hq G1 b ⟨ble, bis, fun x hx => blow x ((filesF_in ks [[]] x).mpr ⟨[], by simp, x, hx, rfl⟩)⟩ (k.trans k1)⟩
end
end L2.TB
/-! the law: whether a thing are levels -/
namespace L2.TB
open PySem PySem.Spec PyProof.Rows LamX
theorem nd_subK {α : Type} [DecidableEq α] : ∀ {l l' : List α}, l.Nodup → (∀ x, x ∈ l → x ∈ l') → l.length ≤ l'.length
  | [], _, _, _ => Nat.zero_le _
  | a :: l, l', nd, s => by
    obtain ⟨n1, n2⟩ := (List.nodup_cons.mp nd)
    have m := s a (List.mem_cons_self ..)
    have ih := nd_subK (l := l) (l' := l'.erase a) n2 fun x hx => (List.mem_erase_of_ne (fun z => n1 (by rw [← z]; exact hx))).mpr (s x (List.mem_cons_of_mem _ hx))
    have e := List.length_erase_of_mem m
    have p := List.length_pos_of_mem m
    show l.length + 1 ≤ _
    omega
theorem just_keys {kvs : List (Key × V)} {ns : List Str} (nd : (kvs.map (·.1)).Nodup) (nn : ns.Nodup) (j : justB kvs ns = true) : ∀ kv ∈ kvs, ∃ n ∈ ns, kv.1 = Sum.inr n := fun kv hk => by
  obtain ⟨j1, j2⟩ := (Bool.and_eq_true _ _).mp j
  have le : kvs.length = ns.length := of_decide_eq_true j1
  refine Classical.byContradiction fun c => ?_
  have out : kv.1 ∉ ns.map (Sum.inr : Str → Key) := fun z => by
    obtain ⟨n, hn, e⟩ := List.mem_map.mp z
    exact c ⟨n, hn, e.symm⟩
  have := nd_subK (l := kv.1 :: ns.map Sum.inr) (l' := kvs.map (·.1)) (List.nodup_cons.mpr ⟨out, nd_inr nn⟩) fun x hx => by
    rcases (List.mem_cons.mp hx) with rfl | hx
    · exact List.mem_map_of_mem hk
    · obtain ⟨n, hn, rfl⟩ := List.mem_map.mp hx
      obtain ⟨v, ev⟩ := Option.isSome_iff_exists.mp (List.all_eq_true.mp j2 n hn)
      unfold valV at ev
      obtain ⟨p, h1, h2⟩ := Option.map_eq_some_iff.mp ev
      have h3 := List.find?_some h1
      rw [← of_decide_eq_true h3]
      exact List.mem_map_of_mem (List.mem_of_find?_eq_some h1)
  rw [List.length_cons, List.length_map, List.length_map] at this
  omega
/-- the values of the nodes, all of them whole numbers -/
theorem just_ints {kvs : List (Key × V)} {ns : List Str} (nd : (kvs.map (·.1)).Nodup) (nn : ns.Nodup) (j : justB kvs ns = true) : (∀ kv ∈ kvs, isIntV kv.2 = true) ↔ ∀ n ∈ ns, isIntV ((valV kvs (Sum.inr n)).getD .non) = true := by
  constructor
  · intro h n hn
    rw [lv_val j h hn]
    rfl
  · intro h kv hk
    obtain ⟨n, hn, e⟩ := just_keys nd nn j kv hk
    have z := h n hn
    obtain ⟨i, hi⟩ := List.getElem?_of_mem hk
    obtain ⟨a, b⟩ := kv
    have e : a = Sum.inr n := e
    rw [e] at hi
    rw [valV_atN nd hi] at z
    exact z
def spAreLvL (K : PySem.W.Frag) : Sp := fun vs H Q _ => ∃ (D lv kn : Addr) (arcs : NtT) (A : Addr → Prop) (ks : List Str) (e : Str × ArT) (v : V) (o : Option (List (Key × V))), vs = [.ref D, .ref lv, .ref kn, .str e.1, v] ∧ AtF A H D arcs ∧ NtOk arcs ∧ H lv = some (.lst ((liveL arcs).map V.str)) ∧ KnA K H kn arcs ks ∧ e ∈ arcs ∧ SndT K H v o ∧
  ∀ H' b, (b = true ↔ ∃ kvs, o = some kvs ∧ AreLv arcs ks e kvs) → Same H H' → Q (.bl b) H'
abbrev NLq : List Str := ["arcs", "live", "known", "asked", "x", "nodes", "name", "far", "node"]
theorem scLq : FnScope NLq ["arcs", "live", "known", "asked", "x"] (defScope sAreLevL) := ⟨rfl, rfl, rfl, by decide +kernel, rfl, by decide +kernel, by decide +kernel⟩
section
variable {P : Program} {w : World} {K : PySem.W.Frag} {mg : Str → Option Value} {base : Heap} {f fN : Addr} {fd fdN : FuncData}
theorem ok_areLvL (F : Fun K "_law_c_are_levels" "_law_c_are_levels" sAreLevL f fd) (FN : Fun K "_law_c_nodes" "_law_c_nodes" sNodesL fN fdN) (gNo : mg "_law_c_nodes" = some (.ref fN)) (gI : mg "isinstance" = none) (gD : mg "dict" = none) (gN : mg "len" = none) (gA : mg "all" = none) (gInt : mg "int" = none) (gB : mg "bool" = none) (gAb : mg "abs" = none) : FnOk P w K mg base CX0 2 f fd ["arcs", "live", "known", "asked", "x"] (spAreLvL K) := by
  have GN : FnOk P w K mg base CX0 1 fN fdN ["arcs"] spNodesF := ok_nodesF FN gInt
  have bN := FN.binds (ps := ["arcs"]) fun _ _ _ _ _ _ us hl => match us, hl with | [_], _ => rfl
  refine F.ok scLq (fun vs H Q E h => by obtain ⟨D, lv, kn, arcs, A, ks, e0, v, o, e, _⟩ := h; rw [e]; rfl) fun cdv A outer s H vs Q E hr hsp => ?_
  obtain ⟨D, lv, kn, arcs, A0, ks, e, v, o, rfl, at_, nok, olv, ka, he, hv, hq⟩ := hsp
  have nd := scLq.nd
  have hu := hu_of hr
  refine ⟨_, pss_cons (ps_set (i := 5) nd rfl (Or.inl rfl) (pe_call GN hr rfl gNo FN.kp bN .nil pass0 (pa_cons (pv 0) pa_nil)))
    (pss_cons (ps_if (PW.pt (pw_or (pt_not (pt_val (pe_callB (r := rIsi K) call_isi rfl gI boot_isi (pa_cons (pv 4) (pa_cons (pe_bltn (v := .ty "dict") rfl gD boot_dict' rfl) pa_nil)))))
        (pw_or (pt_cmpR op_ne (pe_callB call_lenD rfl gN boot_len (pa_cons (pv 4) pa_nil)) (pe_callB call_len rfl gN boot_len (pa_cons (pv 5) pa_nil)) (nomark _))
          (pw_or1 (pt_not (pt_val (pe_callB (cr_all rfl) rfl gA boot_allN (pa_cons (pe_lc (own := [("node", 8)]) (g := gName 8) (tt := tYes) rfl nd (pi_list (pv 5)) (blkOk_by (N := NLq) (sc := defScope sAreLevL) (by decide +kernel)) (fun _ _ _ _ _ => pg_name (i := 8) nd rfl (Or.inl rfl)) (fun _ _ _ _ _ => pts_nil)
            (fun _ _ _ _ _ => pe_cmp (pc_din hu (pv 8) (pv 4)))) pa_nil)))))))) (pss_one (ps_ret pe_bl)) pss_nil)
    (pss_cons (ps_if (pt_not (pt_val (pe_callB (cr_all rfl) rfl gA boot_allN (pa_cons (pe_lc (own := [("node", 8)]) (g := gName 8) (tt := tYes) rfl nd (pi_list (pv 5)) (blkOk_by (N := NLq) (sc := defScope sAreLevL) (by decide +kernel)) (fun _ _ _ _ _ => pg_name (i := 8) nd rfl (Or.inl rfl)) (fun _ _ _ _ _ => pts_nil)
            (fun _ _ _ _ _ => pe_and (pe_callB (r := rIsi K) call_isi rfl gI boot_isi (pa_cons (pe_dget hu (pv 4) (pv 8) (fun _ _ => rfl)) (pa_cons (pe_bltn (v := .ty "int") rfl gInt boot_int' rfl) pa_nil)))
              (pe_one (pe_not (pe_callB (r := rIsi K) call_isi rfl gI boot_isi (pa_cons (pe_dget hu (pv 4) (pv 8) (fun _ _ => rfl)) (pa_cons (pe_bltn (v := .ty "bool") rfl gB boot_bool' rfl) pa_nil))))))) pa_nil)))) (pss_one (ps_ret pe_bl)) pss_nil)
    (pss_cons (ps_for PassesOwn.never rfl (pi_list (pv 1)) (pg_name (i := 6) nd rfl (Or.inl rfl))
      (pss_cons (ps_set (i := 7) nd rfl (Or.inl rfl) (pe_callB call_abs rfl gAb boot_absT (pa_cons (pe_op op_sub (pe_dget hu (pv 4) (pe_ix (r := rIx K) ix_seq (pe_dget hu (pv 0) (pv 6) (fun _ _ => rfl)) pe_int (fun _ _ => rfl)) (fun _ _ => rfl)) (pe_dget hu (pv 4) (pe_ix (r := rIx K) ix_seq (pe_dget hu (pv 0) (pv 6) (fun _ _ => rfl)) pe_int (fun _ _ => rfl)) (fun _ _ => rfl))) pa_nil)))
      (pss_one (ps_if (PW.pt (pw_and (pt_cmpR op_ne (pv 6) (pv 3) (nomark _)) (pw_and1 (pt_cmpR op_gt (pv 7) (pe_callTy call_int1 rfl gInt boot_int' (pa_cons (pe_cmpR op_in_seq (pv 6) (pv 2) rfl) pa_nil)) (nomark _))))) (pss_one (ps_ret pe_bl)) pss_nil))))
    (pss_one (ps_ret (pe_cmpR op_eq (pe_dget hu (pv 4) (pe_ix (r := rIx K) ix_seq (pe_dget hu (pv 0) (pv 3) (fun _ _ => rfl)) pe_int (fun _ _ => rfl)) (fun _ _ => rfl)) pe_int (nomark _))))))), ?_⟩
  have sh := nok.n1
  have lN := nodesL_len nok
  have ndN : (nodesL arcs).Nodup := nodesF_nd arcs [] (by simp)
  have lns : ((nodesL arcs).map V.str).length = (nodesL arcs).length := List.length_map _
  refine ⟨_, rfl, D, arcs, A0, rfl, at_, by omega, fun H1 qn nqn oqn k1 => ?_⟩
  cases hv with
  | no h =>
    obtain ⟨t, h1, h2⟩ := h.same k1
    exact ⟨_, rfl, _, _, _, _, false, rfl, .ty _, h1, kit_ty h2, _, rfl, iteT (iteT (hq H1 false ⟨fun z => (by cases z), fun ⟨_, z, _⟩ => (by cases z)⟩ k1))⟩
  | @dict d kvs pd =>
  have pd1 := pd.same k1
  refine ⟨_, rfl, _, _, _, _, true, rfl, .ty _, .base (.dK pd1.o), kit_ty (by decide +kernel), _, rfl, iteF ?_⟩
  have ed : decide (V.int (kvs.length : Nat) = V.int ((nodesL arcs).length : Nat)) = decide (kvs.length = (nodesL arcs).length) := decide_eq_decide.mpr ⟨fun h => by have := V.int.inj h; omega, fun h => by rw [h]⟩
  refine ⟨_, rfl, d, kvs, rfl, pd1.o, _, rfl, .ref qn, (nodesL arcs).length, rfl, .inl ⟨_, SqL.of oqn, lns.symm⟩, rfl, !decide (kvs.length = (nodesL arcs).length), congrArg (fun z => V.bl (!z)) ed, ?_⟩
  have bad : (justB kvs (nodesL arcs) = false ∨ ¬ ∀ kv ∈ kvs, isIntV kv.2 = true) → ∀ H', Same H H' → Q (.bl false) H' := fun h H' k => hq H' false ⟨fun z => (by cases z), fun ⟨_, e, y⟩ => by
    obtain rfl := Option.some.inj e
    rcases h with h | h
    · rw [y.1] at h; cases h
    · exact absurd y.2.1 h⟩ k
  by_cases c : kvs.length = (nodesL arcs).length
  case neg =>
    rw [decide_eq_false c]
    exact iteT (iteT (bad (.inl (by unfold justB; rw [decide_eq_false c]; rfl)) H1 k1))
  rw [decide_eq_true c]
  refine iteF ⟨_, rfl, qn, rfl, ⟨_, SqL.of oqn⟩, ?_⟩
  refine lc_gen (((nodesL arcs).map fun n => (valV kvs (Sum.inr n)).isSome).map V.bl) (by rw [List.length_map, List.length_map]; omega) (fun i H' s lt => ⟨_, _, SqL.of (s _ _ oqn), List.getElem?_eq_getElem (by rw [List.length_map, List.length_map] at lt; omega)⟩) (fun H' s => ⟨_, SqL.of (s _ _ oqn), by rw [List.length_map, List.length_map, List.length_map]; exact Nat.le_refl _⟩) ?_ ?_
  · rintro i y b H2 H3 Cn Nn eb s2 ⟨rfl, ev⟩ yes
    have ev := ev _ (SqL.of (s2 _ _ oqn))
    rw [List.getElem?_map] at ev
    obtain ⟨n, en, rfl⟩ := Option.map_eq_some_iff.mp ev
    rw [List.getElem?_map, List.getElem?_map, en] at eb
    obtain rfl := Option.some.inj eb
    exact ⟨rfl, _, rfl, _, rfl, d, _, rfl, DGet.k (k := Sum.inr n) (s2 _ _ pd1.o), yes H3 (Same.refl _)⟩
  intro H2 q2 nq2 oq2 s2
  refine ⟨q2, _, rfl, SqL.of oq2, _, rfl, ?_⟩
  have ej : justB kvs (nodesL arcs) = ((nodesL arcs).map fun n => (valV kvs (Sum.inr n)).isSome).all id := by
    unfold justB
    rw [decide_eq_true c, List.all_map]
    rfl
  rw [← ej]
  have k02 := k1.trans s2
  cases ju : justB kvs (nodesL arcs) with
  | false => exact iteT (bad (.inl ju) H2 k02)
  | true =>
  refine iteF ?_
  have oqn2 := s2 _ _ oqn
  have pd2 := pd.same k02
  refine ⟨_, rfl, qn, rfl, ⟨_, SqL.of oqn2⟩, ?_⟩
  refine lc_gen (((nodesL arcs).map fun n => isIntV ((valV kvs (Sum.inr n)).getD .non)).map V.bl) (by rw [List.length_map, List.length_map]; omega) (fun i H' s lt => ⟨_, _, SqL.of (s _ _ oqn2), List.getElem?_eq_getElem (by rw [List.length_map, List.length_map] at lt; omega)⟩) (fun H' s => ⟨_, SqL.of (s _ _ oqn2), by rw [List.length_map, List.length_map, List.length_map]; exact Nat.le_refl _⟩) ?_ ?_
  · rintro i y b H3 H4 Cn Nn eb s3 ⟨rfl, ev⟩ yes
    have ev := ev _ (SqL.of (s3 _ _ oqn2))
    rw [List.getElem?_map] at ev
    obtain ⟨n, en, rfl⟩ := Option.map_eq_some_iff.mp ev
    rw [List.getElem?_map, List.getElem?_map, en] at eb
    obtain rfl := Option.some.inj eb
    obtain ⟨u, eu⟩ := Option.isSome_iff_exists.mp (List.all_eq_true.mp ((Bool.and_eq_true _ _).mp ju).2 n (List.mem_of_getElem? en))
    have au : Atom u := by
      have eu := eu
      unfold valV at eu
      obtain ⟨kv, h1, h2⟩ := Option.map_eq_some_iff.mp eu
      rw [← h2]
      exact pd.at_ kv (List.mem_of_find?_eq_some h1)
    have yes : ∀ H5, Same H4 H5 → Cn (V.bl (isIntV ((valV kvs (Sum.inr n)).getD .non))) H5 := yes
    rw [eu] at yes
    have yes : ∀ H5, Same H4 H5 → Cn (V.bl (isIntV u)) H5 := yes
    have dg : DGet H4 d (.str n) (some u) := by
      have := DGet.k (k := Sum.inr n) (s3 _ _ pd2.o)
      rw [eu] at this
      exact this
    have s0 := Same.refl H4
    refine ⟨rfl, ?_⟩
    cases au with
    | str x => exact ⟨_, rfl, _, rfl, d, _, rfl, dg, _, _, _, _, false, rfl, .ty _, .base (.str x), kit_ty (by decide +kernel), _, rfl, iteF (yes _ s0)⟩
    | non => exact ⟨_, rfl, _, rfl, d, _, rfl, dg, _, _, _, _, false, rfl, .ty _, .base .non, kit_ty (by decide +kernel), _, rfl, iteF (yes _ s0)⟩
    | bl b =>
      refine ⟨_, rfl, _, rfl, d, _, rfl, dg, _, _, _, _, true, rfl, .ty _, .base (.bl b), kit_ty (by decide +kernel), _, rfl, iteT ?_⟩
      exact ⟨_, rfl, _, rfl, d, _, rfl, dg, _, _, _, _, true, rfl, .ty _, .base (.bl b), kit_ty (by decide +kernel), _, rfl, yes _ s0⟩
    | int z =>
      refine ⟨_, rfl, _, rfl, d, _, rfl, dg, _, _, _, _, true, rfl, .ty _, .base (.int z), kit_ty (by decide +kernel), _, rfl, iteT ?_⟩
      exact ⟨_, rfl, _, rfl, d, _, rfl, dg, _, _, _, _, false, rfl, .ty _, .base (.int z), kit_ty (by decide +kernel), _, rfl, yes _ s0⟩
  intro H3 q3 nq3 oq3 s3
  refine ⟨q3, _, rfl, SqL.of oq3, ?_⟩
  have k03 := k02.trans s3
  by_cases ai : ∀ n ∈ nodesL arcs, isIntV ((valV kvs (Sum.inr n)).getD .non) = true
  case neg =>
    have z : ((nodesL arcs).map fun n => isIntV ((valV kvs (Sum.inr n)).getD .non)).all id = false := Bool.eq_false_iff.mpr fun z => ai fun n hn => by
      rw [List.all_map] at z
      exact List.all_eq_true.mp z n hn
    rw [z]
    exact ⟨_, rfl, iteT (bad (.inr fun y => ai ((just_ints pd.nd ndN ju).mp y)) H3 k03)⟩
  have z : ((nodesL arcs).map fun n => isIntV ((valV kvs (Sum.inr n)).getD .non)).all id = true := by
    rw [List.all_map]
    exact List.all_eq_true.mpr ai
  rw [z]
  refine ⟨_, rfl, iteF ?_⟩
  have ai := (just_ints pd.nd ndN ju).mpr ai
  have dg : ∀ {H' : Hp} {n : Str}, Same H3 H' → n ∈ nodesL arcs → DGet H' d (.str n) (some (.int (lvV kvs n))) := fun {H' n} k hn => by
    have := DGet.k (k := Sum.inr n) (k _ _ (pd.same k03).o)
    rw [lv_val ju ai hn] at this
    exact this
  have at3 := AtF.kp at_ (H' := H3) fun b o a z => ⟨a, k03 _ _ z⟩
  have olv3 := k03 _ _ olv
  refine ⟨_, rfl, lv, rfl, ⟨_, SqL.of olv3⟩, for_list (xs := (liveL arcs).map V.str) (fun i σ H' => (∃ s6 s7, σ = [some (.ref D), some (.ref lv), some (.ref kn), some (.str e.1), some (.ref d), some (.ref qn), s6, s7, none]) ∧ Same H3 H' ∧ ∀ c ∈ (liveE arcs).take i, c.1 ≠ e.1 → lvV kvs c.2.1 - lvV kvs c.2.2 ≤ inW ks c.1 ∧ lvV kvs c.2.2 - lvV kvs c.2.1 ≤ inW ks c.1)
      ⟨⟨_, _, rfl⟩, Same.refl _, fun c hc => by rw [List.take_zero] at hc; cases hc⟩ (fun i σ H' _ h => SqL.of (h.2.1 _ _ olv3)) ?_ ?_⟩
  · rintro i y σ H8 ey ⟨⟨s6, s7, rfl⟩, k8, al⟩
    rw [← liveE_names, List.getElem?_map, List.getElem?_map] at ey
    obtain ⟨n, h2, rfl⟩ := Option.map_eq_some_iff.mp ey
    obtain ⟨c, ec, rfl⟩ := Option.map_eq_some_iff.mp h2
    have hc := List.mem_of_getElem? ec
    have ca := liveE_sub c hc
    have et : (liveE arcs).take (i + 1) = (liveE arcs).take i ++ [c] := by rw [List.take_succ, ec]; rfl
    obtain ⟨es1, t1, oD1, ev1, _, ot1⟩ := arc_atF (AtF.kp at3 fun b o a z => ⟨a, k8 _ _ z⟩) ca
    have dD : DGet H8 D (.str c.1) (some (.ref t1)) := .inl ⟨es1, Sum.inr c.1, .inr oD1, rfl, ev1.symm⟩
    refine ⟨_, rfl, _, rfl, _, rfl, D, _, rfl, dD, .inr (.inl ⟨t1, _, _, _, rfl, rfl, SqT.of ot1, rfl, d, _, rfl, dg k8 (nodesL_end ca).1, ?_⟩)⟩
    refine ⟨_, rfl, _, rfl, _, rfl, D, _, rfl, dD, .inr (.inl ⟨t1, _, _, _, rfl, rfl, SqT.of ot1, rfl, d, _, rfl, dg k8 (nodesL_end ca).2, _, _, rfl, rfl, _, rfl, ?_⟩)⟩
    have go : (c.1 ≠ e.1 → lvV kvs c.2.1 - lvV kvs c.2.2 ≤ inW ks c.1 ∧ lvV kvs c.2.2 - lvV kvs c.2.1 ≤ inW ks c.1) → ∀ b ∈ (liveE arcs).take (i + 1), b.1 ≠ e.1 → lvV kvs b.2.1 - lvV kvs b.2.2 ≤ inW ks b.1 ∧ lvV kvs b.2.2 - lvV kvs b.2.1 ≤ inW ks b.1 := fun h b hb => by
      rw [et] at hb
      rcases (List.mem_append.mp hb) with hb | hb
      · exact al b hb
      · rw [List.mem_singleton.mp hb]; exact h
    refine ⟨_, rfl, _, rfl, rfl, _, rfl, ?_⟩
    have en : (!decide (V.str c.1 = V.str e.1)) = decide (c.1 ≠ e.1) := by
      by_cases q : c.1 = e.1
      · rw [decide_eq_true (by rw [q]), decide_eq_false (fun h => h q)]; rfl
      · rw [decide_eq_false (fun h => q (V.str.inj h)), decide_eq_true q]; rfl
    rw [en]
    by_cases ne : c.1 = e.1
    · rw [decide_eq_false (fun h => h ne)]
      exact iteF (iteF ⟨⟨_, _, rfl⟩, k8, go fun h => absurd ne h⟩)
    rw [decide_eq_true ne]
    refine iteT ⟨_, rfl, _, rfl, _, rfl, kn, _, rfl, seqOr (ka.o.same (k03.trans k8)), rfl, flat_strs ks, ?_⟩
    rw [inV_strs]
    refine .inr ⟨_, rfl, ?_⟩
    have ei : (if (if false = true then !decide (c.1 ∈ ks) else decide (c.1 ∈ ks)) = true then (1 : Int) else 0) = inW ks c.1 := by
      unfold inW
      by_cases q : c.1 ∈ ks
      · rw [decide_eq_true q, if_pos q]; rfl
      · rw [decide_eq_false q, if_neg q]; rfl
    rw [ei]
    refine ⟨_, _, rfl, rfl, _, rfl, ?_⟩
    by_cases far : inW ks c.1 < (if lvV kvs c.2.1 - lvV kvs c.2.2 < 0 then -(lvV kvs c.2.1 - lvV kvs c.2.2) else lvV kvs c.2.1 - lvV kvs c.2.2)
    · rw [decide_eq_true far]
      refine iteT (hq H8 false ⟨fun z => (by cases z), fun ⟨_, e2, z⟩ => ?_⟩ (k03.trans k8))
      obtain rfl := Option.some.inj e2
      have := z.2.2.le c ca (List.mem_filter.mp hc).2 ne
      split at far <;> omega
    · rw [decide_eq_false far]
      refine iteF ⟨⟨_, _, rfl⟩, k8, go fun _ => ?_⟩
      split at far <;> omega
  · rintro σ H8 ⟨⟨s6, s7, rfl⟩, k8, al⟩
    have ll : ((liveL arcs).map V.str).length = (liveE arcs).length := by rw [List.length_map, ← liveE_names, List.length_map]
    rw [ll, List.take_length] at al
    obtain ⟨es1, t1, oD1, ev1, _, ot1⟩ := arc_atF (AtF.kp at3 fun b o a z => ⟨a, k8 _ _ z⟩) he
    have dD : DGet H8 D (.str e.1) (some (.ref t1)) := .inl ⟨es1, Sum.inr e.1, .inr oD1, rfl, ev1.symm⟩
    refine ⟨_, rfl, _, rfl, _, rfl, D, _, rfl, dD, .inr (.inl ⟨t1, _, _, _, rfl, rfl, SqT.of ot1, rfl, d, _, rfl, dg k8 (nodesL_end he).2, rfl, ?_⟩)⟩
    refine hq H8 _ ?_ (k03.trans k8)
    rw [decide_eq_true_iff]
    exact ⟨fun h => ⟨kvs, rfl, ju, ai, V.int.inj h, fun c hc lc ne => al c (List.mem_filter.mpr ⟨hc, lc⟩) ne⟩, fun ⟨_, e2, z⟩ => by
      obtain rfl := Option.some.inj e2
      rw [z.2.2.at0]⟩
end
end L2.TB
/-! the law: whether a thing is a hiding -/
namespace L2.TB
open PySem PySem.Spec PyProof.Rows LamX
theorem cut_toA (xs : List V) (r : Int) (h0 : 0 ≤ r) : cutV xs none (some r) = xs.take r.toNat := by
  by_cases h : r < xs.length + 1
  · exact cut_toN xs r h0 h
  · have e2 : HT.sIx xs.length xs.length (some r) = xs.length := by
      unfold HT.sIx
      simp only []
      rw [if_neg (show ¬ r < 0 by omega)]; omega
    unfold cutV
    rw [show HT.sIx xs.length 0 none = 0 from rfl, e2]
    rw [List.drop_zero, Nat.sub_zero, List.take_of_length_le (by omega), List.take_of_length_le (by omega)]
abbrev rSl2 (K : PySem.W.Frag) : V → Option Int → Option Int → Hp → VK → Prop := fun x lo hi H Q => rSlL K x lo hi H Q ∨ rSlT K x lo hi H Q
theorem ix_two0 {K : PySem.W.Frag} {H : Hp} {a : Addr} {v0 v1 : V} {Q : V → Hp → Prop} (h : SqA K H a [v0, v1]) (q : Q v0 H) : rIx K (.ref a) (.int 0) H Q := by
  rcases h with h | h
  · exact .inl ⟨a, _, _, _, rfl, rfl, SqL.of h, rfl, q⟩
  · exact .inr (.inl ⟨a, _, _, _, rfl, rfl, SqT.of h, rfl, q⟩)
theorem ix_two1 {K : PySem.W.Frag} {H : Hp} {a : Addr} {v0 v1 : V} {Q : V → Hp → Prop} (h : SqA K H a [v0, v1]) (q : Q v1 H) : rIx K (.ref a) (.int 1) H Q := by
  rcases h with h | h
  · exact .inl ⟨a, _, _, _, rfl, rfl, SqL.of h, rfl, q⟩
  · exact .inr (.inl ⟨a, _, _, _, rfl, rfl, SqT.of h, rfl, q⟩)
theorem sq_len {K : PySem.W.Frag} {H : Hp} {a : Addr} {xs : List V} (h : SqA K H a xs) : LenV K (.ref a) H xs.length := by
  rcases h with h | h
  · exact .inl ⟨_, SqL.of h, rfl⟩
  · exact .inr ⟨_, SqT.of h, rfl⟩
theorem sq_two {K : PySem.W.Frag} {H : Hp} {a : Addr} {xs : List V} (h : SqA K H a xs) : ∃ ty : String, TyX K H (.ref a) (.type ty) ∧ PySem.W.kitAny K (.type ty) [.type "list", .type "tuple"] = some true := h.elim (fun h => ⟨_, .base (.lst h), kit_two_l⟩) fun h => ⟨_, .base (.tup h), kit_two_t⟩
def spIsHidL (K : PySem.W.Frag) : Sp := fun vs H Q _ => ∃ (D lv kn : Addr) (arcs : NtT) (A : Addr → Prop) (ks : List Str) (e : Str × ArT) (th : V) (o : HdT), vs = [.ref D, .ref lv, .ref kn, .str e.1, th] ∧ AtF A H D arcs ∧ NtOk arcs ∧ H lv = some (.lst ((liveL arcs).map V.str)) ∧ KnA K H kn arcs ks ∧ H kn = some (.lst (ks.map V.str)) ∧ e ∈ arcs ∧ HdTh K H th o ∧
  ∀ H' b, (b = true ↔ HdgP arcs ks e o) → Same H H' → Q (.bl b) H'
abbrev NLh : List Str := ["arcs", "live", "known", "asked", "x", "taken", "y", "at", "name"]
theorem scLh : FnScope NLh ["arcs", "live", "known", "asked", "x"] (defScope sIsHidL) := ⟨rfl, rfl, rfl, by decide +kernel, rfl, by decide +kernel, by decide +kernel⟩
section
variable {P : Program} {w : World} {K : PySem.W.Frag} {mg : Str → Option Value} {base : Heap} {f fO fV : Addr} {fd fdO fdV : FuncData}
theorem ok_isHidL (F : Fun K "_law_c_is_hiding" "_law_c_is_hiding" sIsHidL f fd) (FO : Fun K "_law_c_is_open" "_law_c_is_open" sIsOpen fO fdO) (gO : mg "_law_c_is_open" = some (.ref fO)) (GO : FnOk P w K mg base CX0 3 fO fdO ["arcs", "live", "known", "asked"] (spIsOpenL K))
    (FV : Fun K "_law_c_are_levels" "_law_c_are_levels" sAreLevL fV fdV) (gV : mg "_law_c_are_levels" = some (.ref fV)) (GV : FnOk P w K mg base CX0 2 fV fdV ["arcs", "live", "known", "asked", "x"] (spAreLvL K)) (M : Sm mg) (nS : mg "str" = none) (nY : mg "any" = none) (nE : mg "enumerate" = none) : FnOk P w K mg base CX0 4 f fd ["arcs", "live", "known", "asked", "x"] (spIsHidL K) := by
  have bO := FO.binds (ps := ["arcs", "live", "known", "asked"]) fun _ _ _ _ _ _ us hl => match us, hl with | [_, _, _, _], _ => rfl
  have bV := FV.binds (ps := ["arcs", "live", "known", "asked", "x"]) fun _ _ _ _ _ _ us hl => match us, hl with | [_, _, _, _, _], _ => rfl
  refine F.ok scLh (fun vs H Q E h => by obtain ⟨D, lv, kn, arcs, A, ks, e0, th, o, e, _⟩ := h; rw [e]; rfl) fun cdv A outer s H vs Q E hr hsp => ?_
  obtain ⟨D, lv, kn, arcs, A0, ks, e, th, o, rfl, at_, nok, olv, ka, okn, he, ht, hq⟩ := hsp
  have nd := scLh.nd
  have hu := hu_of (hr.mono (show 1 ≤ 3 by decide))
  refine ⟨_, pss_cons (ps_if (PW.pt (pw_or (pt_cmpR op_notIn_seq (pv 3) (pv 1) rfl) (pw_or1 (pt_val (pe_call GO hr rfl gO FO.kp bO .nil pass0 (pa_cons (pv 0) (pa_cons (pv 1) (pa_cons (pv 2) (pa_cons (pv 3) pa_nil))))))))) (pss_one (ps_ret pe_bl)) pss_nil)
    (pss_cons (ps_if (PW.pt (pw_or (pt_not (pt_val (pe_callB (r := rIsiT K) call_isiT rfl M.nI boot_isi (pa_cons (pv 4) (pa_cons (pe_tup (pa_cons (pe_bltn (v := .ty "list") rfl M.nL boot_list' rfl) (pa_cons (pe_bltn (v := .ty "tuple") rfl M.nT boot_tuple' rfl) pa_nil))) pa_nil)))))
        (pw_or (pt_cmpR op_ne (pe_callB call_len rfl M.nN boot_len (pa_cons (pv 4) pa_nil)) pe_int (nomark _))
          (pw_or1 (pt_not (pt_val (pe_callB (r := rIsiT K) call_isiT rfl M.nI boot_isi (pa_cons (pe_ix (r := rIx K) ix_seq (pv 4) pe_int (fun _ _ => rfl)) (pa_cons (pe_tup (pa_cons (pe_bltn (v := .ty "list") rfl M.nL boot_list' rfl) (pa_cons (pe_bltn (v := .ty "tuple") rfl M.nT boot_tuple' rfl) pa_nil))) pa_nil))))))))) (pss_one (ps_ret pe_bl)) pss_nil)
    (pss_cons (ps_set (i := 5) nd rfl (Or.inr rfl) (pe_ix (r := rIx K) ix_seq (pv 4) pe_int (fun _ _ => rfl)))
    (pss_cons (ps_if (pt_not (pt_val (pe_callB (cr_all rfl) rfl M.nA boot_allN (pa_cons (pe_lc (own := [("y", 6)]) (tt := tYes) (g := gName 6) (te := tAndV (tCB (rIsi K) (tCons (tVar 6) (tCons (tC (.ty "str")) tNil))) (tOp (rIn K false) (tVar 6) (tVar 2))) rfl nd (pi_seq (pv 5)) (blkOk_by (N := NLh) (sc := defScope sIsHidL) (by decide +kernel)) (fun _ _ _ _ _ => pg_name (i := 6) nd rfl (Or.inl rfl)) (fun _ _ _ _ _ => pts_nil)
          (fun _ _ _ _ _ => pe_and (pe_callB (r := rIsi K) call_isi rfl M.nI boot_isi (pa_cons (pv 6) (pa_cons (pe_bltn (v := .ty "str") rfl nS boot_str' rfl) pa_nil))) (pe_one (pe_cmpR op_in_seq (pv 6) (pv 2) rfl)))) pa_nil)))) (pss_one (ps_ret pe_bl)) pss_nil)
    (pss_cons (ps_if (pt_val (pe_callB (cr_any rfl) rfl nY boot_anyN (pa_cons (pe_lc (own := [("at", 7), ("y", 6)]) (tt := tYes) (g := gTup K 2 (gCons (gName 7) (gCons (gName 6) gNil))) (te := tOp (rIn K false) (tVar 6) (tSl (rSl2 K) (tVar 5) tNoPart (tPart (tVar 7)))) rfl nd (pi_enumS rfl nE (pa_cons (pv 5) pa_nil)) (blkOk_by (N := NLh) (sc := defScope sIsHidL) (by decide +kernel))
      (fun _ _ _ _ _ => pg_tup rfl (pgs_cons (pg_name (i := 7) nd rfl (Or.inl rfl)) (pgs_cons (pg_name (i := 6) nd rfl (Or.inl rfl)) pgs_nil))) (fun _ _ _ _ _ => pts_nil)
      (fun _ _ _ _ _ => pe_cmpR op_in_seq (pv 6) (pe_slice (r := rSl2 K) (SlR.or sl_list sl_tup) (pv 5) po_none (po_some (pv 7))) rfl)) pa_nil))) (pss_one (ps_ret pe_bl)) pss_nil)
    (pss_cons (ps_if (pt_not (pt_val (pe_call GV (hr.mono (by decide)) rfl gV FV.kp bV .nil pass0 (pa_cons (pv 0) (pa_cons (pv 1) (pa_cons (pv 2) (pa_cons (pv 3) (pa_cons (pe_ix (r := rIx K) ix_seq (pv 4) pe_int (fun _ _ => rfl)) pa_nil)))))))) (pss_one (ps_ret pe_bl)) pss_nil)
    (pss_cons (ps_if (pt_cmpR op_ne (pe_callB call_len rfl M.nN boot_len (pa_cons (pv 5) pa_nil)) (pe_op op_add (pe_dget hu (pe_ix (r := rIx K) ix_seq (pv 4) pe_int (fun _ _ => rfl)) (pe_ix (r := rIx K) ix_seq (pe_dget hu (pv 0) (pv 3) (fun _ _ => rfl)) pe_int (fun _ _ => rfl)) (fun _ _ => rfl)) (pe_callTy call_int1 rfl M.nInt boot_int' (pa_cons (pe_cmpR op_in_seq (pv 3) (pv 2) rfl) pa_nil))) (nomark _)) (pss_one (ps_ret pe_bl)) pss_nil)
    (pss_one (ps_ret (pe_call GO hr rfl gO FO.kp bO .nil pass0 (pa_cons (pv 0) (pa_cons (pv 1) (pa_cons (pe_lc (own := [("name", 8)]) (tt := tTest (tOp (rIn K true) (tVar 8) (tVar 5))) (g := gName 8) (te := tVar 8) rfl nd (pi_list (pv 2)) (blkOk_by (N := NLh) (sc := defScope sIsHidL) (by decide +kernel)) (fun _ _ _ _ _ => pg_name (i := 8) nd rfl (Or.inl rfl)) (fun _ _ _ _ _ => pts_one (pt_cmpR op_notIn_seq (pv 8) (pv 5) rfl)) (fun _ _ _ _ _ => pv 8)) (pa_cons (pv 3) pa_nil))))))))))))), ?_⟩
  have sh := nok.n1
  have lks := ka.len
  have dead : ∀ {H' : Hp}, ¬ HdgP arcs ks e o → Same H H' → Q (.bl false) H' := fun h k => hq _ false ⟨fun z => (by cases z), fun z => absurd z h⟩ k
  refine ⟨_, rfl, _, rfl, lv, _, rfl, .inl (SqL.of olv), rfl, flat_strs _, _, rfl, ?_⟩
  rw [inV_strs]
  by_cases cl : e.1 ∈ liveL arcs
  case neg =>
    rw [decide_eq_false cl]
    exact iteT (iteT (dead (fun z => by
      match o, z with
      | some (some T, some kvs), z => exact cl ((live_in nok.nd he).mpr z.1)) (Same.refl _)))
  rw [decide_eq_true cl]
  refine iteF ⟨_, rfl, _, rfl, _, rfl, _, rfl, D, lv, kn, arcs, A0, ks, e, rfl, at_, nok, olv, ka, he, fun H1 b1 hb1 k1 => ⟨b1, rfl, ?_⟩⟩
  cases b1 with
  | true =>
    exact iteT (dead (fun z => by
      match o, z with
      | some (some T, some kvs), z => exact (hb1.mp rfl) z.2.1) k1)
  | false =>
  have told : Told arcs ks e := Classical.byContradiction fun z => by cases hb1.mpr z
  refine iteF ?_
  refine ⟨_, rfl, (by show 2 ≤ sizeLine; decide), fun t nt => ?_⟩
  have kt := same_new (o := .tup [.ty "list", .ty "tuple"]) nt
  have k2 := k1.trans kt
  have otl : upd H1 t (.tup [.ty "list", .ty "tuple"]) t = some (.tup [.ty "list", .ty "tuple"]) := upd_same
  generalize upd H1 t (.tup [.ty "list", .ty "tuple"]) = H2 at kt k2 otl
  have ht2 := ht.same k2
  cases ht with
  | no h =>
    obtain ⟨ty, a1, a2, a3⟩ := h.same k2
    exact ⟨_, _, _, _, _, false, rfl, otl, .cons (.ty _) (.cons (.ty _) .nil), a1, kit_two_n a2 a3, _, rfl, iteT (iteT (dead (fun z => z) k2))⟩
  | @len a xs h ne shx =>
    obtain ⟨ty, a1, a2⟩ := sq_two (h.same k2)
    refine ⟨_, _, _, _, _, true, rfl, otl, .cons (.ty _) (.cons (.ty _) .nil), a1, a2, _, rfl, iteF ?_⟩
    have ed : (!decide (V.int (xs.length : Nat) = V.int 2)) = true := by
      rw [decide_eq_false (fun z => ne (by have := V.int.inj z; omega))]; rfl
    refine ⟨_, rfl, .ref a, xs.length, rfl, sq_len (h.same k2), rfl, _, rfl, ?_⟩
    rw [ed]
    exact iteT (iteT (dead (fun z => z) k2))
  | @two a v0 v1 o0 o1 h h0 h1 =>
  obtain ⟨ty, a1, a2⟩ := sq_two (h.same k2)
  refine ⟨_, _, _, _, _, true, rfl, otl, .cons (.ty _) (.cons (.ty _) .nil), a1, a2, _, rfl, iteF ?_⟩
  refine ⟨_, rfl, .ref a, 2, rfl, sq_len (h.same k2), rfl, _, rfl, iteF ?_⟩
  refine ⟨_, rfl, ix_two0 (h.same k2) ⟨(by show 2 ≤ sizeLine; decide), fun t3 nt3 => ?_⟩⟩
  have kt3 := same_new (o := .tup [.ty "list", .ty "tuple"]) nt3
  have k3 := k2.trans kt3
  have otl3 : upd H2 t3 (.tup [.ty "list", .ty "tuple"]) t3 = some (.tup [.ty "list", .ty "tuple"]) := upd_same
  generalize upd H2 t3 (.tup [.ty "list", .ty "tuple"]) = H3 at kt3 k3 otl3
  cases h0 with
  | no h0 =>
    obtain ⟨ty, a1, a2, a3⟩ := h0.same k3
    exact ⟨_, _, _, _, _, false, rfl, otl3, .cons (.ty _) (.cons (.ty _) .nil), a1, kit_two_n a2 a3, _, rfl, iteT (dead (fun z => z) k3)⟩
  | @seq b T h0 sh0 =>
  obtain ⟨ty, a1, a2⟩ := sq_two (h0.same k3)
  refine ⟨_, _, _, _, _, true, rfl, otl3, .cons (.ty _) (.cons (.ty _) .nil), a1, a2, _, rfl, iteF ?_⟩
  refine ⟨_, rfl, ix_two0 (h.same k3) ?_⟩
  have hb3 := h0.same k3
  have okn3 := k3 _ _ okn
  refine ⟨_, rfl, lc_boolsA hb3 (T.map fun n => decide (n ∈ ks)) (by rw [List.length_map, List.length_map]) (by rw [List.length_map]; omega) (fun i x b H4 C N ex eb s4 yes => ?_) fun H4 DD nD oD s4 => ?_⟩
  · rw [List.getElem?_map] at ex eb
    obtain ⟨n, en, rfl⟩ := Option.map_eq_some_iff.mp ex
    rw [en] at eb
    obtain rfl := Option.some.inj eb
    refine ⟨rfl, _, rfl, _, _, _, _, true, rfl, .ty _, .base (.str n), kit_ty (by decide +kernel), true, rfl, iteT ⟨_, rfl, _, rfl, kn, _, rfl, .inl (SqL.of (s4 _ _ okn3)), rfl, flat_strs _, ?_⟩⟩
    rw [if_neg Bool.false_ne_true, inV_strs]
    exact yes _ (Same.refl _)
  refine ⟨DD, _, rfl, SqL.of oD, ?_⟩
  have k4 := k3.trans s4
  have ea : (T.map fun n => decide (n ∈ ks)).all id = decide (∀ n ∈ T, n ∈ ks) := by
    rw [List.all_map]
    by_cases c : ∀ n ∈ T, n ∈ ks
    · rw [decide_eq_true c]
      exact List.all_eq_true.mpr fun n hn => decide_eq_true (c n hn)
    · rw [decide_eq_false c]
      refine Bool.eq_false_iff.mpr fun z => c fun n hn => ?_
      exact of_decide_eq_true (List.all_eq_true.mp z n hn)
  rw [ea]
  by_cases sub : ∀ n ∈ T, n ∈ ks
  case neg =>
    rw [decide_eq_false sub]
    exact ⟨_, rfl, iteT (dead (fun z => by
      match o1, z with
      | some kvs, z => exact sub z.2.2.2.1) k4)⟩
  rw [decide_eq_true sub]
  refine ⟨_, rfl, iteF ?_⟩
  have hb4 := hb3.same s4
  refine ⟨_, rfl, lc_boolsE hb4 ((List.range T.length).map fun i => dupAt T i) (by rw [List.length_map, List.length_map, List.length_range]) (by rw [List.length_map, List.length_range]; omega) (fun i x b' H5 T5 C N ex eb s5 oT yes => ?_) fun H5 D5 nD5 oD5 s5 => ?_⟩
  · rw [List.getElem?_map] at ex
    obtain ⟨n, en, rfl⟩ := Option.map_eq_some_iff.mp ex
    have li := (List.getElem?_eq_some_iff.mp en).1
    rw [List.getElem?_map, List.getElem?_range li] at eb
    obtain rfl := Option.some.inj eb
    have h4 := hb4.same s5
    have eb2 := dup_some en
    refine ⟨T5, _, rfl, SqT.of oT, rfl, _, _, rfl, _, _, rfl, rfl, rfl, ?_⟩
    refine ⟨_, rfl, _, rfl, _, rfl, _, rfl, ?_⟩
    have yes2 : ∀ H6, Same H5 H6 → C (.bl (decide (n ∈ T.take i))) H6 := fun H6 s6 => by rw [← eb2]; exact yes H6 s6
    rcases h4 with h4 | h4
    · refine .inl ⟨b, _, rfl, SqL.of h4, fun p np => ?_⟩
      rw [cut_toA _ _ (by omega), show ((i : Nat) : Int).toNat = i from rfl, ← List.map_take]
      refine ⟨p, _, rfl, .inl (SqL.of upd_same), rfl, flat_strs _, ?_⟩
      rw [if_neg Bool.false_ne_true, inV_strs]
      exact yes2 _ (same_new np)
    · refine .inr ⟨b, _, rfl, SqT.of h4, fun z => ?_, fun p np => ?_⟩
      · have z2 := z.2
        unfold HT.sIx at z2
        simp only [List.length_map] at z2
        rw [if_neg (show ¬ ((i : Nat) : Int) < 0 by omega)] at z2
        omega
      · rw [cut_toA _ _ (by omega), show ((i : Nat) : Int).toNat = i from rfl, ← List.map_take]
        refine ⟨p, _, rfl, .inr (SqT.of upd_same), rfl, flat_strs _, ?_⟩
        rw [if_neg Bool.false_ne_true, inV_strs]
        exact yes2 _ (same_new np)
  refine ⟨D5, _, rfl, SqL.of oD5, ?_⟩
  have k5 := k4.trans s5
  have en : (((List.range T.length).map fun i => dupAt T i).any id) = !decide T.Nodup := by
    rw [List.any_map]
    exact not_nodup_take
  rw [en]
  by_cases ndT : T.Nodup
  case neg =>
    rw [decide_eq_false ndT]
    exact ⟨_, rfl, iteT (dead (fun z => by
      match o1, z with
      | some kvs, z => exact ndT z.2.2.1) k5)⟩
  rw [decide_eq_true ndT]
  refine ⟨_, rfl, iteF ?_⟩
  refine ⟨_, rfl, _, rfl, _, rfl, _, rfl, _, rfl, ix_two1 (h.same k5) ⟨D, lv, kn, arcs, A0, ks, e, v1, o1, rfl, AtF.kp at_ (fun b o a z => ⟨a, k5 _ _ z⟩), nok, k5 _ _ olv, ka.same k5, he, h1.same k5, fun H6 b6 hb6 s6 => ⟨b6, rfl, ?_⟩⟩⟩
  have k6 := k5.trans s6
  cases b6 with
  | false =>
    exact iteT (dead (fun z => by
      match o1, z with
      | some kvs, z => cases hb6.mpr ⟨kvs, rfl, z.2.2.2.2.1⟩) k6)
  | true =>
  obtain ⟨kvs, rfl, lvl⟩ := hb6.mp rfl
  refine iteF ?_
  cases h1 with
  | @dict d _ pd =>
  have hT6 := h0.same k6
  have lenT : LenV K (.ref b) H6 T.length := by
    have z := sq_len hT6
    rwa [List.length_map] at z
  have dg : DGet H6 d (.str e.2.1) (some (.int (lvV kvs e.2.1))) := by
    have := DGet.k (k := Sum.inr e.2.1) (pd.same k6).o
    rw [lv_val lvl.1 lvl.2.1 (nodesL_end he).1] at this
    exact this
  obtain ⟨es1, t1, oD1, ev1, _, ot1⟩ := arc_atF (AtF.kp at_ (H' := H6) fun b o a z => ⟨a, k6 _ _ z⟩) he
  have dD : DGet H6 D (.str e.1) (some (.ref t1)) := .inl ⟨es1, Sum.inr e.1, .inr oD1, rfl, ev1.symm⟩
  refine ⟨_, rfl, .ref b, T.length, rfl, lenT, ?_⟩
  refine ⟨_, rfl, ix_two1 (h.same k6) ⟨_, rfl, _, rfl, D, _, rfl, dD, .inr (.inl ⟨t1, _, _, _, rfl, rfl, SqT.of ot1, rfl, _, _, rfl, dg, ?_⟩)⟩⟩
  refine ⟨_, rfl, _, rfl, kn, _, rfl, seqOr (ka.o.same k6), rfl, flat_strs ks, ?_⟩
  rw [inV_strs]
  refine .inr ⟨_, rfl, ?_⟩
  have ei : (if (if false = true then !decide (e.1 ∈ ks) else decide (e.1 ∈ ks)) = true then (1 : Int) else 0) = inW ks e.1 := by
    unfold inW
    by_cases q : e.1 ∈ ks
    · rw [decide_eq_true q, if_pos q]; rfl
    · rw [decide_eq_false q, if_neg q]; rfl
  rw [ei]
  refine ⟨_, _, rfl, rfl, rfl, _, rfl, ?_⟩
  have en : decide (V.int (T.length : Nat) = V.int (lvV kvs e.2.1 + inW ks e.1)) = decide ((T.length : Int) = lvV kvs e.2.1 + inW ks e.1) := decide_eq_decide.mpr ⟨fun h => V.int.inj h, fun h => by rw [h]⟩
  rw [en]
  by_cases len : (T.length : Int) = lvV kvs e.2.1 + inW ks e.1
  case neg =>
    rw [decide_eq_false len]
    exact iteT (dead (fun z => len z.2.2.2.2.2.1) k6)
  rw [decide_eq_true len]
  refine iteF ?_
  refine ⟨_, rfl, _, rfl, _, rfl, kn, rfl, ⟨_, SqL.of (k6 _ _ okn)⟩, ?_⟩
  refine lc_selN (fun n => decide (n ∉ T)) (k6 _ _ okn) (by omega) (fun _ => rfl) (fun _ => rfl) (fun n H9 T9 _ s9 go => ?_) fun H9 q9 n9 o9 s9 => ?_
  · refine ⟨_, rfl, _, rfl, b, _, rfl, seqOr (hT6.same s9), rfl, flat_strs T, _, rfl, ?_⟩
    have z := go H9 (Same.refl _)
    rw [inV_strs]
    have e : (if true = true then !decide (n ∈ T) else decide (n ∈ T)) = decide (n ∉ T) := by
      rw [if_pos rfl]
      by_cases c : n ∈ T
      · rw [decide_eq_true c, decide_eq_false (fun h => h c)]; rfl
      · rw [decide_eq_false c, decide_eq_true c]; rfl
    rw [e]
    exact z
  · have k9 := k6.trans s9
    refine ⟨_, rfl, D, lv, q9, arcs, A0, lessN ks T, e, rfl, AtF.kp at_ (fun b o a z => ⟨a, k9 _ _ z⟩), nok, k9 _ _ olv, ⟨.inl o9, fun n hn => ka.sub n (less_in.mp hn).1, ka.nd.filter _⟩, he, fun H10 b10 hb10 k10 => ?_⟩
    exact hq H10 b10 ⟨fun z => ⟨(live_in nok.nd he).mp cl, told, ndT, sub, lvl, len, hb10.mp z⟩, fun z => hb10.mpr z.2.2.2.2.2.2⟩ (k9.trans k10)
end
end L2.TB
/-! != of two pairs; a list as data -/
namespace L2.TB
open PySem PySem.Spec PyProof.Rows
open PySem.W (EqTree)
section
open SeqAt MeetsSeq MeetsSeq2 MeetsSeq3 SeqRoads2
open AutoSeq1 (wpAny_loadPart')
theorem two_ne {prog : Program} {w : World} (l b : Addr) (x1 x2 y1 y2 : Value) (n n2 : Nat) (dd dd2 : Option Addr) (sl sl2 : Array (Option Value)) (e1 e2 : Bool) :
    MeetsIn prog w (Builtin.«tuple.__ne__» ⟨[.ref l, .ref b], []⟩) (fun A R s => s.heap.get? l = some { cls := .type "tuple", dict := dd, data := .seq #[x1, x2] n, slots := sl } ∧
      s.heap.get? b = some { cls := .type "tuple", dict := dd2, data := .seq #[y1, y2] n2, slots := sl2 } ∧ EqIn prog w A.in1 s x1 y1 e1 ∧ EqIn prog w A.in1 s x2 y2 e2 ∧ R (.ok (.ret (.bool !(e1 && e2)))) s) :=
  .of_wp fun A R s g => by
    obtain ⟨hp, gg, ds, tk, os⟩ := s
    obtain ⟨g1, g2, h1, h2, hR⟩ := g
    have fTT := AutoSeq1.sub_tuple_tuple
    have h1' : ∀ (Z : Value → Shared → Prop) (Y : Bool → Shared → Prop), Y e1 _ → wpAny (model prog w) A.in1 (eqBool x1 y1) Y Z _ := h1
    have h2' : ∀ (Z : Value → Shared → Prop) (Y : Bool → Shared → Prop), Y e2 _ → wpAny (model prog w) A.in1 (eqBool x2 y2) Y Z _ := h2
    wp_walk using wpAny_loadPart' g1, wpAny_loadPart' g2, h1' _ _, h2' _ _
    cases e1 with
    | false =>
      wp_walk
      exact ⟨_, rfl, hR⟩
    | true =>
      wp_walk using h2' _ _
      cases e2 with
      | false =>
        wp_walk
        exact ⟨_, rfl, hR⟩
      | true =>
        wp_walk
        exact ⟨_, rfl, hR⟩
end
/-- a list of data -/
structure Lz (α : Type) where
  l : List α
theorem vals_at {xs : List V} {us : List Value} (r : Vals xs us) : ∀ {j : Nat} (h : j < us.length), ∃ x, xs[j]? = some x ∧ RelV x us[j] := by
  induction r with
  | nil => exact fun h => absurd h (Nat.not_lt_zero _)
  | cons h _ ih =>
    intro j hj
    cases j with
    | zero => exact ⟨_, rfl, h⟩
    | succ j =>
      obtain ⟨x, e, rx⟩ := ih (Nat.lt_of_succ_lt_succ hj)
      exact ⟨x, e, rx⟩
def lzEqv {α : Type} [PyD α] (p q : List α) : Bool := p.length == q.length && (p.zip q).all fun e => PyD.eqv e.1 e.2
theorem zip_self {α : Type} (f : α → α → Bool) : ∀ p q : List α, p.length = q.length → (∀ (i : Nat) a b, p[i]? = some a → q[i]? = some b → f a b = true) → (p.length == q.length && (p.zip q).all fun e => f e.1 e.2) = true := fun p q len h => by
  rw [beq_iff_eq.mpr len, Bool.true_and]
  refine List.all_eq_true.mpr fun e he => ?_
  obtain ⟨i, hi⟩ := List.getElem?_of_mem he
  obtain ⟨h1, h2⟩ := List.getElem?_zip_eq_some.mp hi
  exact h i _ _ h1 h2
instance {α : Type} [PyD α] : PyD (Lz α) where
  at_ A H v p := ∃ a xs, v = .ref a ∧ A a ∧ H a = some (.lst xs) ∧ Paired (PyD.at_ A H) xs p.l
  eqv p q := lzEqv p.l q.l
  depth := PyD.depth α + 1
  same A B H v p q h1 h2 := by
    obtain ⟨a, xs, rfl, _, o, pr⟩ := h1
    obtain ⟨b, ys, e, _, o', pr'⟩ := h2
    obtain rfl := V.ref.inj e
    rw [o] at o'
    obtain rfl := HO.lst.inj (Option.some.inj o')
    refine zip_self _ _ _ ((Paired.length pr).symm.trans (Paired.length pr')) fun i a b ea eb => ?_
    have li : i < xs.length := by rw [Paired.length pr]; exact (List.getElem?_eq_some_iff.mp ea).1
    obtain ⟨y1, f1, g1⟩ := LiI.paired_get pr (List.getElem?_eq_getElem li)
    obtain ⟨y2, f2, g2⟩ := LiI.paired_get pr' (List.getElem?_eq_getElem li)
    rw [ea] at f1
    rw [eb] at f2
    obtain rfl := Option.some.inj f1
    obtain rfl := Option.some.inj f2
    exact PyD.same _ _ _ _ _ _ g1 g2
  tree {X pins σ H s A0 B0} I x y v u p q h1 h2 rx ry := by
    obtain ⟨a, xs, rfl, _, o, pa⟩ := h1
    obtain ⟨b, ys, rfl, _, o', pb⟩ := h2
    cases (show v = Value.ref a from rx)
    cases (show u = Value.ref b from ry)
    by_cases e : a = b
    · subst e
      rw [o] at o'
      obtain rfl := HO.lst.inj (Option.some.inj o')
      have z : lzEqv p.l q.l = true := by
        refine zip_self _ _ _ ((Paired.length pa).symm.trans (Paired.length pb)) fun i a b ea eb => ?_
        have li : i < xs.length := by rw [Paired.length pa]; exact (List.getElem?_eq_some_iff.mp ea).1
        obtain ⟨y1, f1, g1⟩ := LiI.paired_get pa (List.getElem?_eq_getElem li)
        obtain ⟨y2, f2, g2⟩ := LiI.paired_get pb (List.getElem?_eq_getElem li)
        rw [ea] at f1
        rw [eb] at f2
        obtain rfl := Option.some.inj f1
        obtain rfl := Option.some.inj f2
        exact PyD.same _ _ _ _ _ _ g1 g2
      rw [z]
      exact .same
    · obtain ⟨us, r1, p1, _⟩ := I.list (SqL.of (K := X.K) o)
      obtain ⟨ws, r2, p2, _⟩ := I.list (SqL.of (K := X.K) o')
      have l1 : us.length = p.l.length := (r1.length).symm.trans (Paired.length pa)
      have l2 : ws.length = q.l.length := (r2.length).symm.trans (Paired.length pb)
      by_cases len : p.l.length = q.l.length
      · have hs : us.toArray.size = ws.toArray.size := by rw [List.size_toArray, List.size_toArray]; omega
        have t := EqTree.lists (n := PyD.depth α) (e := fun j => match p.l[j]?, q.l[j]? with | some a, some b => PyD.eqv a b | _, _ => false) e p1.isList p2.isList hs (fun j h1 h2 => by
          obtain ⟨x1, ex, rx1⟩ := vals_at r1 (j := j) (by simpa using h1)
          obtain ⟨y1, ey, ry1⟩ := vals_at r2 (j := j) (by simpa using h2)
          obtain ⟨q1, eq1, at1⟩ := LiI.paired_get pa ex
          obtain ⟨q2, eq2, at2⟩ := LiI.paired_get pb ey
          have z := PyD.tree I _ _ _ _ _ _ at1 at2 rx1 ry1
          simp only [eq1, eq2]
          simpa using z)
        have ee : ((List.range us.toArray.size).all fun j => match p.l[j]?, q.l[j]? with | some a, some b => PyD.eqv a b | _, _ => false) = lzEqv p.l q.l := by
          unfold lzEqv
          rw [zip_all (fun a b => PyD.eqv a b) p.l q.l len, List.size_toArray, l1, len]
          simp <;> rfl
        rw [ee] at t
        exact t
      · have z : lzEqv p.l q.l = false := by unfold lzEqv; simp [len]
        rw [z]
        exact .listsLen e p1.isList p2.isList (by simp [l1, l2, len])
  kp h k := by
    obtain ⟨a, xs, e, ha, o, pr⟩ := h
    exact ⟨a, xs, e, (k _ _ ha o).1, (k _ _ ha o).2, Paired.mapP pr fun _ _ h => PyD.kp h k⟩
section
variable {X : Cx} {α β : Type} [PyD α] [PyD β]
/-- != of two pairs -/
def rNe2 (α β : Type) [PyD α] [PyD β] : R2 := fun x y H Q => ∃ (p q : α × β) (A B : Addr → Prop), PyD.at_ A H x p ∧ PyD.at_ B H y q ∧ Q (.bl (!PyD.eqv p q)) H
theorem op_ne2 (hu : X.A.units + (PyD.depth (α × β) + 1) < cLine) : OpR X (compareOp .NotEq) (rNe2 α β) := by
  intro pins s σ H x y v u Q I rx ry h
  obtain ⟨p, q, A, B, ⟨a, x1, x2, rfl, _, oa, a1, a2⟩, ⟨b, y1, y2, rfl, _, ob, b1, b2⟩, hq⟩ := h
  cases (show v = Value.ref a from rx)
  cases (show u = Value.ref b from ry)
  obtain ⟨us, r1, p1, _⟩ := I.tuple (SqT.of (K := X.K) oa)
  obtain ⟨ws, r2, p2, _⟩ := I.tuple (SqT.of (K := X.K) ob)
  obtain ⟨u1, u2, rfl, ru1, ru2⟩ := vals_two r1
  obtain ⟨w1, w2, rfl, rw1, rw2⟩ := vals_two r2
  have t1 := PyD.tree I _ _ _ _ _ _ a1 b1 ru1 rw1
  have t2 := PyD.tree I _ _ _ _ _ _ a2 b2 ru2 rw2
  obtain ⟨⟨cls, dd, data, sl⟩, ho, hc, n, hd⟩ := id p1
  obtain ⟨⟨cls2, dd2, data2, sl2⟩, ho2, hc2, n2, hd2⟩ := id p2
  simp only at hc hd hc2 hd2
  subst hc hd hc2 hd2
  have d1 : max (PyD.depth α) (PyD.depth β) + 1 = PyD.depth (α × β) := rfl
  have m1 := Nat.le_max_left (PyD.depth α) (PyD.depth β)
  have m2 := Nat.le_max_right (PyD.depth α) (PyD.depth β)
  refine wpAny_richCompare_same_room (op := .NotEq) (T := "tuple") ⟨_, ho, rfl⟩ ⟨_, ho2, rfl⟩ PySem.F.slot_tuple_ne (call_meetsIn PySem.F.slot_tuple_ne ⟨_, ho, rfl⟩ PySem.F.entry_tuple_ne (PySem.F.args_tuple_ne_2 _ _)
    (two_ne a b u1 u2 w1 w2 n n2 dd dd2 sl sl2 (PyD.eqv p.1 q.1) (PyD.eqv p.2 q.2)) ⟨ho, ho2, t1.at _ (by show X.A.units + 1 + _ < cLine; omega), t2.at _ (by show X.A.units + 1 + _ < cLine; omega), ?_⟩) (by omega)
  exact ⟨(fun x => nomatch x), .bl _, H, I, rfl, hq⟩
end
end L2.TB
/-! a thing that an expression makes is locked for good (it is walked, and not used again) -/
namespace L2.TB
open PySem PySem.Spec PyProof.Rows
section
variable {X : Cx}
def tLocked (t : TE) : TE := fun σ H Q => t σ H fun x H1 => ∃ d u, H1 d = some u ∧ Mut (some u) ∧ ∀ od, Q x (upd H1 d (.frz od u))
theorem pe_locked {e : Expr} {t : TE} (h : PE X e t) : PE X e (tLocked t) := ⟨fun pins s σ H Q I hw => wpAny_mono (h.run pins s σ H _ I hw) (fun v s1 z => by
  obtain ⟨x, H1, I1, r, d, u, hd, mu, q⟩ := z
  obtain ⟨od, I2⟩ := I1.lock hd mu
  exact ⟨x, _, I2, r, q od⟩) fun _ _ z => z⟩
end
end L2.TB
/-! what holds in all later heaps -/
namespace L2.TB
open PySem PySem.Spec PyProof.Rows LamX
/-- in all later heaps -/
def Rob (l ls : Addr) (H : Hp) (P : Hp → Prop) : Prop := ∀ H', BE l ls H H' → P H'
theorem BE.refl (l ls : Addr) (H : Hp) : BE l ls H H := fun _ _ _ _ e _ => e
theorem Rob.go {l ls : Addr} {H H1 : Hp} {P : Hp → Prop} (h : Rob l ls H P) (b : BE l ls H H1) : Rob l ls H1 P := fun H' b' => h H' (b.trans b')
theorem Rob.now {l ls : Addr} {H : Hp} {P : Hp → Prop} (h : Rob l ls H P) : P H := h H (BE.refl l ls H)
/-- all but the spring -/
def del2 (l ls : Addr) (H : Hp) : Hp := fun b => if b = l ∨ b = ls then none else H b
theorem BE.x {l ls : Addr} {H H' : Hp} (B : BE l ls H H') : ExtN (del2 l ls H) H' := fun b o e no => by
  unfold del2 at e
  by_cases c : b = l ∨ b = ls
  · rw [if_pos c] at e; cases e
  · rw [if_neg c] at e
    exact B b o (fun z => c (.inl z)) (fun z => c (.inr z)) e no
theorem del2_at {l ls : Addr} {H : Hp} {b : Addr} {o : HO} (h : b ≠ l ∧ b ≠ ls) (e : H b = some o) : del2 l ls H b = some o := by
  unfold del2
  rw [if_neg (fun z => z.elim h.1 h.2)]
  exact e
theorem rob_at {l ls : Addr} {H : Hp} {b : Addr} {o : HO} (h : b ≠ l ∧ b ≠ ls) (e : H b = some o) (no : ∀ ps, o ≠ .tbl ps) : Rob l ls H (fun H' => H' b = some o) := fun H' B => B b o h.1 h.2 e no
theorem rob_net {A : Addr → Prop} {l ls C x : Addr} {H : Hp} {arcs : NtT} (h : NetA A H C x arcs) (hA : ∀ c, A c → c ≠ l ∧ c ≠ ls) (hx : x ≠ l ∧ x ≠ ls) : Rob l ls H (fun H' => NetA A H' C x arcs) := fun H' B =>
  NetA.ext (h.keep (H' := del2 l ls H) (fun o e => del2_at hx e) fun b o a e => ⟨a, del2_at (hA b a) e⟩) B.x
theorem rob_arcs {A : Addr → Prop} {l ls D : Addr} {H : Hp} {arcs : NtT} (h : PyD.at_ A H (.ref D) (Dc.mk arcs)) (hA : ∀ c, A c → c ≠ l ∧ c ≠ ls) : Rob l ls H (fun H' => PyD.at_ A H' (.ref D) (Dc.mk arcs)) := fun H' B =>
  arcs_ext (PyD.kp h (H' := del2 l ls H) fun b o a e => ⟨a, del2_at (hA b a) e⟩) B.x
theorem cut_fromN (xs : List V) (r : Nat) (h1 : r ≤ xs.length) : cutV xs (some (r : Nat)) none = xs.drop r := by
  have e1 : HT.sIx xs.length 0 (some ((r : Nat) : Int)) = r := by
    unfold HT.sIx
    simp only []
    rw [if_neg (show ¬ ((r : Nat) : Int) < 0 by omega)]; omega
  unfold cutV
  rw [e1, show HT.sIx xs.length xs.length none = xs.length from rfl]
  exact (List.take_of_length_le (by rw [List.length_drop]; omega))
theorem cut_from1 (xs : List V) (h : 1 ≤ xs.length) : cutV xs (some 1) none = xs.drop 1 := cut_fromN xs 1 h
end L2.TB
--PROF
/-! the law: things that may be hidings -/
namespace L2.TB
open PySem PySem.Spec PyProof.Rows LamX
abbrev rLoP (K : PySem.W.Frag) : List V → Hp → VK → Prop := fun xs H Q => ∃ p ys, xs = [V.ref p] ∧ (SqL K H p ys ∨ SqT K H p ys) ∧ ∀ l, H l = none → Q (.ref l) (upd H l (.lst ys))
theorem cut_fromA (xs : List V) : cutV xs (some 1) none = xs.drop 1 := by
  cases xs with
  | nil => rfl
  | cons a r => exact cut_from1 (a :: r) (Nat.succ_le_succ (Nat.zero_le _))
theorem sqa_be {K : PySem.W.Frag} {l ls : Addr} {H G : Hp} {a : Addr} {xs : List V} (h : SqA K H a xs) (aa : a ≠ l ∧ a ≠ ls) (B : BE l ls H G) : SqA K G a xs := h.elim (fun h => .inl (B _ _ aa.1 aa.2 h (fun _ z => by cases z))) fun h => .inr (B _ _ aa.1 aa.2 h (fun _ z => by cases z))
/-! things in all later heaps -/
def FsG (K : PySem.W.Frag) (l ls : Addr) (H : Hp) (v : V) : Prop := ∃ o, Rob l ls H (fun G => FstT K G v o)
def SnG (K : PySem.W.Frag) (l ls : Addr) (H : Hp) (v : V) : Prop := ∃ o, Rob l ls H (fun G => SndT K G v o)
def HdG (K : PySem.W.Frag) (l ls : Addr) (H : Hp) (v : V) : Prop := ∃ o, Rob l ls H (fun G => HdTh K G v o)
theorem HdG.go {K : PySem.W.Frag} {l ls : Addr} {H H' : Hp} {v : V} (h : HdG K l ls H v) (b : BE l ls H H') : HdG K l ls H' v := let ⟨o, r⟩ := h; ⟨o, r.go b⟩
theorem fsg_strs {K : PySem.W.Frag} {l ls : Addr} {H : Hp} {a : Addr} {S : List Str} (h : SqA K H a (S.map V.str)) (aa : a ≠ l ∧ a ≠ ls) (sh : S.length < 1000) : FsG K l ls H (.ref a) := ⟨some S, fun G B => .seq (sqa_be h aa B) sh⟩
theorem fsg_non {K : PySem.W.Frag} {l ls : Addr} {H : Hp} : FsG K l ls H .non := ⟨none, fun G B => .no ⟨_, .base .non, by decide +kernel, by decide +kernel⟩⟩
theorem sng_non {K : PySem.W.Frag} {l ls : Addr} {H : Hp} : SnG K l ls H .non := ⟨none, fun G B => .no ⟨_, .base .non, by decide +kernel⟩⟩
theorem sng_dict {K : PySem.W.Frag} {l ls : Addr} {H : Hp} {d : Addr} {kvs : List (Key × V)} (o : H d = some (.dK kvs)) (ad : d ≠ l ∧ d ≠ ls) (nd : (kvs.map (·.1)).Nodup) (sh : kvs.length < 1500) (at_ : ∀ kv ∈ kvs, Atom kv.2) : SnG K l ls H (.ref d) :=
  ⟨some kvs, fun G B => .dict ⟨B _ _ ad.1 ad.2 o (fun _ z => by cases z), nd, sh, at_⟩⟩
theorem hdg_two {K : PySem.W.Frag} {l ls : Addr} {H : Hp} {a : Addr} {u v : V} (h : SqA K H a [u, v]) (aa : a ≠ l ∧ a ≠ ls) (h1 : FsG K l ls H u) (h2 : SnG K l ls H v) : HdG K l ls H (.ref a) := by
  obtain ⟨o1, r1⟩ := h1
  obtain ⟨o2, r2⟩ := h2
  exact ⟨some (o1, o2), fun G B => .two (sqa_be h aa B) (r1 G B) (r2 G B)⟩
theorem hdg_len {K : PySem.W.Frag} {l ls : Addr} {H : Hp} {a : Addr} {xs : List V} (h : SqA K H a xs) (aa : a ≠ l ∧ a ≠ ls) (n : xs.length ≠ 2) (sh : xs.length < 1000) : HdG K l ls H (.ref a) := ⟨none, fun G B => .len (sqa_be h aa B) n sh⟩
theorem hdg_atom {K : PySem.W.Frag} {l ls : Addr} {H : Hp} {v : V} (a : Atom v) : HdG K l ls H v := by
  refine ⟨none, fun G B => .no ?_⟩
  cases a with
  | str x => exact ⟨_, .base (.str x), by decide +kernel, by decide +kernel⟩
  | int i => exact ⟨_, .base (.int i), by decide +kernel, by decide +kernel⟩
  | bl b => exact ⟨_, .base (.bl b), by decide +kernel, by decide +kernel⟩
  | non => exact ⟨_, .base .non, by decide +kernel, by decide +kernel⟩
theorem levD_keys (lev : Str → Int) (ns : List Str) : (levD lev ns).map (·.1) = ns.map Sum.inr := by
  unfold levD
  rw [List.map_map]
  rfl
theorem levD_len (lev : Str → Int) (ns : List Str) : (levD lev ns).length = ns.length := List.length_map _
theorem levD_atom (lev : Str → Int) (ns : List Str) : ∀ kv ∈ levD lev ns, Atom kv.2 := fun kv h => by
  obtain ⟨n, _, rfl⟩ := (List.mem_map.mp h)
  exact .int _
theorem levD_val {lev : Str → Int} {ns : List Str} (nd : ns.Nodup) {n : Str} (h : n ∈ ns) : valV (levD lev ns) (Sum.inr n) = some (.int (lev n)) := by
  obtain ⟨i, hi⟩ := List.getElem?_of_mem h
  refine valV_atN (i := i) (by rw [levD_keys]; exact nd_inr nd) ?_
  unfold levD
  rw [List.getElem?_map, hi]
  rfl
theorem paired_map2 {α β γ : Type} {R : β → γ → Prop} {f : α → β} {g : α → γ} : ∀ l : List α, (∀ a ∈ l, R (f a) (g a)) → Paired R (l.map f) (l.map g)
  | [], _ => .nil
  | a :: l, h => .cons (h a (List.mem_cons_self ..)) (paired_map2 l fun b hb => h b (List.mem_cons_of_mem _ hb))
/-- what hiding tells, as data -/
def hidV (T : List Str) (lev : Str → Int) (ns : List Str) : Lz Str × Dc Int := (⟨T⟩, ⟨ns.map fun n => (n, lev n)⟩)
theorem hidV_at {H : Hp} {p a b : Addr} {T ns : List Str} {lev : Str → Int} (nd : ns.Nodup) (o : H p = some (.tup [.ref a, .ref b])) (oa : H a = some (.lst (T.map V.str))) (ob : H b = some (.dK (levD lev ns))) : PyD.at_ (fun _ => True) H (.ref p) (hidV T lev ns) := by
  refine ⟨p, _, _, rfl, trivial, o, ⟨a, _, rfl, trivial, oa, ?_⟩, b, _, rfl, trivial, ob, ?_, ?_⟩
  · have z := paired_map2 (R := fun v (x : Str) => v = V.str x) (f := V.str) (g := id) T fun x _ => rfl
    rw [List.map_id] at z
    exact z
  · show ((ns.map fun n => (n, lev n)).map (·.1)).Nodup
    rw [List.map_map]
    have e : ns.map ((·.1) ∘ fun n => (n, lev n)) = ns := List.map_id'' (fun _ => rfl) ns
    rw [e]
    exact nd
  · exact paired_map2 ns fun n _ => ⟨rfl, rfl⟩
theorem hidV_none {T ns : List Str} {lev lev' : Str → Int} (h : ns ≠ []) : PyD.eqv (hidV T lev ns) (hidV [] lev' []) = false := by
  show (lzEqv T [] && dcEqv (ns.map fun n => (n, lev n)) []) = false
  have z : dcEqv (ns.map fun n => (n, lev n)) ([] : List (Str × Int)) = false := by
    unfold dcEqv
    rw [List.length_map]
    cases ns with
    | nil => exact absurd rfl h
    | cons a r => rfl
  rw [z, Bool.and_false]
theorem hidV_self {T ns : List Str} {lev : Str → Int} {H : Hp} {p a b : Addr} (nd : ns.Nodup) (o : H p = some (.tup [.ref a, .ref b])) (oa : H a = some (.lst (T.map V.str))) (ob : H b = some (.dK (levD lev ns))) : PyD.eqv (hidV T lev ns) (hidV T lev ns) = true := PyD.same _ _ H _ _ _ (hidV_at nd o oa ob) (hidV_at nd o oa ob)
theorem fm_if {α β : Type} (p : α → Prop) [DecidablePred p] (g : α → β) : ∀ l : List α, l.filterMap (fun a => if p a then some (g a) else none) = (l.filter fun a => decide (p a)).map g
  | [] => rfl
  | a :: l => by
    have ih := fm_if p g l
    by_cases c : p a <;> simp [List.filterMap_cons, List.filter_cons, c, ih]
theorem put_atoms {kvs : List (Key × V)} {k : Key} {v : V} (h : ∀ kv ∈ kvs, Atom kv.2) (a : Atom v) : ∀ kv ∈ putK kvs k v, Atom kv.2 := fun kv hk => by
  unfold putK at hk
  split at hk
  · obtain ⟨p, hp, rfl⟩ := List.mem_map.mp hk
    show Atom (if p.1 = k then (p.1, v) else p).2
    split
    · exact a
    · exact h p hp
  · rcases (List.mem_append.mp hk) with z | z
    · exact h kv z
    · rw [List.mem_singleton.mp z]; exact a
theorem KyS.knd {kvs : List (Key × V)} {N : List Str} (h : KyS kvs N) : (kvs.map (·.1)).Nodup := by
  rw [h.k]
  exact nd_inr h.nd
/-- what hiding told -/
inductive GvH (l ls : Addr) (H : Hp) (ns : List Str) : V → Prop
  | non : GvH l ls H ns .non
  | op {p a b : Addr} (o : H p = some (.tup [.ref a, .ref b])) (oa : H a = some (.lst [])) (ob : H b = some (.dK [])) (ap : p ≠ l ∧ p ≠ ls) (aa : a ≠ l ∧ a ≠ ls) (ab : b ≠ l ∧ b ≠ ls) : GvH l ls H ns (.ref p)
  | hid {p a b : Addr} {T : List Str} {lev : Str → Int} (o : H p = some (.tup [.ref a, .ref b])) (oa : H a = some (.lst (T.map V.str))) (ob : H b = some (.dK (levD lev ns))) (ap : p ≠ l ∧ p ≠ ls) (aa : a ≠ l ∧ a ≠ ls) (ab : b ≠ l ∧ b ≠ ls) (sh : T.length ≤ 8) : GvH l ls H ns (.ref p)
def spHids (K : PySem.W.Frag) : Sp := fun vs H Q _ => ∃ (l ls D kn : Addr) (gv : V) (arcs : NtT) (A : Addr → Prop) (ks : List Str) (N : Int), vs = [.ref l, .ref D, .ref kn, gv] ∧ Strm H l ls N ∧ N ≤ 600000 ∧ AtF A H D arcs ∧ (∀ c, A c → c ≠ l ∧ c ≠ ls) ∧ NtOk arcs ∧ arcs.length ≤ 8 ∧ H kn = some (.lst (ks.map V.str)) ∧ (kn ≠ l ∧ kn ≠ ls) ∧ ks.length ≤ 8 ∧ GvH l ls H (nodesL arcs) gv ∧
  ∀ H' q ys, H' q = some (.lst ys) → (q ≠ l ∧ q ≠ ls) → ys.length < 100 → (∀ v ∈ ys, HdG K l ls H' v) → Strm H' l ls (N + 2000) → But l ls H H' → Q (.ref q) H'
abbrev NHs : List Str := ["stream", "arcs", "known", "given", "nodes", "node", "found", "taken", "levels", "bent", "more", "wide", "others", "x"]
theorem scHs : FnScope NHs ["stream", "arcs", "known", "given"] (defScope sHidsL) := ⟨rfl, rfl, rfl, by decide +kernel, rfl, by decide +kernel, by decide +kernel⟩
section
variable {P : Program} {w : World} {K : PySem.W.Frag} {mg : Str → Option Value} {base : Heap} {f fN fM fP : Addr} {fd fdN fdM fdP : FuncData}
theorem ok_hids (F : Fun K "_law_c_hidings" "_law_c_hidings" sHidsL f fd) (FN : Fun K "_law_c_nodes" "_law_c_nodes" sNodesL fN fdN) (gN : mg "_law_c_nodes" = some (.ref fN)) (FM : Fun K "_law_mixed" "_law_mixed" sMixed fM fdM) (gM : mg "_law_mixed" = some (.ref fM)) (GM : FnOk P w K mg base CX0 2 fM fdM ["stream", "some"] (spMixed K))
    (FP : Fun K "_law_pick" "_law_pick" sPick fP fdP) (gP : mg "_law_pick" = some (.ref fP)) (GP : FnOk P w K mg base CX0 2 fP fdP ["stream", "some"] (spPick K)) (M : Sm mg) (nD : mg "dict" = none) : FnOk P w K mg base CX0 4 f fd ["stream", "arcs", "known", "given"] (spHids K) := by
  have GN : FnOk P w K mg base CX0 1 fN fdN ["arcs"] spNodesF := ok_nodesF FN M.nInt
  have bN := FN.binds (ps := ["arcs"]) fun _ _ _ _ _ _ us hl => match us, hl with | [_], _ => rfl
  have bM := FM.binds (ps := ["stream", "some"]) fun _ _ _ _ _ _ us hl => match us, hl with | [_, _], _ => rfl
  have bP := FP.binds (ps := ["stream", "some"]) fun _ _ _ _ _ _ us hl => match us, hl with | [_, _], _ => rfl
  refine F.ok scHs (fun vs H Q E h => by obtain ⟨l, ls, D, kn, gv, arcs, A, ks, N, e, _⟩ := h; rw [e]; rfl) fun cdv A outer s H vs Q E hr hsp => ?_
  obtain ⟨l, ls, D, kn, gv, arcs, A0, ks, N, rfl, S, hN, at_, hA, nok, l8, okn, akn, k8, hg, hq⟩ := hsp
  have nd := scHs.nd
  have hr1 := hr.mono (show 1 ≤ 3 by decide)
  have hr2 := hr.mono (show 2 ≤ 3 by decide)
  have hu := hu_of hr1
  refine ⟨_, pss_cons (ps_set (i := 4) nd rfl (Or.inl rfl) (pe_call GN hr1 rfl gN FN.kp bN .nil pass0 (pa_cons (pv 1) pa_nil)))
    (pss_cons (ps_set (i := 6) nd rfl (Or.inl rfl) (pe_lst (pa_cons pe_non (pa_cons pe_int (pa_cons (pe_lst pa_nil) (pa_cons (pe_tup (pa_cons (pe_lst pa_nil) (pa_cons pe_dnewK pa_nil))) (pa_cons (pe_tup (pa_cons (pe_lst pa_nil) (pa_cons (pe_callTy (r := rDk K) (call_dk rfl) rfl nD boot_dict' (pa_cons (pe_lc (own := [("node", 5)]) (tt := tYes) (g := gName 5) (te := tTup (tCons (tVar 5) (tCons (tC (.int 0)) tNil))) rfl nd (pi_list (pv 4)) (blkOk_by (N := NHs) (sc := defScope sHidsL) (by decide +kernel)) (fun _ _ _ _ _ => pg_name (i := 5) nd rfl (Or.inl rfl)) (fun _ _ _ _ _ => pts_nil) (fun _ _ _ _ _ => pe_tup (pa_cons (pv 5) (pa_cons pe_int pa_nil)))) pa_nil)) pa_nil))) (pa_cons (pe_tup (pa_cons (pv 2) (pa_cons pe_dnewK pa_nil))) (pa_cons pe_str (pa_cons (pe_tup (pa_cons pe_non (pa_cons pe_non pa_nil))) pa_nil))))))))))
    (pss_cons (ps_if (PW.pt (pw_and (pt_cmp (pc_notN (pv 3))) (pw_and1 (pt_cmpR (op_ne2 (α := Lz Str) (β := Dc Int) (Nat.lt_of_le_of_lt (Nat.add_le_add_left (show PyD.depth (Lz Str × Dc Int) + 1 ≤ 8 by decide) _) (hu_out hr1))) (pv 3) (pe_tup (pa_cons (pe_lst pa_nil) (pa_cons pe_dnewK pa_nil))) (nomark _)))))
      (pss_cons (ps_asg (pv 3) (pg_tup (n := 2) rfl (pgs_cons (pg_name (i := 7) nd rfl (Or.inl rfl)) (pgs_cons (pg_name (i := 8) nd rfl (Or.inr rfl)) pgs_nil))))
      (pss_cons (ps_asg (pe_tup (pa_cons (pe_call GP hr2 rfl gP FP.kp bP .nil pass0 (pa_cons (pv 0) (pa_cons (pv 4) pa_nil))) (pa_cons (pe_callTy call_dictD rfl nD boot_dict' (pa_cons (pv 8) pa_nil)) pa_nil))) (pg_tup (n := 2) rfl (pgs_cons (pg_name (i := 5) nd rfl (Or.inr rfl)) (pgs_cons (pg_name (i := 9) nd rfl (Or.inl rfl)) pgs_nil))))
      (pss_cons (ps_dput hu (pv 9) (pv 5) (pe_call GP hr2 rfl gP FP.kp bP .nil pass0 (pa_cons (pv 0) (pa_cons (pe_lst (pa_cons (pe_op op_add (pe_dget hu (pv 8) (pv 5) (fun _ _ => rfl)) pe_int) (pa_cons (pe_op op_sub (pe_dget hu (pv 8) (pv 5) (fun _ _ => rfl)) pe_int) (pa_cons pe_non (pa_cons pe_bl pa_nil))))) pa_nil))) rfl)
      (pss_cons (ps_set (i := 10) nd rfl (Or.inl rfl) (pe_slice (r := rSlL K) sl_list (pe_call GM hr2 rfl gM FM.kp bM .nil pass0 (pa_cons (pv 0) (pa_cons (pv 2) pa_nil))) po_none (po_some (pe_callB call_len rfl M.nN boot_len (pa_cons (pv 7) pa_nil)))))
      (pss_cons (ps_set (i := 6) nd rfl (Or.inl rfl) (pe_op op_cat (pv 6) (pe_lst (pa_cons (pv 3) (pa_cons (pe_callTy (r := rLoP K) call_list_of rfl M.nL boot_list' (pa_cons (pv 3) pa_nil)) (pa_cons (pe_tup (pa_cons (pe_revL (pv 7)) (pa_cons (pv 8) pa_nil))) (pa_cons (pe_tup (pa_cons (pe_slice (r := rSlL K) sl_list (pv 7) (po_some pe_int) po_none) (pa_cons (pv 8) pa_nil))) (pa_cons (pe_tup (pa_cons (pv 7) (pa_cons (pv 9) pa_nil))) (pa_cons (pe_tup (pa_cons (pv 10) (pa_cons (pv 8) pa_nil))) pa_nil)))))))))
      (pss_cons (ps_set (i := 6) nd rfl (Or.inl rfl) (pe_op op_cat (pv 6) (pe_lst (pa_cons (pe_tup (pa_cons (pe_op op_cat (pv 7) (pe_slice (r := rSlL K) sl_list (pv 7) po_none (po_some pe_int))) (pa_cons (pv 8) pa_nil))) (pa_cons (pe_tup (pa_cons (pv 2) (pa_cons (pv 8) pa_nil))) pa_nil)))))
      (pss_cons (ps_expr (pe_bm PySem.F.plainAttrs_list PySem.F.slot_list_append PySem.F.type_list_append mt_append (pv 6) (pa_cons (pe_tup (pa_cons (pv 7) (pa_cons (pe_callTy (r := rDk K) (call_dk rfl) rfl nD boot_dict' (pa_cons (pe_lock (pe_lc (own := [("x", 13)]) (tt := tYes) (g := gName 13) (te := tTup (tCons (tVar 13) (tCons (tOp (rI0 fun i j => .int (i + j)) (tDGet (tVar 8) (tVar 13)) (tC (.int 1))) tNil))) rfl nd (pi_keys (pv 8)) (blkOk_by (N := NHs) (sc := defScope sHidsL) (by decide +kernel)) (fun _ _ _ _ _ => pg_name (i := 13) nd rfl (Or.inl rfl)) (fun _ _ _ _ _ => pts_nil) (fun _ _ _ _ _ => pe_tup (pa_cons (pv 13) (pa_cons (pe_op op_add (pe_dget hu (pv 8) (pv 13) (fun _ _ => rfl)) pe_int) pa_nil))))) pa_nil)) pa_nil))) pa_nil)))
      (pss_cons (ps_expr (pe_bm PySem.F.plainAttrs_list PySem.F.slot_list_append PySem.F.type_list_append mt_append (pv 6) (pa_cons (pe_tup (pa_cons (pe_callTy call_tuple_of rfl M.nT boot_tuple' (pa_cons (pv 7) pa_nil)) (pa_cons (pe_callTy (r := rDk K) (call_dk rfl) rfl nD boot_dict' (pa_cons (pe_lock (pe_lc (own := [("x", 13)]) (tt := tTest (tOp rNe (tVar 13) (tVar 5))) (g := gName 13) (te := tTup (tCons (tVar 13) (tCons (tDGet (tVar 8) (tVar 13)) tNil))) rfl nd (pi_keys (pv 8)) (blkOk_by (N := NHs) (sc := defScope sHidsL) (by decide +kernel)) (fun _ _ _ _ _ => pg_name (i := 13) nd rfl (Or.inl rfl)) (fun _ _ _ _ _ => pts_one (pt_cmpR op_ne (pv 13) (pv 5) (nomark _))) (fun _ _ _ _ _ => pe_tup (pa_cons (pv 13) (pa_cons (pe_dget hu (pv 8) (pv 13) (fun _ _ => rfl)) pa_nil))))) pa_nil)) pa_nil))) pa_nil)))
      (pss_cons (ps_par (i := 11) (j := 12) rfl nd rfl rfl (by decide) rfl rfl (pa_cons (pe_callTy call_dictD rfl nD boot_dict' (pa_cons (pv 8) pa_nil)) (pa_cons (pe_lc (own := [("x", 13)]) (tt := tTest (tOp (rIn K true) (tVar 13) (tVar 2))) (g := gName 13) (te := tVar 13) rfl nd (pi_keys (pv 1)) (blkOk_by (N := NHs) (sc := defScope sHidsL) (by decide +kernel)) (fun _ _ _ _ _ => pg_name (i := 13) nd rfl (Or.inl rfl)) (fun _ _ _ _ _ => pts_one (pt_cmpR op_notIn_seq (pv 13) (pv 2) rfl)) (fun _ _ _ _ _ => pv 13)) pa_nil)) (by rfl))
      (pss_cons (ps_dput hu (pv 11) pe_str pe_int rfl)
      (pss_one (ps_set (i := 6) nd rfl (Or.inl rfl) (pe_op op_cat (pv 6) (pe_lst (pa_cons (pe_tup (pa_cons (pv 7) (pa_cons (pv 11) pa_nil))) (pa_cons (pe_tup (pa_cons (pe_op op_cat (pe_slice (r := rSlL K) sl_list (pv 7) (po_some pe_int) po_none) (pe_slice (r := rSlL K) sl_list (pv 12) po_none (po_some pe_int))) (pa_cons (pv 8) pa_nil))) pa_nil)))))))))))))))) pss_nil)
    (pss_one (ps_ret (pv 6))))), ?_⟩
  have sh := nok.n1
  have lN := nodesL_len nok
  have ndN : (nodesL arcs).Nodup := nodesF_nd arcs [] (by simp)
  have lns : ((nodesL arcs).map V.str).length = (nodesL arcs).length := List.length_map _
  have ln16 : (nodesL arcs).length ≤ 16 := by
    have := nodesF_len arcs []
    unfold nodesL
    simp only [List.length_nil] at *
    omega
  have ne0 : ∃ a r, nodesL arcs = a :: r := by
    cases h : nodesL arcs with
    | nil =>
      obtain ⟨e, he⟩ : ∃ e, e ∈ arcs := ⟨_, List.getElem_mem nok.n0⟩
      have z := (nodesL_end he).1
      rw [h] at z
      cases z
    | cons a r => exact ⟨a, r, rfl⟩
  refine ⟨_, rfl, D, arcs, A0, rfl, at_, by omega, fun H1 nq nnq onq k1 => ?_⟩
  have anq := S.apart (Same.refl _) nnq
  have S1 := S.same k1
  have k : Same H1 H1 := Same.refl _
  have onq1 := onq
  refine ⟨Nat.zero_le _, fun p1 np1 => ?_⟩
  have kk := same_new (o := .lst []) np1
  have ap1 := S1.apart k np1
  have op1 : upd H1 p1 (.lst []) p1 = some (.lst []) := upd_same
  have k := k.trans kk
  have onq := kk _ _ onq
  generalize upd H1 p1 (.lst []) = G1 at k onq op1
  clear kk
  refine ⟨Nat.zero_le _, fun p2 np2 => ?_⟩
  have kk := same_new (o := .lst []) np2
  have ap2 := S1.apart k np2
  have op2 : upd G1 p2 (.lst []) p2 = some (.lst []) := upd_same
  have k := k.trans kk
  have onq := kk _ _ onq
  have op1 := kk _ _ op1
  generalize upd G1 p2 (.lst []) = G2 at k onq op1 op2
  clear kk
  refine fun p3 np3 => ?_
  have kk := same_new (o := .dK []) np3
  have ap3 := S1.apart k np3
  have op3 : upd G2 p3 (.dK []) p3 = some (.dK []) := upd_same
  have k := k.trans kk
  have onq := kk _ _ onq
  have op1 := kk _ _ op1
  have op2 := kk _ _ op2
  generalize upd G2 p3 (.dK []) = G3 at k onq op1 op2 op3
  clear kk
  refine ⟨(by show 2 ≤ sizeLine; decide), fun p4 np4 => ?_⟩
  have kk := same_new (o := .tup [.ref p2, .ref p3]) np4
  have ap4 := S1.apart k np4
  have op4 : upd G3 p4 (.tup [.ref p2, .ref p3]) p4 = some (.tup [.ref p2, .ref p3]) := upd_same
  have k := k.trans kk
  have onq := kk _ _ onq
  have op1 := kk _ _ op1
  have op2 := kk _ _ op2
  have op3 := kk _ _ op3
  generalize upd G3 p4 (.tup [.ref p2, .ref p3]) = G4 at k onq op1 op2 op3 op4
  clear kk
  refine ⟨Nat.zero_le _, fun p5 np5 => ?_⟩
  have kk := same_new (o := .lst []) np5
  have ap5 := S1.apart k np5
  have op5 : upd G4 p5 (.lst []) p5 = some (.lst []) := upd_same
  have k := k.trans kk
  have onq := kk _ _ onq
  have op1 := kk _ _ op1
  have op2 := kk _ _ op2
  have op3 := kk _ _ op3
  have op4 := kk _ _ op4
  generalize upd G4 p5 (.lst []) = G5 at k onq op1 op2 op3 op4 op5
  clear kk
  refine ⟨_, rfl, nq, rfl, ⟨_, SqL.of onq⟩, ?_⟩
  refine opt_lcN (nodesL arcs) (fun n => some (Sum.inr n, .int 0)) (by omega) (fun i H' s lt => ⟨_, _, SqL.of (s _ _ onq), List.getElem?_eq_getElem (by omega)⟩) (fun H' s => ⟨_, SqL.of (s _ _ onq), by omega⟩) (fun i v n J1 J2 C N en s1 yl yes no => ?_) fun J B ps nB oB pp sJ => ?_
  · obtain ⟨rfl, ev⟩ := yl
    have ev := ev _ (SqL.of (s1 _ _ onq))
    rw [List.getElem?_map, en] at ev
    obtain rfl := Option.some.inj ev
    exact ⟨rfl, _, rfl, (by show 2 ≤ sizeLine; decide), fun t nt => yes _ _ rfl t _ upd_same (same_new nt)⟩
  have ez : (nodesL arcs).filterMap (fun n => some ((Sum.inr n : Key), V.int 0)) = levD (fun _ => 0) (nodesL arcs) := by
    unfold levD
    rw [List.filterMap_eq_map']
  rw [ez] at pp
  have k := k.trans sJ
  have onq := sJ _ _ onq
  have op1 := sJ _ _ op1
  have op2 := sJ _ _ op2
  have op3 := sJ _ _ op3
  have op4 := sJ _ _ op4
  have op5 := sJ _ _ op5
  have mz : mergeK [] (levD (fun _ => 0) (nodesL arcs)) = levD (fun _ => 0) (nodesL arcs) := merge_nd (by rw [levD_keys]; exact nd_inr ndN)
  refine ⟨B, ps, _, rfl, SqL.of oB, Paired.mapP pp fun t kv h => SqT.of h, fun p6 np6 => ?_⟩
  rw [mz]
  have kk := same_new (o := .dK (levD (fun _ => 0) (nodesL arcs))) np6
  have ap6 := S1.apart k np6
  have op6 : upd J p6 (.dK (levD (fun _ => 0) (nodesL arcs))) p6 = some (.dK (levD (fun _ => 0) (nodesL arcs))) := upd_same
  have k := k.trans kk
  have onq := kk _ _ onq
  have op1 := kk _ _ op1
  have op2 := kk _ _ op2
  have op3 := kk _ _ op3
  have op4 := kk _ _ op4
  have op5 := kk _ _ op5
  generalize upd J p6 (.dK (levD (fun _ => 0) (nodesL arcs))) = G6 at k onq op1 op2 op3 op4 op5 op6
  clear kk
  refine ⟨(by show 2 ≤ sizeLine; decide), fun p7 np7 => ?_⟩
  have kk := same_new (o := .tup [.ref p5, .ref p6]) np7
  have ap7 := S1.apart k np7
  have op7 : upd G6 p7 (.tup [.ref p5, .ref p6]) p7 = some (.tup [.ref p5, .ref p6]) := upd_same
  have k := k.trans kk
  have onq := kk _ _ onq
  have op1 := kk _ _ op1
  have op2 := kk _ _ op2
  have op3 := kk _ _ op3
  have op4 := kk _ _ op4
  have op5 := kk _ _ op5
  have op6 := kk _ _ op6
  generalize upd G6 p7 (.tup [.ref p5, .ref p6]) = G7 at k onq op1 op2 op3 op4 op5 op6 op7
  clear kk
  refine ⟨_, rfl, fun p8 np8 => ?_⟩
  have kk := same_new (o := .dK []) np8
  have ap8 := S1.apart k np8
  have op8 : upd G7 p8 (.dK []) p8 = some (.dK []) := upd_same
  have k := k.trans kk
  have onq := kk _ _ onq
  have op1 := kk _ _ op1
  have op2 := kk _ _ op2
  have op3 := kk _ _ op3
  have op4 := kk _ _ op4
  have op5 := kk _ _ op5
  have op6 := kk _ _ op6
  have op7 := kk _ _ op7
  generalize upd G7 p8 (.dK []) = G8 at k onq op1 op2 op3 op4 op5 op6 op7 op8
  clear kk
  refine ⟨(by show 2 ≤ sizeLine; decide), fun p9 np9 => ?_⟩
  have kk := same_new (o := .tup [.ref kn, .ref p8]) np9
  have ap9 := S1.apart k np9
  have op9 : upd G8 p9 (.tup [.ref kn, .ref p8]) p9 = some (.tup [.ref kn, .ref p8]) := upd_same
  have k := k.trans kk
  have onq := kk _ _ onq
  have op1 := kk _ _ op1
  have op2 := kk _ _ op2
  have op3 := kk _ _ op3
  have op4 := kk _ _ op4
  have op5 := kk _ _ op5
  have op6 := kk _ _ op6
  have op7 := kk _ _ op7
  have op8 := kk _ _ op8
  generalize upd G8 p9 (.tup [.ref kn, .ref p8]) = G9 at k onq op1 op2 op3 op4 op5 op6 op7 op8 op9
  clear kk
  refine ⟨(by show 2 ≤ sizeLine; decide), fun p10 np10 => ?_⟩
  have kk := same_new (o := .tup [.non, .non]) np10
  have ap10 := S1.apart k np10
  have op10 : upd G9 p10 (.tup [.non, .non]) p10 = some (.tup [.non, .non]) := upd_same
  have k := k.trans kk
  have onq := kk _ _ onq
  have op1 := kk _ _ op1
  have op2 := kk _ _ op2
  have op3 := kk _ _ op3
  have op4 := kk _ _ op4
  have op5 := kk _ _ op5
  have op6 := kk _ _ op6
  have op7 := kk _ _ op7
  have op8 := kk _ _ op8
  have op9 := kk _ _ op9
  generalize upd G9 p10 (.tup [.non, .non]) = G10 at k onq op1 op2 op3 op4 op5 op6 op7 op8 op9 op10
  clear kk
  refine ⟨(by show 8 ≤ sizeLine; decide), fun f1 nf1 => ?_⟩
  have kk := same_new (o := .lst [V.non, .int 5, .ref p1, .ref p4, .ref p7, .ref p9, .str "ab", .ref p10]) nf1
  have af1 := S1.apart k nf1
  have of1 : upd G10 f1 (.lst [V.non, .int 5, .ref p1, .ref p4, .ref p7, .ref p9, .str "ab", .ref p10]) f1 = some (.lst [V.non, .int 5, .ref p1, .ref p4, .ref p7, .ref p9, .str "ab", .ref p10]) := upd_same
  have k := k.trans kk
  have onq := kk _ _ onq
  have op1 := kk _ _ op1
  have op2 := kk _ _ op2
  have op3 := kk _ _ op3
  have op4 := kk _ _ op4
  have op5 := kk _ _ op5
  have op6 := kk _ _ op6
  have op7 := kk _ _ op7
  have op8 := kk _ _ op8
  have op9 := kk _ _ op9
  have op10 := kk _ _ op10
  generalize upd G10 f1 (.lst [V.non, .int 5, .ref p1, .ref p4, .ref p7, .ref p9, .str "ab", .ref p10]) = G11 at k onq op1 op2 op3 op4 op5 op6 op7 op8 op9 op10 of1
  clear kk
  have S2 := S1.same k
  have B02 : But l ls H G11 := (But.of k1).trans (.of k)
  have okn2 := B02 _ _ akn.1 akn.2 okn
  have fs0 : ∀ {a : Addr}, G11 a = some (.lst []) → (a ≠ l ∧ a ≠ ls) → FsG K l ls G11 (.ref a) := fun h aa => fsg_strs (S := []) (.inl h) aa (by show 0 < 1000; decide)
  have sn0 : ∀ {a : Addr}, G11 a = some (.dK []) → (a ≠ l ∧ a ≠ ls) → SnG K l ls G11 (.ref a) := fun h aa => sng_dict h aa (by simp) (by show 0 < 1500; decide) fun kv h => by cases h
  have FK : FsG K l ls G11 (.ref kn) := fsg_strs (.inl okn2) akn (by omega)
  have thA : ∀ v ∈ [V.non, .int 5, .ref p1, .ref p4, .ref p7, .ref p9, .str "ab", .ref p10], HdG K l ls G11 v := fun v h => by
    simp only [List.mem_cons, List.not_mem_nil, or_false] at h
    rcases h with rfl | rfl | rfl | rfl | rfl | rfl | rfl | rfl
    · exact hdg_atom .non
    · exact hdg_atom (.int _)
    · exact hdg_len (.inl op1) ap1 (by show 0 ≠ 2; decide) (by show 0 < 1000; decide)
    · exact hdg_two (.inr op4) ap4 (fs0 op2 ap2) (sn0 op3 ap3)
    · exact hdg_two (.inr op7) ap7 (fs0 op5 ap5) (sng_dict op6 ap6 (by rw [levD_keys]; exact nd_inr ndN) (by rw [levD_len]; omega) (levD_atom _ _))
    · exact hdg_two (.inr op9) ap9 FK (sn0 op8 ap8)
    · exact hdg_atom (.str _)
    · exact hdg_two (.inr op10) ap10 fsg_non sng_non
  obtain ⟨V1, eV⟩ : ∃ V1, V1 = [V.non, .int 5, .ref p1, .ref p4, .ref p7, .ref p9, .str "ab", .ref p10] := ⟨_, rfl⟩
  rw [← eV] at of1 thA
  have lV : V1.length = 8 := by rw [eV]; rfl
  clear eV op1 op2 op3 op4 op5 op6 op7 op8 op9 op10 fs0 sn0
  have of2 := of1
  cases hg with
  | non => exact ⟨_, rfl, _, rfl, iteF (iteF ⟨_, rfl, hq _ f1 V1 of1 af1 (by omega) thA (S2.mono (by omega)) B02⟩)⟩
  | @op pg ag bg og oag obg apg aag abg =>
    refine ⟨_, rfl, _, rfl, iteT ⟨_, rfl, Nat.zero_le _, fun q1 nq1 => fun q2 nq2 => ⟨(by show 2 ≤ sizeLine; decide), fun q3 nq3 => ?_⟩⟩⟩
    have j1 := same_new (o := .lst []) nq1
    have j2 := same_new (o := .dK []) nq2
    have j3 := same_new (o := .tup [.ref q1, .ref q2]) nq3
    have jj := (j1.trans j2).trans j3
    have at1 := hidV_at (T := []) (ns := []) (lev := fun _ => 0) (by simp) (jj _ _ (B02 _ _ apg.1 apg.2 og)) (jj _ _ (B02 _ _ aag.1 aag.2 oag)) (jj _ _ (B02 _ _ abg.1 abg.2 obg))
    have at2 := hidV_at (T := []) (ns := []) (lev := fun _ => 0) (by simp) (show upd _ q3 (.tup [.ref q1, .ref q2]) q3 = some _ from upd_same) (j3 _ _ (j2 _ _ upd_same)) (j3 _ _ upd_same)
    have ev : PyD.eqv (hidV [] (fun _ => 0) []) (hidV [] (fun _ => 0) []) = true := PyD.same _ _ _ _ _ _ at2 at2
    refine ⟨_, _, _, _, at1, at2, _, rfl, ?_⟩
    rw [ev]
    exact iteF ⟨_, rfl, hq _ f1 V1 (jj _ _ of1) af1 (by omega) (fun v hv => (thA v hv).go (BE.of (.of jj))) ((S2.same jj).mono (by omega)) (B02.trans (.of jj))⟩
  | @hid pg ag bg T lev og oag obg apg aag abg lT =>
  refine ⟨_, rfl, _, rfl, iteT ⟨_, rfl, Nat.zero_le _, fun q1 nq1 => fun q2 nq2 => ⟨(by show 2 ≤ sizeLine; decide), fun q3 nq3 => ?_⟩⟩⟩
  have j1 := same_new (o := .lst []) nq1
  have j2 := same_new (o := .dK []) nq2
  have j3 := same_new (o := .tup [.ref q1, .ref q2]) nq3
  have jj := (j1.trans j2).trans j3
  have at1 := hidV_at (T := T) (lev := lev) ndN (jj _ _ (B02 _ _ apg.1 apg.2 og)) (jj _ _ (B02 _ _ aag.1 aag.2 oag)) (jj _ _ (B02 _ _ abg.1 abg.2 obg))
  have at2 := hidV_at (T := []) (ns := []) (lev := fun _ => 0) (by simp) (show upd _ q3 (.tup [.ref q1, .ref q2]) q3 = some _ from upd_same) (j3 _ _ (j2 _ _ upd_same)) (j3 _ _ upd_same)
  obtain ⟨n0, rn0, en0⟩ := ne0
  refine ⟨_, _, _, _, at1, at2, _, rfl, ?_⟩
  rw [hidV_none (by rw [en0]; simp)]
  refine iteT ?_
  have thA := fun v hv => (thA v hv).go (BE.of (.of jj))
  have S3 := S2.same jj
  have B03 := B02.trans (.of jj)
  have onq3 := jj _ _ onq
  have of3 := jj _ _ of1
  generalize upd (upd (upd G11 q1 (.lst [])) q2 (.dK [])) q3 (.tup [.ref q1, .ref q2]) = K0 at thA S3 B03 onq3 of3 at1 at2 jj ⊢
  clear at1 at2 j1 j2 j3 k
  have og3 := B03 _ _ apg.1 apg.2 og
  have oa3 := B03 _ _ aag.1 aag.2 oag
  have ob3 := B03 _ _ abg.1 abg.2 obg
  refine ⟨_, rfl, pg, _, rfl, SqT.of og3, rfl, _, _, rfl, _, _, rfl, rfl, ?_⟩
  have lT3 : (T.map V.str).length = T.length := List.length_map _
  refine ⟨_, rfl, _, rfl, l, ls, nq, _, _, rfl, S3, by omega, anq.1, anq.2, onq3, by rw [lns, en0]; exact Nat.succ_pos _, by omega, fun K1 v1 hv1 S4 B4 => ?_⟩
  obtain ⟨n1, hn1, rfl⟩ := List.mem_map.mp hv1
  have ob4 := B4 _ _ abg.1 abg.2 ob3
  refine ⟨_, rfl, bg, _, rfl, .inl ob4, fun be nbe => ?_⟩
  have abe := S4.apart (Same.refl _) nbe
  have kb := same_new (o := .dK (levD lev (nodesL arcs))) nbe
  have obe : upd K1 be (.dK (levD lev (nodesL arcs))) be = some (.dK (levD lev (nodesL arcs))) := upd_same
  refine ⟨(by show 2 ≤ sizeLine; decide), fun tb ntb => ?_⟩
  have kt := same_new (o := .tup [.str n1, .ref be]) ntb
  refine ⟨tb, _, rfl, SqT.of upd_same, rfl, _, _, rfl, _, _, rfl, rfl, ?_⟩
  have obe := kt _ _ obe
  have S5 := S4.same (kb.trans kt)
  have B5 : But l ls K0 (upd (upd K1 be (.dK (levD lev (nodesL arcs)))) tb (.tup [.str n1, .ref be])) := B4.trans (.of (kb.trans kt))
  have nbe0 : K0 be = none := B4.free abe nbe
  generalize upd (upd K1 be (.dK (levD lev (nodesL arcs)))) tb (.tup [.str n1, .ref be]) = K2 at obe S5 B5 ⊢
  clear kb kt
  have ob5 := B5 _ _ abg.1 abg.2 ob3
  have dg5 : DGet K2 bg (.str n1) (some (.int (lev n1))) := by
    have := DGet.k (k := Sum.inr n1) ob5
    rw [levD_val ndN hn1] at this
    exact this
  refine ⟨_, rfl, _, rfl, _, rfl, bg, _, rfl, dg5, _, _, rfl, rfl, _, rfl, _, rfl, bg, _, rfl, dg5, _, _, rfl, rfl, (by show 4 ≤ sizeLine; decide), fun q nq4 => ?_⟩
  have aq := S5.apart (Same.refl _) nq4
  have kq := same_new (o := .lst [.int (lev n1 + 1), .int (lev n1 - 1), .non, .bl true]) nq4
  refine ⟨l, ls, q, _, _, rfl, S5.same kq, by omega, aq.1, aq.2, upd_same, by show 0 < 4; decide, by show 4 < 1000; decide, fun K3 u hu4 S6 B6 => ?_⟩
  have au : Atom u := by
    simp only [List.mem_cons, List.not_mem_nil, or_false] at hu4
    rcases hu4 with rfl | rfl | rfl | rfl
    · exact .int _
    · exact .int _
    · exact .non
    · exact .bl _
  have B06 : But l ls K0 K3 := (B5.trans (.of kq)).trans B6
  have obe6 := B6 _ _ abe.1 abe.2 (kq _ _ obe)
  have llv := levD_len lev (nodesL arcs)
  have ky : KyS (levD lev (nodesL arcs)) (nodesL arcs) := ⟨levD_keys _ _, ndN⟩
  have ky2 := ky.put n1 u
  have lput := ky2.len (addN_sub (ns := nodesL arcs) (fun m hm => hm) hn1)
  have aput := put_atoms (k := Sum.inr n1) (levD_atom lev (nodesL arcs)) au
  refine ⟨_, rfl, _, rfl, be, _, rfl, DPut.k (k := Sum.inr n1) obe6 (by rw [llv, sizeLine_eq]; omega), ?_⟩
  have obe7 : upd K3 be (.dK (putK (levD lev (nodesL arcs)) (Sum.inr n1) u)) be = some (.dK (putK (levD lev (nodesL arcs)) (Sum.inr n1) u)) := upd_same
  have B7 : But l ls K0 (upd K3 be (.dK (putK (levD lev (nodesL arcs)) (Sum.inr n1) u))) := fun b o h1 h2 e => by
    rw [upd_ne (ne_of_none e nbe0)]
    exact B06 _ _ h1 h2 e
  have S7 : Strm (upd K3 be (.dK (putK (levD lev (nodesL arcs)) (Sum.inr n1) u))) l ls (N + 1000) := strm_upd (S6.mono (by omega)) abe
  generalize upd K3 be (.dK (putK (levD lev (nodesL arcs)) (Sum.inr n1) u)) = K4 at obe7 B7 S7
  have okn7 := B7 _ _ akn.1 akn.2 (B03 _ _ akn.1 akn.2 okn)
  have lkn : (ks.map V.str).length = ks.length := List.length_map _
  refine ⟨_, rfl, _, rfl, l, ls, kn, _, _, rfl, S7, by omega, SqL.of okn7, by omega, fun K5 mx ys pm nmx omx S8 B8 => ?_⟩
  obtain ⟨zs, hz, ez⟩ := perm_lift pm (f := V.str) rfl
  have oa8 := B8 _ _ aag.1 aag.2 (B7 _ _ aag.1 aag.2 oa3)
  refine ⟨_, rfl, .ref ag, T.length, rfl, .inl ⟨_, SqL.of oa8, lT3.symm⟩, _, rfl, mx, ys, rfl, SqL.of omx, fun mo nmo => ?_⟩
  rw [cut_toA ys _ (by omega), ez, ← List.map_take]
  have amo := S8.apart (Same.refl _) nmo
  have kmo := same_new (o := .lst ((zs.take ((T.length : Int).toNat)).map V.str)) nmo
  have omo : upd K5 mo (.lst ((zs.take ((T.length : Int).toNat)).map V.str)) mo = some (.lst ((zs.take ((T.length : Int).toNat)).map V.str)) := upd_same
  have B9 : But l ls K4 (upd K5 mo (.lst ((zs.take ((T.length : Int).toNat)).map V.str))) := B8.trans (.of kmo)
  have S9 := S8.same kmo
  have lzs : (zs.take ((T.length : Int).toNat)).length < 1000 := by
    have e1 := hz.length_eq
    rw [List.length_take]
    omega
  generalize zs.take ((T.length : Int).toNat) = ZS at omo B9 S9 lzs kmo ⊢
  generalize upd K5 mo (.lst (ZS.map V.str)) = K6 at omo B9 S9 ⊢
  have B09 := B7.trans B9
  have og9 := B09 _ _ apg.1 apg.2 og3
  have oa9 := B09 _ _ aag.1 aag.2 oa3
  have ob9 := B09 _ _ abg.1 abg.2 ob3
  have okn9 := B09 _ _ akn.1 akn.2 (B03 _ _ akn.1 akn.2 okn)
  have obe9 := B9 _ _ abe.1 abe.2 obe7
  have of9 := B09 _ _ af1.1 af1.2 of3
  have k : Same K6 K6 := Same.refl _
  refine ⟨_, rfl, _, rfl, ?_⟩
  refine ⟨_, rfl, pg, _, rfl, .inr (SqT.of og9), fun q1 nq1 => ?_⟩
  have kk := same_new (o := .lst [.ref ag, .ref bg]) nq1
  have aq1 := S9.apart k nq1
  have oq1 : upd K6 q1 (.lst [.ref ag, .ref bg]) q1 = some (.lst [.ref ag, .ref bg]) := upd_same
  have k := k.trans kk
  generalize upd K6 q1 (.lst [.ref ag, .ref bg]) = M1 at k  oq1
  clear kk
  refine ⟨_, rfl, ag, _, rfl, SqL.of (k _ _ oa9), fun q2 nq2 => ?_⟩
  rw [← List.map_reverse]
  have kk := same_new (o := .lst (T.reverse.map V.str)) nq2
  have aq2 := S9.apart k nq2
  have oq2 : upd M1 q2 (.lst (T.reverse.map V.str)) q2 = some (.lst (T.reverse.map V.str)) := upd_same
  have k := k.trans kk
  have oq1 := kk _ _ oq1
  generalize upd M1 q2 (.lst (T.reverse.map V.str)) = M2 at k oq1 oq2
  clear kk
  refine ⟨_, rfl, (by show 2 ≤ sizeLine; decide), fun q3 nq3 => ?_⟩
  have kk := same_new (o := .tup [.ref q2, .ref bg]) nq3
  have aq3 := S9.apart k nq3
  have oq3 : upd M2 q3 (.tup [.ref q2, .ref bg]) q3 = some (.tup [.ref q2, .ref bg]) := upd_same
  have k := k.trans kk
  have oq1 := kk _ _ oq1
  have oq2 := kk _ _ oq2
  generalize upd M2 q3 (.tup [.ref q2, .ref bg]) = M3 at k oq1 oq2 oq3
  clear kk
  refine ⟨_, rfl, _, rfl, ag, _, rfl, SqL.of (k _ _ oa9), fun q4 nq4 => ?_⟩
  rw [cut_fromA, ← List.map_drop]
  have kk := same_new (o := .lst ((T.drop 1).map V.str)) nq4
  have aq4 := S9.apart k nq4
  have oq4 : upd M3 q4 (.lst ((T.drop 1).map V.str)) q4 = some (.lst ((T.drop 1).map V.str)) := upd_same
  have k := k.trans kk
  have oq1 := kk _ _ oq1
  have oq2 := kk _ _ oq2
  have oq3 := kk _ _ oq3
  generalize upd M3 q4 (.lst ((T.drop 1).map V.str)) = M4 at k oq1 oq2 oq3 oq4
  clear kk
  refine ⟨_, rfl, (by show 2 ≤ sizeLine; decide), fun q5 nq5 => ?_⟩
  have kk := same_new (o := .tup [.ref q4, .ref bg]) nq5
  have aq5 := S9.apart k nq5
  have oq5 : upd M4 q5 (.tup [.ref q4, .ref bg]) q5 = some (.tup [.ref q4, .ref bg]) := upd_same
  have k := k.trans kk
  have oq1 := kk _ _ oq1
  have oq2 := kk _ _ oq2
  have oq3 := kk _ _ oq3
  have oq4 := kk _ _ oq4
  generalize upd M4 q5 (.tup [.ref q4, .ref bg]) = M5 at k oq1 oq2 oq3 oq4 oq5
  clear kk
  refine ⟨_, rfl, _, rfl, (by show 2 ≤ sizeLine; decide), fun q6 nq6 => ?_⟩
  have kk := same_new (o := .tup [.ref ag, .ref be]) nq6
  have aq6 := S9.apart k nq6
  have oq6 : upd M5 q6 (.tup [.ref ag, .ref be]) q6 = some (.tup [.ref ag, .ref be]) := upd_same
  have k := k.trans kk
  have oq1 := kk _ _ oq1
  have oq2 := kk _ _ oq2
  have oq3 := kk _ _ oq3
  have oq4 := kk _ _ oq4
  have oq5 := kk _ _ oq5
  generalize upd M5 q6 (.tup [.ref ag, .ref be]) = M6 at k oq1 oq2 oq3 oq4 oq5 oq6
  clear kk
  refine ⟨_, rfl, _, rfl, (by show 2 ≤ sizeLine; decide), fun q7 nq7 => ?_⟩
  have kk := same_new (o := .tup [.ref mo, .ref bg]) nq7
  have aq7 := S9.apart k nq7
  have oq7 : upd M6 q7 (.tup [.ref mo, .ref bg]) q7 = some (.tup [.ref mo, .ref bg]) := upd_same
  have k := k.trans kk
  have oq1 := kk _ _ oq1
  have oq2 := kk _ _ oq2
  have oq3 := kk _ _ oq3
  have oq4 := kk _ _ oq4
  have oq5 := kk _ _ oq5
  have oq6 := kk _ _ oq6
  generalize upd M6 q7 (.tup [.ref mo, .ref bg]) = M7 at k oq1 oq2 oq3 oq4 oq5 oq6 oq7
  clear kk
  refine ⟨(by show 6 ≤ sizeLine; decide), fun q8 nq8 => ?_⟩
  have kk := same_new (o := .lst [V.ref pg, .ref q1, .ref q3, .ref q5, .ref q6, .ref q7]) nq8
  have aq8 := S9.apart k nq8
  have oq8 : upd M7 q8 (.lst [V.ref pg, .ref q1, .ref q3, .ref q5, .ref q6, .ref q7]) q8 = some (.lst [V.ref pg, .ref q1, .ref q3, .ref q5, .ref q6, .ref q7]) := upd_same
  have k := k.trans kk
  have oq1 := kk _ _ oq1
  have oq2 := kk _ _ oq2
  have oq3 := kk _ _ oq3
  have oq4 := kk _ _ oq4
  have oq5 := kk _ _ oq5
  have oq6 := kk _ _ oq6
  have oq7 := kk _ _ oq7
  generalize upd M7 q8 (.lst [V.ref pg, .ref q1, .ref q3, .ref q5, .ref q6, .ref q7]) = M8 at k oq1 oq2 oq3 oq4 oq5 oq6 oq7 oq8
  clear kk
  refine ⟨f1, q8, _, _, rfl, rfl, k _ _ of9, oq8, (by rw [sizeLine_eq, lV]; show 8 + 6 ≤ _; omega), fun f2 nf2 => ?_⟩
  have kk := same_new (o := .lst (V1 ++ [V.ref pg, .ref q1, .ref q3, .ref q5, .ref q6, .ref q7])) nf2
  have af2 := S9.apart k nf2
  have of2 : upd M8 f2 (.lst (V1 ++ [V.ref pg, .ref q1, .ref q3, .ref q5, .ref q6, .ref q7])) f2 = some (.lst (V1 ++ [V.ref pg, .ref q1, .ref q3, .ref q5, .ref q6, .ref q7])) := upd_same
  have k := k.trans kk
  have oq1 := kk _ _ oq1
  have oq2 := kk _ _ oq2
  have oq3 := kk _ _ oq3
  have oq4 := kk _ _ oq4
  have oq5 := kk _ _ oq5
  have oq6 := kk _ _ oq6
  have oq7 := kk _ _ oq7
  have oq8 := kk _ _ oq8
  generalize upd M8 f2 (.lst (V1 ++ [V.ref pg, .ref q1, .ref q3, .ref q5, .ref q6, .ref q7])) = M9 at k oq1 oq2 oq3 oq4 oq5 oq6 oq7 oq8 of2
  clear kk
  have S10 := S9.same k
  have B10 : But l ls K0 M9 := B09.trans (.of k)
  have SL : SnG K l ls M9 (.ref bg) := sng_dict (k _ _ ob9) abg (by rw [levD_keys]; exact nd_inr ndN) (by rw [llv]; omega) (levD_atom _ _)
  have FT : FsG K l ls M9 (.ref ag) := fsg_strs (.inl (k _ _ oa9)) aag (by omega)
  have thB : ∀ v ∈ V1 ++ [V.ref pg, .ref q1, .ref q3, .ref q5, .ref q6, .ref q7], HdG K l ls M9 v := fun v hv => by
    rcases (List.mem_append.mp hv) with h | h
    · exact (thA v h).go (BE.of B10)
    simp only [List.mem_cons, List.not_mem_nil, or_false] at h
    rcases h with rfl | rfl | rfl | rfl | rfl | rfl
    · exact hdg_two (.inr (k _ _ og9)) apg FT SL
    · exact hdg_two (.inl oq1) aq1 FT SL
    · exact hdg_two (.inr oq3) aq3 (fsg_strs (.inl oq2) aq2 (by rw [List.length_reverse]; omega)) SL
    · exact hdg_two (.inr oq5) aq5 (fsg_strs (.inl oq4) aq4 (by rw [List.length_drop]; omega)) SL
    · exact hdg_two (.inr oq6) aq6 FT (sng_dict (k _ _ obe9) abe ky2.knd (by omega) aput)
    · exact hdg_two (.inr oq7) aq7 (fsg_strs (.inl (k _ _ omo)) amo lzs) SL
  obtain ⟨V2, eV2⟩ : ∃ V2, V2 = V1 ++ [V.ref pg, .ref q1, .ref q3, .ref q5, .ref q6, .ref q7] := ⟨_, rfl⟩
  rw [← eV2] at of2 thB
  have lV2 : V2.length = 14 := by rw [eV2, List.length_append, lV]; rfl
  clear eV2 oq1 oq2 oq3 oq4 oq5 oq6 oq7 oq8 thA SL FT
  have oaA := k _ _ oa9
  have obA := k _ _ ob9
  have oknA := k _ _ okn9
  have k0 := k
  have k : Same M9 M9 := Same.refl _
  refine ⟨_, rfl, _, rfl, ?_⟩
  refine ⟨_, rfl, _, rfl, ag, _, rfl, SqL.of oaA, fun r1 nr1 => ?_⟩
  rw [cut_one, ← List.map_take]
  have kk := same_new (o := .lst ((T.take 1).map V.str)) nr1
  have ar1 := S10.apart k nr1
  have or1 : upd M9 r1 (.lst ((T.take 1).map V.str)) r1 = some (.lst ((T.take 1).map V.str)) := upd_same
  have k := k.trans kk
  generalize upd M9 r1 (.lst ((T.take 1).map V.str)) = R1 at k  or1
  clear kk
  refine ⟨ag, r1, _, _, rfl, rfl, k _ _ oaA, or1, (by rw [sizeLine_eq, List.length_map, List.length_map, List.length_take]; omega), fun r2 nr2 => ?_⟩
  rw [← List.map_append]
  have kk := same_new (o := .lst ((T ++ T.take 1).map V.str)) nr2
  have ar2 := S10.apart k nr2
  have or2 : upd R1 r2 (.lst ((T ++ T.take 1).map V.str)) r2 = some (.lst ((T ++ T.take 1).map V.str)) := upd_same
  have k := k.trans kk
  have or1 := kk _ _ or1
  generalize upd R1 r2 (.lst ((T ++ T.take 1).map V.str)) = R2 at k or1 or2
  clear kk
  refine ⟨_, rfl, (by show 2 ≤ sizeLine; decide), fun r3 nr3 => ?_⟩
  have kk := same_new (o := .tup [.ref r2, .ref bg]) nr3
  have ar3 := S10.apart k nr3
  have or3 : upd R2 r3 (.tup [.ref r2, .ref bg]) r3 = some (.tup [.ref r2, .ref bg]) := upd_same
  have k := k.trans kk
  have or1 := kk _ _ or1
  have or2 := kk _ _ or2
  generalize upd R2 r3 (.tup [.ref r2, .ref bg]) = R3 at k or1 or2 or3
  clear kk
  refine ⟨_, rfl, _, rfl, (by show 2 ≤ sizeLine; decide), fun r4 nr4 => ?_⟩
  have kk := same_new (o := .tup [.ref kn, .ref bg]) nr4
  have ar4 := S10.apart k nr4
  have or4 : upd R3 r4 (.tup [.ref kn, .ref bg]) r4 = some (.tup [.ref kn, .ref bg]) := upd_same
  have k := k.trans kk
  have or1 := kk _ _ or1
  have or2 := kk _ _ or2
  have or3 := kk _ _ or3
  generalize upd R3 r4 (.tup [.ref kn, .ref bg]) = R4 at k or1 or2 or3 or4
  clear kk
  refine ⟨(by show 2 ≤ sizeLine; decide), fun r5 nr5 => ?_⟩
  have kk := same_new (o := .lst [V.ref r3, .ref r4]) nr5
  have ar5 := S10.apart k nr5
  have or5 : upd R4 r5 (.lst [V.ref r3, .ref r4]) r5 = some (.lst [V.ref r3, .ref r4]) := upd_same
  have k := k.trans kk
  have or1 := kk _ _ or1
  have or2 := kk _ _ or2
  have or3 := kk _ _ or3
  have or4 := kk _ _ or4
  generalize upd R4 r5 (.lst [V.ref r3, .ref r4]) = R5 at k or1 or2 or3 or4 or5
  clear kk
  have S11 := S10.same k
  have B11 : But l ls K0 R5 := B10.trans (.of k)
  have SL : SnG K l ls R5 (.ref bg) := sng_dict (k _ _ obA) abg (by rw [levD_keys]; exact nd_inr ndN) (by rw [llv]; omega) (levD_atom _ _)
  have thC : ∀ v ∈ V2 ++ [V.ref r3, .ref r4], HdG K l ls R5 v := fun v hv => by
    rcases (List.mem_append.mp hv) with h | h
    · exact (thB v h).go (BE.of (.of k))
    simp only [List.mem_cons, List.not_mem_nil, or_false] at h
    rcases h with rfl | rfl
    · exact hdg_two (.inr or3) ar3 (fsg_strs (.inl or2) ar2 (by rw [List.length_append, List.length_take]; omega)) SL
    · exact hdg_two (.inr or4) ar4 (fsg_strs (.inl (k _ _ oknA)) akn (by omega)) SL
  have oaB := k _ _ oaA
  have obB := k _ _ obA
  have oknB := k _ _ oknA
  refine ⟨f2, r5, _, _, rfl, rfl, k _ _ of2, or5, (by rw [sizeLine_eq, lV2]; show 14 + 2 ≤ _; omega), fun f3 nf3 => ?_⟩
  have af3 := S11.apart (Same.refl _) nf3
  have k5 := same_new (o := .lst (V2 ++ [V.ref r3, .ref r4])) nf3
  have of3 : upd R5 f3 (.lst (V2 ++ [V.ref r3, .ref r4])) f3 = some (.lst (V2 ++ [V.ref r3, .ref r4])) := upd_same
  obtain ⟨V3, eV3⟩ : ∃ V3, V3 = V2 ++ [V.ref r3, .ref r4] := ⟨_, rfl⟩
  rw [← eV3] at of3 thC k5
  rw [← eV3]
  have lV3 : V3.length = 16 := by rw [eV3, List.length_append, lV2]; rfl
  clear eV3 or1 or2 or3 or4 or5 thB SL
  generalize upd R5 f3 (.lst V3) = X0 at of3 k5
  rw [show ((((((((List.set (start NHs [V.ref l, V.ref D, V.ref kn, V.ref pg]) 4 (some (V.ref nq))).set 6 (some (V.ref f1))).set 7 (some (V.ref ag))).set 8 (some (V.ref bg))).set 5 (some (V.str n1))).set 9 (some (V.ref be))).set 10 (some (V.ref mo))).set 6 (some (V.ref f2))) = ([some (V.ref l), some (.ref D), some (.ref kn), some (.ref pg), some (.ref nq), some (.str n1), some (.ref f2), some (.ref ag), some (.ref bg), some (.ref be), some (.ref mo), none, none, none] : L2.St) from rfl]
  refine ⟨_, rfl, .inl ⟨rfl, _, SqL.of of3⟩, _, rfl, ?_⟩
  have obX := k5 _ _ obB
  refine ⟨bg, _, obX, trivial, fun od => ⟨_, rfl, bg, od, rfl, .inl ⟨_, upd_same, ?_⟩⟩⟩
  have oL : upd X0 bg (.frz od (.dK (levD lev (nodesL arcs)))) bg = some (.frz od (.dK (levD lev (nodesL arcs)))) := upd_same
  refine opt_lcN (nodesL arcs) (fun n => some (Sum.inr n, .int (lev n + 1))) (by omega) (fun i H' s lt => ⟨s _ _ oL, by omega⟩) (fun i s => ⟨s _ _ oL, by omega⟩) (fun i v n J1 J2 C N en s1 yl yes no => ?_) fun J B ps nB oB pp sJ => ?_
  · obtain ⟨rfl, k9, v9, ekv, rfl⟩ := yl
    unfold levD at ekv
    rw [List.getElem?_map, en] at ekv
    obtain ⟨rfl, rfl⟩ := Prod.mk.inj (Option.some.inj ekv)
    have dgl : DGet J2 bg (.str n) (some (.int (lev n))) := .inl ⟨_, Sum.inr n, .inr ⟨od, s1 _ _ oL⟩, rfl, (levD_val ndN (List.mem_of_getElem? en)).symm⟩
    exact ⟨rfl, _, rfl, _, rfl, _, rfl, bg, _, rfl, dgl, _, _, rfl, rfl, (by show 2 ≤ sizeLine; decide), fun t nt => yes _ _ rfl t _ upd_same (same_new nt)⟩
  obtain ⟨b1, k6⟩ := lock_offN obX sJ
  have nBX : B ≠ bg := fun z => by rw [z, b1] at oB; cases oB
  have oB6 : upd J bg (.dK (levD lev (nodesL arcs))) B = some (.lst (ps.map V.ref)) := by rw [upd_ne nBX]; exact oB
  have pp6 := Paired.mapP (G := fun t (kv : Key × V) => SqT K (upd J bg (.dK (levD lev (nodesL arcs)))) t [kV kv.1, kv.2]) pp fun t kv h => SqT.of (by rw [upd_ne (fun z => by rw [z, b1] at h; cases h)]; exact h)
  refine ⟨b1, ?_⟩
  generalize upd J bg (.dK (levD lev (nodesL arcs))) = Y at k6 oB6 pp6
  have ez1 : (nodesL arcs).filterMap (fun n => some ((Sum.inr n : Key), V.int (lev n + 1))) = levD (fun n => lev n + 1) (nodesL arcs) := by
    unfold levD
    rw [List.filterMap_eq_map']
  have mz1 : mergeK [] (levD (fun n => lev n + 1) (nodesL arcs)) = levD (fun n => lev n + 1) (nodesL arcs) := merge_nd (by rw [levD_keys]; exact nd_inr ndN)
  refine ⟨B, ps, _, rfl, SqL.of oB6, pp6, fun d1 nd1 => ?_⟩
  rw [ez1, mz1]
  have kd1 := same_new (o := .dK (levD (fun n => lev n + 1) (nodesL arcs))) nd1
  have od1 : upd Y d1 (.dK (levD (fun n => lev n + 1) (nodesL arcs))) d1 = some (.dK (levD (fun n => lev n + 1) (nodesL arcs))) := upd_same
  refine ⟨(by show 2 ≤ sizeLine; decide), fun t1 nt1 => ?_⟩
  have kt1 := same_new (o := .tup [.ref ag, .ref d1]) nt1
  have k7 := (k6.trans kd1).trans kt1
  have of4 := k7 _ _ of3
  have ad1 := (S11.same k5).apart k6 nd1
  have at1 := (S11.same k5).apart (k6.trans kd1) nt1
  refine ⟨f3, _, _, rfl, rfl, of4, by rw [sizeLine_eq, lV3]; omega, ?_⟩
  have k8 := k5.trans k7
  have nd1f : d1 ≠ f3 := fun z => by rw [z, k6 _ _ of3] at nd1; cases nd1
  have nt1f : t1 ≠ f3 := fun z => by rw [z, kd1 _ _ (k6 _ _ of3)] at nt1; cases nt1
  have od1 := kt1 _ _ od1
  have ot1 : upd (upd Y d1 (.dK (levD (fun n => lev n + 1) (nodesL arcs)))) t1 (.tup [.ref ag, .ref d1]) t1 = some (.tup [.ref ag, .ref d1]) := upd_same
  generalize upd (upd Y d1 (.dK (levD (fun n => lev n + 1) (nodesL arcs)))) t1 (.tup [.ref ag, .ref d1]) = Y1 at k8 of4 od1 ot1 ⊢
  have od1 : upd Y1 f3 (.lst (V3 ++ [.ref t1])) d1 = some (.dK (levD (fun n => lev n + 1) (nodesL arcs))) := by rw [upd_ne nd1f]; exact od1
  have ot1 : upd Y1 f3 (.lst (V3 ++ [.ref t1])) t1 = some (.tup [.ref ag, .ref d1]) := by rw [upd_ne nt1f]; exact ot1
  have k5 : Same R5 (upd Y1 f3 (.lst (V3 ++ [.ref t1]))) := fun b o h => by rw [upd_ne (ne_of_none h nf3)]; exact k8 _ _ h
  have of3 : upd Y1 f3 (.lst (V3 ++ [.ref t1])) f3 = some (.lst (V3 ++ [.ref t1])) := upd_same
  generalize upd Y1 f3 (.lst (V3 ++ [.ref t1])) = X1 at k5 of3 od1 ot1 ⊢
  clear b1 oB6 pp6 nBX k6 kd1 kt1 k7 k8 of4 oL obX nd1 nt1 oB pp sJ
  refine ⟨_, rfl, .inl ⟨rfl, _, SqL.of of3⟩, ?_⟩
  refine ⟨_, rfl, ag, _, rfl, .inl ⟨SqL.of (k5 _ _ oaB), fun u1 nu1 => ?_⟩⟩
  have ku := same_new (o := .tup (T.map V.str)) nu1
  have au1 := (S11.same k5).apart (Same.refl _) nu1
  have ou1 : upd X1 u1 (.tup (T.map V.str)) u1 = some (.tup (T.map V.str)) := upd_same
  have k5 := k5.trans ku
  have of3 := ku _ _ of3
  have od1 := ku _ _ od1
  have ot1 := ku _ _ ot1
  generalize upd X1 u1 (.tup (T.map V.str)) = X2 at k5 of3 od1 ot1 ou1 ⊢
  clear ku nu1
  have obX := k5 _ _ obB
  refine ⟨bg, _, obX, trivial, fun od => ⟨_, rfl, bg, od, rfl, .inl ⟨_, upd_same, ?_⟩⟩⟩
  have oL : upd X2 bg (.frz od (.dK (levD lev (nodesL arcs)))) bg = some (.frz od (.dK (levD lev (nodesL arcs)))) := upd_same
  refine opt_lcN (nodesL arcs) (fun n => if n ≠ n1 then some (Sum.inr n, .int (lev n)) else none) (by omega) (fun i H' s lt => ⟨s _ _ oL, by omega⟩) (fun i s => ⟨s _ _ oL, by omega⟩) (fun i v n J1 J2 C N en s1 yl yes no => ?_) fun J B ps nB oB pp sJ => ?_
  · obtain ⟨rfl, k9, v9, ekv, rfl⟩ := yl
    unfold levD at ekv
    rw [List.getElem?_map, en] at ekv
    obtain ⟨rfl, rfl⟩ := Prod.mk.inj (Option.some.inj ekv)
    have dgl : DGet J2 bg (.str n) (some (.int (lev n))) := .inl ⟨_, Sum.inr n, .inr ⟨od, s1 _ _ oL⟩, rfl, (levD_val ndN (List.mem_of_getElem? en)).symm⟩
    refine ⟨rfl, _, rfl, _, rfl, rfl, _, rfl, ?_⟩
    have en2 : (!decide (kV (Sum.inr n) = V.str n1)) = decide (n ≠ n1) := by
      show (!decide (V.str n = V.str n1)) = decide (n ≠ n1)
      by_cases q : n = n1
      · rw [decide_eq_true (by rw [q]), decide_eq_false (fun h => h q)]; rfl
      · rw [decide_eq_false (fun h => q (V.str.inj h)), decide_eq_true q]; rfl
    rw [en2]
    by_cases q : n = n1
    · rw [decide_eq_false (fun h => h q)]
      exact iteF (no (if_neg (fun h => h q)) _ (Same.refl _))
    · rw [decide_eq_true q]
      exact iteT ⟨_, rfl, _, rfl, _, rfl, bg, _, rfl, dgl, (by show 2 ≤ sizeLine; decide), fun t nt => yes _ _ (if_pos q) t _ upd_same (same_new nt)⟩
  obtain ⟨b1, k6⟩ := lock_offN obX sJ
  have nBX : B ≠ bg := fun z => by rw [z, b1] at oB; cases oB
  have oB6 : upd J bg (.dK (levD lev (nodesL arcs))) B = some (.lst (ps.map V.ref)) := by rw [upd_ne nBX]; exact oB
  have pp6 := Paired.mapP (G := fun t (kv : Key × V) => SqT K (upd J bg (.dK (levD lev (nodesL arcs)))) t [kV kv.1, kv.2]) pp fun t kv h => SqT.of (by rw [upd_ne (fun z => by rw [z, b1] at h; cases h)]; exact h)
  refine ⟨b1, ?_⟩
  generalize upd J bg (.dK (levD lev (nodesL arcs))) = Y at k6 oB6 pp6
  have ez2 : (nodesL arcs).filterMap (fun n => if n ≠ n1 then some ((Sum.inr n : Key), V.int (lev n)) else none) = levD lev ((nodesL arcs).filter fun n => decide (n ≠ n1)) := by
    unfold levD
    exact fm_if (fun n => n ≠ n1) (fun n => ((Sum.inr n : Key), V.int (lev n))) (nodesL arcs)
  have ndF : ((nodesL arcs).filter fun n => decide (n ≠ n1)).Nodup := ndN.filter _
  have lF : ((nodesL arcs).filter fun n => decide (n ≠ n1)).length ≤ (nodesL arcs).length := List.length_filter_le _ _
  have mz2 : mergeK [] (levD lev ((nodesL arcs).filter fun n => decide (n ≠ n1))) = levD lev ((nodesL arcs).filter fun n => decide (n ≠ n1)) := merge_nd (by rw [levD_keys]; exact nd_inr ndF)
  refine ⟨B, ps, _, rfl, SqL.of oB6, pp6, fun d2 nd2 => ?_⟩
  rw [ez2, mz2]
  have kd2 := same_new (o := .dK (levD lev ((nodesL arcs).filter fun n => decide (n ≠ n1)))) nd2
  have od2 : upd Y d2 (.dK (levD lev ((nodesL arcs).filter fun n => decide (n ≠ n1)))) d2 = some (.dK (levD lev ((nodesL arcs).filter fun n => decide (n ≠ n1)))) := upd_same
  refine ⟨(by show 2 ≤ sizeLine; decide), fun t2 nt2 => ?_⟩
  have kt2 := same_new (o := .tup [.ref u1, .ref d2]) nt2
  have k7 := (k6.trans kd2).trans kt2
  have of4 := k7 _ _ of3
  have ad2 := (S11.same k5).apart k6 nd2
  have at2 := (S11.same k5).apart (k6.trans kd2) nt2
  refine ⟨f3, _, _, rfl, rfl, of4, by rw [sizeLine_eq, List.length_append, lV3]; show 16 + 1 + 1 ≤ _; omega, ?_⟩
  have k8 := k5.trans k7
  have ne3 : ∀ {b : Addr} {o : HO}, X2 b = some o → (∀ xs, o ≠ .lst xs) → b ≠ f3 := fun h no z => by rw [z, of3] at h; exact no _ (Option.some.inj h).symm
  have nd1f := ne3 od1 (fun _ z => by cases z)
  have nt1f := ne3 ot1 (fun _ z => by cases z)
  have nu1f := ne3 ou1 (fun _ z => by cases z)
  have nd2f : d2 ≠ f3 := fun z => by rw [z, k6 _ _ of3] at nd2; cases nd2
  have nt2f : t2 ≠ f3 := fun z => by rw [z, kd2 _ _ (k6 _ _ of3)] at nt2; cases nt2
  have od1 := k7 _ _ od1
  have ot1 := k7 _ _ ot1
  have ou1 := k7 _ _ ou1
  have od2 := kt2 _ _ od2
  have ot2 : upd (upd Y d2 (.dK (levD lev ((nodesL arcs).filter fun n => decide (n ≠ n1))))) t2 (.tup [.ref u1, .ref d2]) t2 = some (.tup [.ref u1, .ref d2]) := upd_same
  generalize upd (upd Y d2 (.dK (levD lev ((nodesL arcs).filter fun n => decide (n ≠ n1))))) t2 (.tup [.ref u1, .ref d2]) = Y2 at k8 of4 od1 ot1 ou1 od2 ot2 ⊢
  have od1 : upd Y2 f3 (.lst ((V3 ++ [V.ref t1]) ++ [V.ref t2])) d1 = some (.dK (levD (fun n => lev n + 1) (nodesL arcs))) := by rw [upd_ne nd1f]; exact od1
  have ot1 : upd Y2 f3 (.lst ((V3 ++ [V.ref t1]) ++ [V.ref t2])) t1 = some (.tup [.ref ag, .ref d1]) := by rw [upd_ne nt1f]; exact ot1
  have ou1 : upd Y2 f3 (.lst ((V3 ++ [V.ref t1]) ++ [V.ref t2])) u1 = some (.tup (T.map V.str)) := by rw [upd_ne nu1f]; exact ou1
  have od2 : upd Y2 f3 (.lst ((V3 ++ [V.ref t1]) ++ [V.ref t2])) d2 = some (.dK (levD lev ((nodesL arcs).filter fun n => decide (n ≠ n1)))) := by rw [upd_ne nd2f]; exact od2
  have ot2 : upd Y2 f3 (.lst ((V3 ++ [V.ref t1]) ++ [V.ref t2])) t2 = some (.tup [.ref u1, .ref d2]) := by rw [upd_ne nt2f]; exact ot2
  have k5 : Same R5 (upd Y2 f3 (.lst ((V3 ++ [V.ref t1]) ++ [V.ref t2]))) := fun b o h => by rw [upd_ne (ne_of_none h nf3)]; exact k8 _ _ h
  have of3 : upd Y2 f3 (.lst ((V3 ++ [V.ref t1]) ++ [V.ref t2])) f3 = some (.lst ((V3 ++ [V.ref t1]) ++ [V.ref t2])) := upd_same
  generalize upd Y2 f3 (.lst ((V3 ++ [V.ref t1]) ++ [V.ref t2])) = X3 at k5 of3 od1 ot1 ou1 od2 ot2 ⊢
  clear b1 oB6 pp6 nBX k6 kd2 kt2 k7 k8 of4 oL obX nd2 nt2 oB pp sJ
  refine ⟨_, rfl, bg, _, rfl, .inl (k5 _ _ obB), fun wd nwd => ?_⟩
  have nwd1 : d1 ≠ wd := fun z => by rw [z, nwd] at od1; cases od1
  have nwd2 : d2 ≠ wd := fun z => by rw [z, nwd] at od2; cases od2
  have nwt1 : t1 ≠ wd := fun z => by rw [z, nwd] at ot1; cases ot1
  have nwt2 : t2 ≠ wd := fun z => by rw [z, nwd] at ot2; cases ot2
  have nwu1 : u1 ≠ wd := fun z => by rw [z, nwd] at ou1; cases ou1
  have nwf3 : f3 ≠ wd := fun z => by rw [z, nwd] at of3; cases of3
  have kw := same_new (o := .dK (levD lev (nodesL arcs))) nwd
  have awd := (S11.same k5).apart (Same.refl _) nwd
  have owd : upd X3 wd (.dK (levD lev (nodesL arcs))) wd = some (.dK (levD lev (nodesL arcs))) := upd_same
  have nwdR := k5.free nwd
  have k5 := k5.trans kw
  have of3 := kw _ _ of3
  have od1 := kw _ _ od1
  have ot1 := kw _ _ ot1
  have ou1 := kw _ _ ou1
  have od2 := kw _ _ od2
  have ot2 := kw _ _ ot2
  generalize upd X3 wd (.dK (levD lev (nodesL arcs))) = X4 at k5 owd of3 od1 ot1 ou1 od2 ot2 ⊢
  clear kw
  obtain ⟨od, es, aD, oD, rnd, pr⟩ := AtF.kp at_ (A' := A0) (H' := X4) fun b o a e => ⟨a, k5 _ _ ((B11 _ _ (hA b a).1 (hA b a).2 (B03 _ _ (hA b a).1 (hA b a).2 e)))⟩
  have les : es.length = arcs.length := Paired.length pr
  refine ⟨_, rfl, D, od, rfl, .inl ⟨es, oD, ?_⟩⟩
  have oL := oD
  have ndes : (es.map (·.1)).Nodup := by rw [dc_keys pr]; exact nd_inr rnd
  have oknX := k5 _ _ oknB
  refine lc_genON (arcs.map fun e => if (decide (e.1 ∉ ks)) = true then some (V.str e.1) else none) (by rw [List.length_map]; omega) (fun i H' s lt => ⟨s _ _ oL, by rw [List.length_map] at lt; omega⟩) (fun H' s => ⟨s _ _ oL, by rw [List.length_map]; omega⟩) (fun i v o J1 J2 C N eo s1 yl yes no => ?_) fun J B nB oB sJ => ?_
  · obtain ⟨rfl, k9, v9, ekv, rfl⟩ := yl
    obtain ⟨e, ee, hk, _⟩ := paired_get pr ekv
    have hk : k9 = Sum.inr e.1 := hk
    rw [List.getElem?_map, show arcs[i]? = some e from ee] at eo
    have eo := Option.some.inj eo
    rw [hk]
    refine ⟨rfl, _, rfl, _, rfl, kn, _, rfl, .inl (SqL.of (s1 _ _ oknX)), rfl, flat_strs ks, _, rfl, ?_⟩
    have en3 : (if true = true then !inV (kV (Sum.inr e.1)) (ks.map V.str) else inV (kV (Sum.inr e.1)) (ks.map V.str)) = decide (e.1 ∉ ks) := by
      show (if true = true then !inV (V.str e.1) (ks.map V.str) else inV (V.str e.1) (ks.map V.str)) = decide (e.1 ∉ ks)
      rw [if_pos rfl, inV_strs]
      by_cases c : e.1 ∈ ks
      · rw [decide_eq_true c, decide_eq_false (fun h => h c)]; rfl
      · rw [decide_eq_false c, decide_eq_true c]; rfl
    rw [en3]
    by_cases c : e.1 ∉ ks
    · rw [decide_eq_true c]
      exact iteT ⟨_, rfl, yes _ (by rw [← eo]; exact if_pos (decide_eq_true c)) _ (Same.refl _)⟩
    · rw [decide_eq_false c]
      exact iteF (no (by rw [← eo]; exact if_neg (fun z => c (of_decide_eq_true z))) _ (Same.refl _))
  rw [opt_listN (fun e : Str × ArT => decide (e.1 ∉ ks)) (fun e => V.str e.1) arcs] at oB
  have oB6 := oB
  have aB := (S11.same k5).apart (Same.refl _) nB
  refine ⟨_, _, rfl, ?_⟩
  have k5 := k5.trans sJ
  have of3 := sJ _ _ of3
  have od1 := sJ _ _ od1
  have ot1 := sJ _ _ ot1
  have ou1 := sJ _ _ ou1
  have od2 := sJ _ _ od2
  have ot2 := sJ _ _ ot2
  have owd := sJ _ _ owd
  clear oB nB sJ oL oknX
  have kz := ky.put "zz.z" (.int 0)
  have lz : (putK (levD lev (nodesL arcs)) (Sum.inr "zz.z") (.int 0)).length ≤ 17 := by
    have e1 := congrArg List.length kz.k
    have := addN_len (nodesL arcs) "zz.z"
    rw [(List.length_map), List.length_map] at e1
    omega
  have az := put_atoms (k := Sum.inr ("zz.z" : Str)) (levD_atom lev (nodesL arcs)) (Atom.int 0)
  refine ⟨_, rfl, wd, _, rfl, DPut.k (k := Sum.inr "zz.z") owd (by rw [llv, sizeLine_eq]; omega), ?_⟩
  have owz : upd J wd (.dK (putK (levD lev (nodesL arcs)) (Sum.inr "zz.z") (.int 0))) wd = some (.dK (putK (levD lev (nodesL arcs)) (Sum.inr "zz.z") (.int 0))) := upd_same
  have k5 : Same R5 (upd J wd (.dK (putK (levD lev (nodesL arcs)) (Sum.inr "zz.z") (.int 0)))) := fun b o h => by rw [upd_ne (ne_of_none h nwdR)]; exact k5 _ _ h
  have of3 : upd J wd (.dK (putK (levD lev (nodesL arcs)) (Sum.inr "zz.z") (.int 0))) f3 = some (.lst ((V3 ++ [V.ref t1]) ++ [V.ref t2])) := by rw [upd_ne nwf3]; exact of3
  have od1 : upd J wd (.dK (putK (levD lev (nodesL arcs)) (Sum.inr "zz.z") (.int 0))) d1 = some (.dK (levD (fun n => lev n + 1) (nodesL arcs))) := by rw [upd_ne nwd1]; exact od1
  have ot1 : upd J wd (.dK (putK (levD lev (nodesL arcs)) (Sum.inr "zz.z") (.int 0))) t1 = some (.tup [.ref ag, .ref d1]) := by rw [upd_ne nwt1]; exact ot1
  have ou1 : upd J wd (.dK (putK (levD lev (nodesL arcs)) (Sum.inr "zz.z") (.int 0))) u1 = some (.tup (T.map V.str)) := by rw [upd_ne nwu1]; exact ou1
  have od2 : upd J wd (.dK (putK (levD lev (nodesL arcs)) (Sum.inr "zz.z") (.int 0))) d2 = some (.dK (levD lev ((nodesL arcs).filter fun n => decide (n ≠ n1)))) := by rw [upd_ne nwd2]; exact od2
  have ot2 : upd J wd (.dK (putK (levD lev (nodesL arcs)) (Sum.inr "zz.z") (.int 0))) t2 = some (.tup [.ref u1, .ref d2]) := by rw [upd_ne nwt2]; exact ot2
  have oB6 : upd J wd (.dK (putK (levD lev (nodesL arcs)) (Sum.inr "zz.z") (.int 0))) B = some (.lst ((arcs.filter fun e => decide (e.1 ∉ ks)).map fun e => V.str e.1)) := by
    rw [upd_ne (fun z => by rw [z, owd] at oB6; cases oB6)]
    exact oB6
  generalize upd J wd (.dK (putK (levD lev (nodesL arcs)) (Sum.inr "zz.z") (.int 0))) = X6 at k5 owz oB6 of3 od1 ot1 ou1 od2 ot2 ⊢
  clear owd
  have lB : ((arcs.filter fun e => decide (e.1 ∉ ks)).map fun e => V.str e.1) = ((arcs.filter fun e => decide (e.1 ∉ ks)).map (·.1)).map V.str := by rw [List.map_map]; rfl
  rw [lB] at oB6
  obtain ⟨OS, eOS⟩ : ∃ OS, OS = (arcs.filter fun e => decide (e.1 ∉ ks)).map (·.1) := ⟨_, rfl⟩
  rw [← eOS] at oB6
  have SX := S11.same k5
  refine ⟨_, rfl, ?_⟩
  have k : Same X6 X6 := Same.refl _
  refine ⟨_, rfl, _, rfl, (by show 2 ≤ sizeLine; decide), fun z1 nz1 => ?_⟩
  have kk := same_new (o := .tup [.ref ag, .ref wd]) nz1
  have az1 := SX.apart k nz1
  have oz1 : upd X6 z1 (.tup [.ref ag, .ref wd]) z1 = some (.tup [.ref ag, .ref wd]) := upd_same
  have k := k.trans kk
  generalize upd X6 z1 (.tup [.ref ag, .ref wd]) = Z1 at k  oz1
  clear kk
  refine ⟨_, rfl, _, rfl, ag, _, rfl, SqL.of (k _ _ (k5 _ _ oaB)), fun z2 nz2 => ?_⟩
  rw [cut_fromA, ← List.map_drop]
  have kk := same_new (o := .lst ((T.drop 1).map V.str)) nz2
  have az2 := SX.apart k nz2
  have oz2 : upd Z1 z2 (.lst ((T.drop 1).map V.str)) z2 = some (.lst ((T.drop 1).map V.str)) := upd_same
  have k := k.trans kk
  have oz1 := kk _ _ oz1
  generalize upd Z1 z2 (.lst ((T.drop 1).map V.str)) = Z2 at k oz1 oz2
  clear kk
  refine ⟨_, rfl, _, rfl, B, _, rfl, SqL.of (k _ _ oB6), fun z3 nz3 => ?_⟩
  rw [cut_one, ← List.map_take]
  have kk := same_new (o := .lst ((OS.take 1).map V.str)) nz3
  have az3 := SX.apart k nz3
  have oz3 : upd Z2 z3 (.lst ((OS.take 1).map V.str)) z3 = some (.lst ((OS.take 1).map V.str)) := upd_same
  have k := k.trans kk
  have oz1 := kk _ _ oz1
  have oz2 := kk _ _ oz2
  generalize upd Z2 z3 (.lst ((OS.take 1).map V.str)) = Z3 at k oz1 oz2 oz3
  clear kk
  refine ⟨z2, z3, _, _, rfl, rfl, oz2, oz3, (by rw [sizeLine_eq, List.length_map, List.length_map, List.length_take, List.length_drop]; omega), fun z4 nz4 => ?_⟩
  rw [← List.map_append]
  have kk := same_new (o := .lst ((T.drop 1 ++ OS.take 1).map V.str)) nz4
  have az4 := SX.apart k nz4
  have oz4 : upd Z3 z4 (.lst ((T.drop 1 ++ OS.take 1).map V.str)) z4 = some (.lst ((T.drop 1 ++ OS.take 1).map V.str)) := upd_same
  have k := k.trans kk
  have oz1 := kk _ _ oz1
  have oz2 := kk _ _ oz2
  have oz3 := kk _ _ oz3
  generalize upd Z3 z4 (.lst ((T.drop 1 ++ OS.take 1).map V.str)) = Z4 at k oz1 oz2 oz3 oz4
  clear kk
  refine ⟨_, rfl, (by show 2 ≤ sizeLine; decide), fun z5 nz5 => ?_⟩
  have kk := same_new (o := .tup [.ref z4, .ref bg]) nz5
  have az5 := SX.apart k nz5
  have oz5 : upd Z4 z5 (.tup [.ref z4, .ref bg]) z5 = some (.tup [.ref z4, .ref bg]) := upd_same
  have k := k.trans kk
  have oz1 := kk _ _ oz1
  have oz2 := kk _ _ oz2
  have oz3 := kk _ _ oz3
  have oz4 := kk _ _ oz4
  generalize upd Z4 z5 (.tup [.ref z4, .ref bg]) = Z5 at k oz1 oz2 oz3 oz4 oz5
  clear kk
  refine ⟨(by show 2 ≤ sizeLine; decide), fun z6 nz6 => ?_⟩
  have kk := same_new (o := .lst [V.ref z1, .ref z5]) nz6
  have az6 := SX.apart k nz6
  have oz6 : upd Z5 z6 (.lst [V.ref z1, .ref z5]) z6 = some (.lst [V.ref z1, .ref z5]) := upd_same
  have k := k.trans kk
  have oz1 := kk _ _ oz1
  have oz2 := kk _ _ oz2
  have oz3 := kk _ _ oz3
  have oz4 := kk _ _ oz4
  have oz5 := kk _ _ oz5
  generalize upd Z5 z6 (.lst [V.ref z1, .ref z5]) = Z6 at k oz1 oz2 oz3 oz4 oz5 oz6
  clear kk
  have l18 : ((V3 ++ [V.ref t1]) ++ [V.ref t2]).length = 18 := by rw [List.length_append, List.length_append, lV3]; rfl
  refine ⟨f3, z6, _, _, rfl, rfl, k _ _ of3, oz6, (by rw [sizeLine_eq, l18]; show 18 + 2 ≤ _; omega), fun f4 nf4 => ?_⟩
  have kk := same_new (o := .lst (((V3 ++ [V.ref t1]) ++ [V.ref t2]) ++ [V.ref z1, .ref z5])) nf4
  have af4 := SX.apart k nf4
  have of4 : upd Z6 f4 (.lst (((V3 ++ [V.ref t1]) ++ [V.ref t2]) ++ [V.ref z1, .ref z5])) f4 = some (.lst (((V3 ++ [V.ref t1]) ++ [V.ref t2]) ++ [V.ref z1, .ref z5])) := upd_same
  have k := k.trans kk
  have oz1 := kk _ _ oz1
  have oz2 := kk _ _ oz2
  have oz3 := kk _ _ oz3
  have oz4 := kk _ _ oz4
  have oz5 := kk _ _ oz5
  have oz6 := kk _ _ oz6
  generalize upd Z6 f4 (.lst (((V3 ++ [V.ref t1]) ++ [V.ref t2]) ++ [V.ref z1, .ref z5])) = Z7 at k oz1 oz2 oz3 oz4 oz5 oz6 of4
  clear kk
  have kF := k5.trans k
  have SF := S11.same kF
  have BF : But l ls H Z7 := (B03.trans B11).trans (.of kF)
  have SL : SnG K l ls Z7 (.ref bg) := sng_dict (kF _ _ obB) abg (by rw [levD_keys]; exact nd_inr ndN) (by rw [llv]; omega) (levD_atom _ _)
  have FT : FsG K l ls Z7 (.ref ag) := fsg_strs (.inl (kF _ _ oaB)) aag (by omega)
  have lL1 := levD_len (fun n => lev n + 1) (nodesL arcs)
  have lL2 := levD_len lev ((nodesL arcs).filter fun n => decide (n ≠ n1))
  refine ⟨_, rfl, hq Z7 f4 (((V3 ++ [V.ref t1]) ++ [V.ref t2]) ++ [V.ref z1, .ref z5]) of4 af4 (by rw [List.length_append, l18]; show 18 + 2 < 100; omega) (fun v hv => ?_) (SF.mono (by omega)) BF⟩
  rcases (List.mem_append.mp hv) with h | h
  · rcases (List.mem_append.mp h) with h | h
    · rcases (List.mem_append.mp h) with h | h
      · exact (thC v h).go (BE.of (.of kF))
      · rw [List.mem_singleton.mp h]
        exact hdg_two (.inr (k _ _ ot1)) at1 FT (sng_dict (k _ _ od1) ad1 (by rw [levD_keys]; exact nd_inr ndN) (by rw [lL1]; omega) (levD_atom _ _))
    · rw [List.mem_singleton.mp h]
      exact hdg_two (.inr (k _ _ ot2)) at2 (fsg_strs (.inr (k _ _ ou1)) au1 (by omega)) (sng_dict (k _ _ od2) ad2 (by rw [levD_keys]; exact nd_inr ndF) (by rw [lL2]; omega) (levD_atom _ _))
  · simp only [List.mem_cons, List.not_mem_nil, or_false] at h
    rcases h with rfl | rfl
    · exact hdg_two (.inr oz1) az1 FT (sng_dict (k _ _ owz) awd kz.knd (by omega) az)
    · exact hdg_two (.inr oz5) az5 (fsg_strs (.inl oz4) az4 (by rw [List.length_append, List.length_drop, List.length_take]; omega)) SL
end
end L2.TB
/-! dicts of names and numbers; a drawn one -/
namespace L2.TB
open PySem PySem.Spec PyProof.Rows LamX
def kvI (ks : List Str) (x : Str → Int) : List (Key × V) := ks.map fun n => (Sum.inr n, V.int (x n))
theorem kvI_keys (ks : List Str) (x : Str → Int) : (kvI ks x).map (·.1) = ks.map Sum.inr := by
  unfold kvI
  rw [List.map_map]
  rfl
theorem kvI_merge {ks : List Str} {x : Str → Int} (nd : ks.Nodup) : mergeK [] (kvI ks x) = kvI ks x := merge_nd (by rw [kvI_keys]; exact nd_inr nd)
theorem kvI_len (ks : List Str) (x : Str → Int) : (kvI ks x).length = ks.length := List.length_map _
theorem kvI_get {n : Str} {x : Str → Int} : ∀ {ks : List Str}, n ∈ ks → valV (kvI ks x) (Sum.inr n) = some (.int (x n))
  | m :: r, h => by
    show valV ((Sum.inr m, V.int (x m)) :: kvI r x) (Sum.inr n) = _
    by_cases c : m = n
    · subst c
      exact valV_pos rfl
    · rw [valV_neg (fun z => c (Sum.inr.inj z))]
      exact kvI_get ((List.mem_cons.mp h).resolve_left fun z => c z.symm)
theorem kvI_no {n : Str} {ks : List Str} {x : Str → Int} (h : n ∉ ks) : valV (kvI ks x) (Sum.inr n) = none := (val_inS (kvI_keys ks x) n).2 h
theorem kvI_atoms {ks : List Str} {x : Str → Int} : ∀ kv ∈ kvI ks x, Atom kv.2 := fun kv h => by
  obtain ⟨m, _, rfl⟩ := List.mem_map.mp h
  exact .int _
/-- drawn numbers for names -/
def zipI (ks : List Str) (zs : List Int) : List (Key × V) := (ks.zip zs).map fun p => (Sum.inr p.1, V.int p.2)
theorem zipI_kv : ∀ (ks : List Str) (zs : List Int), ks.Nodup → zs.length = ks.length → (∀ z ∈ zs, 0 ≤ z) → ∃ x : Str → Int, zipI ks zs = kvI ks x ∧ ∀ n, 0 ≤ x n
  | [], zs, _, _, _ => ⟨fun _ => 0, rfl, fun _ => Int.le_refl _⟩
  | k :: ks, [], _, h, _ => by cases h
  | k :: ks, z :: zs, nd, h, hz => by
    have nd2 := List.nodup_cons.mp nd
    obtain ⟨x, e, hx⟩ := zipI_kv ks zs nd2.2 (by simpa using h) fun y hy => hz y (List.mem_cons_of_mem _ hy)
    refine ⟨fun n => if n = k then z else x n, ?_, fun n => ?_⟩
    · show (Sum.inr k, V.int z) :: zipI ks zs = (Sum.inr k, V.int (if k = k then z else x k)) :: kvI ks _
      rw [if_pos rfl, e]
      congr 1
      refine List.map_congr_left fun n hn => ?_
      show (Sum.inr n, V.int (x n)) = (Sum.inr n, V.int (if n = k then z else x n))
      rw [if_neg (fun q : n = k => nd2.1 (q ▸ hn))]
    · show 0 ≤ if n = k then z else x n
      split
      · exact hz z List.mem_cons_self
      · exact hx n
theorem lc_drawn {l ls : Addr} {J : It} {g : TG} {tt : TT} {te : TE} {vs : List Nat} {σ : St} {H1 : Hp} {N : Int} {Q : Addr → Hp → Prop} (ks : List Str) (S1 : Strm H1 l ls N) (short : ks.length < 1000) (go : ∀ i H, But l ls H1 H → i < ks.length → J.go i H) (stop : ∀ H, But l ls H1 H → J.stop ks.length H)
    (turn : ∀ (i : Nat) (v : V) (n : Str) (H H' : Hp) (C : V → Hp → Prop) (Nn : Hp → Prop), ks[i]? = some n → But l ls H1 H → Strm H l ls (N + i) → J.yld i H v H' → (∀ t z H4, H t = none → H4 t = some (.tup [.str n, .int z]) → 0 ≤ z → Strm H4 l ls (N + i + 1) → But l ls H H4 → C (.ref t) H4) →
      g v (wipe σ vs) H' fun σ2 H2 => wipe σ2 vs = wipe σ vs ∧ tt σ2 H2 fun b H3 => if b = true then te σ2 H3 C else Nn H3)
    (fin : ∀ H D ps zs, H1 D = none → H D = some (.lst ((ps : List Addr).map V.ref)) → Paired (fun p (kv : Key × V) => H p = some (.tup [kV kv.1, kv.2])) ps (zipI ks zs) → zs.length = ks.length → (∀ z ∈ zs, 0 ≤ z) → Strm H l ls (N + ks.length) → But l ls H1 H → Q D H) : LcW J g tt te vs σ H1 Q := by
  intro D nD
  have aD := S1.apart (Same.refl _) nD
  refine ⟨fun i m H => m = ks.length - i ∧ i ≤ ks.length ∧ (∃ (ps : List Addr) (zs : List Int), H D = some (.lst (ps.map V.ref)) ∧ ps.length = i ∧ zs.length = i ∧ (∀ z ∈ zs, 0 ≤ z) ∧ Paired (fun p (kv : Key × V) => H p = some (.tup [kV kv.1, kv.2]) ∧ p ≠ D ∧ p ≠ l ∧ p ≠ ls) ps (zipI (ks.take i) zs)) ∧ Strm H l ls (N + i) ∧ But l ls H1 H,
    ⟨_, rfl, Nat.zero_le _, ⟨[], [], upd_same, rfl, rfl, (fun z h => by cases h), .nil⟩, by simpa using S1.same (same_new nD), .of (same_new nD)⟩, ?_⟩
  rintro i m H ⟨rfl, le, ⟨ps, zs, oD, lp, lz, nz, pr⟩, Si, Bi⟩
  by_cases lt : i < ks.length
  · refine .inr ⟨go i H Bi lt, fun H' => (∃ (ps : List Addr) (zs : List Int), H' D = some (.lst (ps.map V.ref)) ∧ ps.length = i + 1 ∧ zs.length = i + 1 ∧ (∀ z ∈ zs, 0 ≤ z) ∧ Paired (fun p (kv : Key × V) => H' p = some (.tup [kV kv.1, kv.2]) ∧ p ≠ D ∧ p ≠ l ∧ p ≠ ls) ps (zipI (ks.take (i + 1)) zs)) ∧ Strm H' l ls (N + (i + 1 : Nat)) ∧ But l ls H1 H', fun H' h => ⟨ks.length - (i + 1), by omega, rfl, lt, h⟩, fun x H' yl => ?_⟩
    have ea : ks[i]? = some ks[i] := List.getElem?_eq_getElem lt
    refine turn i x ks[i] H H' _ _ ea Bi Si yl (fun t z H4 nt ot z0 S4 B4 => ?_)
    have oD4 := B4 _ _ aD.1 aD.2 oD
    have tD : t ≠ D := fun q => by rw [q, oD] at nt; cases nt
    have at_ := Si.apart (Same.refl _) nt
    refine ⟨_, oD4, by rw [sizeLine_eq, List.length_map]; omega, ⟨ps ++ [t], zs ++ [z], by rw [upd_same, List.map_append]; rfl, by simp [lp], by simp [lz], fun y hy => ?_, ?_⟩, ?_, fun b u h1 h2 e => ?_⟩
    · rcases List.mem_append.mp hy with hy | hy
      · exact nz y hy
      · rw [List.mem_singleton.mp hy]; exact z0
    · have et : zipI (ks.take (i + 1)) (zs ++ [z]) = zipI (ks.take i) zs ++ [(Sum.inr ks[i], V.int z)] := by
        unfold zipI
        rw [List.take_succ, ea, List.zip_append (by rw [List.length_take, lz]; omega), List.map_append]
        rfl
      rw [et]
      refine paired_join (Paired.mapP pr fun p kv h => ⟨?_, h.2⟩) ⟨by rw [upd_ne tD]; exact ot, tD, at_⟩
      rw [upd_ne h.2.1]
      exact B4 _ _ h.2.2.1 h.2.2.2 h.1
    · have z := strm_upd (o := .lst (ps.map V.ref ++ [.ref t])) S4 aD
      have e : N + (i + 1 : Nat) = N + i + 1 := by omega
      rw [e]
      exact z
    · rw [upd_ne (ne_of_none e nD)]
      exact B4 _ _ h1 h2 (Bi _ _ h1 h2 e)
  · obtain rfl : i = ks.length := by omega
    rw [List.take_length] at pr
    exact .inl ⟨stop H Bi, fin H D ps zs nD oD (Paired.mapP pr fun p kv h => h.1) lz nz Si Bi⟩
end L2.TB
/-! the law: what it calls; its state; its first statements -/
namespace L2.TB
open PySem PySem.Spec PyProof.Rows LamX
structure LawN (P : Program) (w : World) (K : PySem.W.Frag) (mg : Str → Option Value) (base : Heap) (C : Addr) : Prop where
  S : NetC K C
  M : Sm mg
  nR : mg "range" = none
  makeN : ∃ fI fdI, Mk K C fI ∧ mg "Net" = some (.ref C) ∧ Binds K fdI ["self", "arcs"] [] ∧ FnOk P w K mg base CX0 5 fI fdI ["self", "arcs"] (spNInit K C)
  start : ∃ f fd, mg "_law_start" = some (.ref f) ∧ PySem.W.keepIn K (.ref f) = true ∧ Binds K fd ["script"] [] ∧ FnOk P w K mg base CX0 1 f fd ["script"] (spStart K)
  draw : ∃ f fd, mg "_law_draw" = some (.ref f) ∧ PySem.W.keepIn K (.ref f) = true ∧ Binds K fd ["stream", "many"] [] ∧ FnOk P w K mg base CX0 1 f fd ["stream", "many"] spDraw
  mixed : ∃ f fd, mg "_law_mixed" = some (.ref f) ∧ PySem.W.keepIn K (.ref f) = true ∧ Binds K fd ["stream", "some"] [] ∧ FnOk P w K mg base CX0 2 f fd ["stream", "some"] (spMixed K)
  arcsL : ∃ f fd, mg "_law_c_arcs" = some (.ref f) ∧ PySem.W.keepIn K (.ref f) = true ∧ Binds K fd ["stream", "most"] [] ∧ FnOk P w K mg base CX0 5 f fd ["stream", "most"] spArcsL
  liveL_ : ∃ f fd, mg "_law_c_live" = some (.ref f) ∧ PySem.W.keepIn K (.ref f) = true ∧ Binds K fd ["arcs"] [] ∧ FnOk P w K mg base CX0 2 f fd ["arcs"] spLiveL
  hid : ∃ f fd, mg "hiding" = some (.ref f) ∧ PySem.W.keepIn K (.ref f) = true ∧ Binds K fd ["net", "known", "asked"] [] ∧ FnOk P w K mg base CX0 6 f fd ["net", "known", "asked"] (spHid K C)
  isHid : ∃ f fd, mg "is_hiding" = some (.ref f) ∧ PySem.W.keepIn K (.ref f) = true ∧ Binds K fd ["net", "known", "asked", "thing"] [] ∧ FnOk P w K mg base CX0 6 f fd ["net", "known", "asked", "thing"] (spIsHid K C)
  open_ : ∃ f fd, mg "_law_c_is_open" = some (.ref f) ∧ PySem.W.keepIn K (.ref f) = true ∧ Binds K fd ["arcs", "live", "known", "asked"] [] ∧ FnOk P w K mg base CX0 3 f fd ["arcs", "live", "known", "asked"] (spIsOpenL K)
  few : ∃ f fd, mg "_law_c_fewest" = some (.ref f) ∧ PySem.W.keepIn K (.ref f) = true ∧ Binds K fd ["arcs", "live", "known", "asked"] [] ∧ FnOk P w K mg base CX0 4 f fd ["arcs", "live", "known", "asked"] (spFewL K)
  isHidL : ∃ f fd, mg "_law_c_is_hiding" = some (.ref f) ∧ PySem.W.keepIn K (.ref f) = true ∧ Binds K fd ["arcs", "live", "known", "asked", "x"] [] ∧ FnOk P w K mg base CX0 4 f fd ["arcs", "live", "known", "asked", "x"] (spIsHidL K)
  hids : ∃ f fd, mg "_law_c_hidings" = some (.ref f) ∧ PySem.W.keepIn K (.ref f) = true ∧ Binds K fd ["stream", "arcs", "known", "given"] [] ∧ FnOk P w K mg base CX0 4 f fd ["stream", "arcs", "known", "given"] (spHids K)
  same : ∃ f fd, mg "_law_same" = some (.ref f) ∧ PySem.W.keepIn K (.ref f) = true ∧ Binds K fd ["found", "due"] [] ∧ FnOk P w K mg base CX0 3 f fd ["found", "due"] (spSameF 2)
abbrev NLw : List Str := ["script", "stream", "turn", "arcs", "net", "known", "live", "asked", "given", "thing", "due"]
theorem scLaw : FnScope NLw ["script"] (defScope sLaw) := ⟨rfl, rfl, rfl, by decide +kernel, rfl, by decide +kernel, by decide +kernel⟩
def forB : Stmt → List Stmt
  | .For _ _ b _ _ => b
  | _ => []
abbrev bodyT : List Stmt := forB ((defBody sLaw).getD 1 (.Pass ⟨0, 0, 0, 0⟩))
/-- the drawn arcs, the net, the known ones, the live ones -/
structure SA (K : PySem.W.Frag) (C l ls D x kn lv : Addr) (arcs : NtT) (ks : List Str) (N : Int) (H : Hp) : Prop where
  S : Strm H l ls N
  LA : LArcs arcs
  at_ : ∃ A2 : Addr → Prop, (∀ c, A2 c → c ≠ l ∧ c ≠ ls) ∧ PyD.at_ A2 H (.ref D) (Dc.mk arcs)
  nt : ∃ A1 : Addr → Prop, (∀ c, A1 c → (c ≠ l ∧ c ≠ ls) ∧ c ≠ D) ∧ (x ≠ l ∧ x ≠ ls) ∧ x ≠ D ∧ NetA A1 H C x arcs
  olv : H lv = some (.lst ((liveL arcs).map V.str))
  alv : lv ≠ l ∧ lv ≠ ls
  okn : H kn = some (.lst (ks.map V.str))
  akn : kn ≠ l ∧ kn ≠ ls
  nd : ks.Nodup
  sub : ∀ n ∈ ks, n ∈ arcs.map (·.1)
section
variable {P : Program} {w : World} {K : PySem.W.Frag} {mg : Str → Option Value} {base : Heap} {f C : Addr}
theorem turn_a (L : LawN P w K mg base C) {cdv : Value} {A : Around} {outer : List Env} {s : Shared} {H : Hp} {E : XK} (hr : Room 6 (A.deeper (envOfC "law" (defScope sLaw) s.heap.objs.size f cdv))) {rest : List Stmt} {u : TS} (hrest : PSs (cxOf CX0 P w K mg base NLw "law" (defScope sLaw) f cdv A outer s H E).nox rest u) :
    ∃ t, PSs (cxOf CX0 P w K mg base NLw "law" (defScope sLaw) f cdv A outer s H E).nox (bodyT.take 3 ++ rest) t ∧ ∀ (Dn : Ends) (H0 : Hp) (s0 s2 s3 s4 s5 s6 s7 s8 s9 s10 : Option V) (l ls : Addr) (N : Int), Strm H0 l ls N → N ≤ 450000 →
      (∀ H' D x kn lv arcs ks, SA K C l ls D x kn lv arcs ks (N + 300) H' → u Dn [s0, some (.ref l), s2, some (.ref D), some (.ref x), some (.ref kn), some (.ref lv), s7, s8, s9, s10] H') →
      t Dn [s0, some (.ref l), s2, s3, s4, s5, s6, s7, s8, s9, s10] H0 := by
  obtain ⟨fA, fdA, gA, kA, bA, GA⟩ := L.arcsL
  obtain ⟨fV, fdV, gV, kV_, bV_, GV⟩ := L.liveL_
  obtain ⟨fI, fdI, MN, gN, bI, GI⟩ := L.makeN
  obtain ⟨fX, fdX, gX, kX, bX, GX⟩ := L.mixed
  obtain ⟨fD, fdD, gD, kD, bD, GD⟩ := L.draw
  have M := L.M
  have nd := scLaw.nd
  refine ⟨_, pss_cons (ps_set (i := 3) nd rfl (Or.inl rfl) (pe_call GA (hr.mono (by decide)) rfl gA kA bA .nil pass0 (pa_cons (pv 1) (pa_cons pe_int pa_nil))))
    (pss_cons (ps_par (i := 4) (j := 5) rfl nd rfl rfl (by decide) rfl rfl (pa_cons (pe_make MN GI (hr.mono (by decide)) rfl gN bI .nil pass0 (pa_cons (pv 3) pa_nil)) (pa_cons (pe_slice (r := rSlL K) sl_list (pe_call GX (hr.mono (by decide)) rfl gX kX bX .nil pass0 (pa_cons (pv 1) (pa_cons (pe_callTy (call_listD rfl) rfl M.nL boot_list' (pa_cons (pv 3) pa_nil)) pa_nil))) (po_some (pe_call GD (hr.mono (by decide)) rfl gD kD bD .nil pass0 (pa_cons (pv 1) (pa_cons pe_int pa_nil)))) po_none) pa_nil)) (by rfl))
    (pss_cons (ps_set (i := 6) nd rfl (Or.inl rfl) (pe_call GV (hr.mono (by decide)) rfl gV kV_ bV_ .nil pass0 (pa_cons (pv 3) pa_nil))) hrest)), ?_⟩
  intro Dn H0 s0 s2 s3 s4 s5 s6 s7 s8 s9 s10 l ls N S hN fin
  refine ⟨_, rfl, l, ls, N, 6, rfl, by decide, by decide, S, by omega, fun H1 D arcs LA at1 S1 B1 => ?_⟩
  have at0 := at1
  obtain ⟨D', es0, e1, aD, oD, rnd, pr⟩ := at1
  obtain rfl := V.ref.inj e1
  have les : es0.length = arcs.length := Paired.length pr
  have l8 := LA.n1
  have ok := LA.ok
  have pr0 : Paired (DcE (fun b => H0 b = none ∧ b ≠ l ∧ b ≠ ls) H1) es0 arcs := pr
  refine ⟨_, rfl, made_nt oD (hand_of (K := K) pr0) ok fun H2 x nx TX k2 => ?_⟩
  have ax := S1.apart (Same.refl _) nx
  have xD : x ≠ D := fun z => by rw [z, oD] at nx; cases nx
  have S2 := S1.same k2
  refine ⟨_, rfl, _, rfl, D, es0, rfl, .inl (k2 _ _ oD), fun nm nnm => ?_⟩
  rw [keys_L pr]
  have k3 := same_new (o := .lst ((arcs.map (·.1)).map V.str)) nnm
  have onm : upd H2 nm (.lst ((arcs.map (·.1)).map V.str)) nm = some (.lst ((arcs.map (·.1)).map V.str)) := upd_same
  have ln : ((arcs.map (·.1)).map V.str).length = arcs.length := by rw [List.length_map, List.length_map]
  refine ⟨l, ls, nm, _, _, rfl, S2.same k3, by omega, SqL.of onm, by omega, fun H4 mx ys pm nmx omx S4 B4 => ?_⟩
  obtain ⟨zs, hz, ez⟩ := perm_lift pm (l := arcs.map (·.1)) rfl
  rw [ln] at S4
  have amx := (S2.same k3).apart (Same.refl _) nmx
  refine ⟨_, rfl, l, ls, 3, _, rfl, S4, by omega, by decide, by decide, fun H5 r r0 r1 S5 B5 => ⟨_, rfl, mx, ys, rfl, SqL.of (B5 _ _ amx.1 amx.2 omx), fun kn nkn => ?_⟩⟩
  have lz : zs.length = arcs.length := by rw [hz.length_eq, List.length_map]
  have ecut : cutV ys (some r) none = (zs.drop r.toNat).map V.str := by
    have e := cut_fromN ys r.toNat (by rw [ez, List.length_map, lz]; have := LA.n0; omega)
    rw [show ((r.toNat : Nat) : Int) = r by omega] at e
    rw [e, ez, List.map_drop]
  rw [ecut]
  have akn := S5.apart (Same.refl _) nkn
  have k6 := same_new (o := .lst ((zs.drop r.toNat).map V.str)) nkn
  have okn : upd H5 kn (.lst ((zs.drop r.toNat).map V.str)) kn = some (.lst ((zs.drop r.toNat).map V.str)) := upd_same
  have S6 := S5.same k6
  have B26 : But l ls H2 (upd H5 kn (.lst ((zs.drop r.toNat).map V.str))) := (((But.of k3).trans B4).trans B5).trans (.of k6)
  generalize upd H5 kn (.lst ((zs.drop r.toNat).map V.str)) = H6 at k6 okn S6 B26
  refine ⟨_, _, rfl, ?_⟩
  have at6 : PyD.at_ (fun b => H0 b = none ∧ b ≠ l ∧ b ≠ ls) H6 (.ref D) (Dc.mk arcs) := PyD.kp at0 fun b o a e => ⟨a, B26 _ _ a.2.1 a.2.2 (k2 _ _ e)⟩
  refine ⟨_, rfl, D, arcs, _, rfl, at6, by omega, fun H7 lv nlv olv k7 => ?_⟩
  have B27 := B26.trans (.of k7)
  have alv := S6.apart (Same.refl _) nlv
  have NX : NetA (fun b => H1 b = none) H7 C x arcs := TX.keep (fun o e => B27 _ _ ax.1 ax.2 e) fun b o a e => ⟨a, B27 _ _ (S1.apart (Same.refl _) a).1 (S1.apart (Same.refl _) a).2 e⟩
  refine fin H7 D x kn lv arcs (zs.drop r.toNat) ⟨(S6.same k7).mono (by omega), LA, ⟨_, fun c a => a.2, PyD.kp at6 fun b o a e => ⟨a, k7 _ _ e⟩⟩, ⟨_, fun c a => ⟨S1.apart (Same.refl _) a, fun z => by rw [z, oD] at a; cases a⟩, ax, xD, NX⟩, olv, alv, k7 _ _ okn, akn, (hz.nodup_iff.mpr LA.nd).sublist (List.drop_sublist _ _), fun n hn => hz.mem_iff.mp (List.mem_of_mem_drop hn)⟩
end
end L2.TB
/-! the law: all asked arcs -/
namespace L2.TB
open PySem PySem.Spec PyProof.Rows LamX
/-- what hiding told of an arc -/
inductive GvR (l ls : Addr) (H : Hp) (arcs : NtT) (ks : List Str) (e : Str × ArT) : V → Prop
  | dead (hl : liveB arcs e = false) : GvR l ls H arcs ks e .non
  | op {p a b : Addr} (ht : ¬ Told arcs ks e) (o : H p = some (.tup [.ref a, .ref b])) (oa : H a = some (.lst [])) (ob : H b = some (.dK [])) (ap : p ≠ l ∧ p ≠ ls) (aa : a ≠ l ∧ a ≠ ls) (ab : b ≠ l ∧ b ≠ ls) : GvR l ls H arcs ks e (.ref p)
  | hid {p a b : Addr} {T : List Str} {lev : Str → Int} (hl : liveB arcs e = true) (ht : Told arcs ks e) (ok : HidOk arcs ks e T lev) (o : H p = some (.tup [.ref a, .ref b])) (oa : H a = some (.lst (T.map V.str))) (ob : H b = some (.dK (levD lev (nodesL arcs)))) (ap : p ≠ l ∧ p ≠ ls) (aa : a ≠ l ∧ a ≠ ls) (ab : b ≠ l ∧ b ≠ ls) : GvR l ls H arcs ks e (.ref p)
theorem GvR.same {l ls : Addr} {H H' : Hp} {arcs : NtT} {ks : List Str} {e : Str × ArT} {v : V} (h : GvR l ls H arcs ks e v) (s : Same H H') : GvR l ls H' arcs ks e v := by
  cases h with
  | dead hl => exact .dead hl
  | op ht o oa ob ap aa ab => exact .op ht (s _ _ o) (s _ _ oa) (s _ _ ob) ap aa ab
  | hid hl ht ok o oa ob ap aa ab => exact .hid hl ht ok (s _ _ o) (s _ _ oa) (s _ _ ob) ap aa ab
theorem GvR.gv {l ls : Addr} {H : Hp} {arcs : NtT} {ks : List Str} {e : Str × ArT} {v : V} (h : GvR l ls H arcs ks e v) (k8 : ks.length ≤ 8) : GvH l ls H (nodesL arcs) v := by
  cases h with
  | dead hl => exact .non
  | op ht o oa ob ap aa ab => exact .op o oa ob ap aa ab
  | hid hl ht ok o oa ob ap aa ab => exact .hid o oa ob ap aa ab (Nat.le_trans (nd_sub_len ok.nd ok.sub) k8)
theorem few_eq {arcs : NtT} {ks T : List Str} {e : Str × ArT} {b : Int} {lev : Str → Int} (nok : NtOk arcs) (he : e ∈ arcs) (nd : ks.Nodup) (F : FewB arcs ks e b) (O : HidOk arcs ks e T lev) : (T.length : Int) = b := by
  have low : ∀ x : List Str, ¬ Told arcs (lessN ks x) e → (T.length : Int) ≤ x.length := fun x h => by
    have := lev_low nok.nd he O.lv h
    have := O.len
    omega
  have leK := nd_sub_len O.nd O.sub
  have up : b ≤ T.length := by
    have sl : (ks.filter fun n => decide (n ∈ T)).Sublist ks := List.filter_sublist
    have same : lessN ks (ks.filter fun n => decide (n ∈ T)) = lessN ks T := by
      unfold lessN
      refine List.filter_congr fun n hn => ?_
      have : (n ∈ ks.filter fun n => decide (n ∈ T)) ↔ n ∈ T := by rw [List.mem_filter, decide_eq_true_iff]; exact ⟨fun z => z.2, fun z => ⟨hn, z⟩⟩
      exact decide_eq_decide.mpr (not_congr this)
    have h1 := F.low _ sl (by rw [same]; exact O.op)
    have h2 := nd_sub_len (nd.filter (fun n => decide (n ∈ T))) fun n hn => of_decide_eq_true (List.mem_filter.mp hn).2
    omega
  rcases F.is with h | ⟨x, _, h1, h2⟩
  · omega
  · have := low x h1
    omega
theorem lvV_levD {lev : Str → Int} {ns : List Str} (nd : ns.Nodup) {n : Str} (h : n ∈ ns) : lvV (levD lev ns) n = lev n := by
  unfold lvV
  rw [levD_val nd h]
  rfl
theorem hid_is {arcs : NtT} {ks T : List Str} {e : Str × ArT} {lev : Str → Int} (he : e ∈ arcs) (hl : liveB arcs e = true) (ht : Told arcs ks e) (O : HidOk arcs ks e T lev) : HdgP arcs ks e (some (some T, some (levD lev (nodesL arcs)))) := by
  have ndN : (nodesL arcs).Nodup := nodesF_nd arcs [] (by simp)
  refine ⟨hl, ht, O.nd, O.sub, ⟨?_, fun kv hk => ?_, ?_, fun d hd hld ne => ?_⟩, ?_, O.op⟩
  · unfold justB
    rw [levD_len, decide_eq_true rfl, Bool.true_and]
    refine (List.all_eq_true.mpr fun n hn => ?_)
    rw [levD_val ndN hn]
    rfl
  · obtain ⟨n, _, rfl⟩ := List.mem_map.mp hk
    rfl
  · rw [lvV_levD ndN (nodesL_end he).2]
    exact O.lv.at0
  · rw [lvV_levD ndN (nodesL_end hd).1, lvV_levD ndN (nodesL_end hd).2]
    exact O.lv.le d hd hld ne
  · rw [lvV_levD ndN (nodesL_end he).1]
    exact O.len
section
variable {P : Program} {w : World} {K : PySem.W.Frag} {mg : Str → Option Value} {base : Heap} {f C : Addr}
theorem turn_b (L : LawN P w K mg base C) {cdv : Value} {A : Around} {outer : List Env} {s : Shared} {H : Hp} {E : XK} (hr : Room 6 (A.deeper (envOfC "law" (defScope sLaw) s.heap.objs.size f cdv))) :
    ∃ t, PSs (cxOf CX0 P w K mg base NLw "law" (defScope sLaw) f cdv A outer s H E).nox (bodyT.drop 3) t ∧ ∀ (Dn : Ends) (H0 : Hp) (s0 s2 s7 s8 s9 s10 : Option V) (l ls D x kn lv : Addr) (arcs : NtT) (ks : List Str) (N : Int), SA K C l ls D x kn lv arcs ks N H0 → N ≤ 450000 →
      (∀ H' s7 s8 s9 s10, Strm H' l ls (N + 17000) → Dn.nx [s0, some (.ref l), s2, some (.ref D), some (.ref x), some (.ref kn), some (.ref lv), s7, s8, s9, s10] H') →
      t Dn [s0, some (.ref l), s2, some (.ref D), some (.ref x), some (.ref kn), some (.ref lv), s7, s8, s9, s10] H0 := by
  obtain ⟨fH, fdH, gH, kH, bH, GH⟩ := L.hid
  obtain ⟨fI, fdI, gI, kI, bI, GI⟩ := L.isHid
  obtain ⟨fO, fdO, gO, kO, bO, GO⟩ := L.open_
  obtain ⟨fF, fdF, gF, kF, bF, GF⟩ := L.few
  obtain ⟨fJ, fdJ, gJ, kJ, bJ, GJ⟩ := L.isHidL
  obtain ⟨fG, fdG, gG, kG, bG, GG⟩ := L.hids
  obtain ⟨fS, fdS, gS, kS, bS, GS⟩ := L.same
  have M := L.M
  have nd := scLaw.nd
  have hr1 := hr.mono (show 1 ≤ 6 by decide)
  have ne2 := op_ne2 (X := (cxOf CX0 P w K mg base NLw "law" (defScope sLaw) f cdv A outer s H E).nox) (α := Lz Str) (β := Dc Int) (Nat.lt_of_le_of_lt (Nat.add_le_add_left (show PyD.depth (Lz Str × Dc Int) + 1 ≤ 8 by decide) _) (hu_out hr1))
  refine ⟨_, pss_one (ps_lock (ps_for PassesOwn.never rfl (pi_keys (pv 3)) (pg_name (i := 7) nd rfl (Or.inl rfl))
    (pss_cons (ps_via (ps_set (i := 8) nd rfl (Or.inl rfl) (pe_call GH hr rfl gH kH bH .nil pass0 (pa_cons (pv 4) (pa_cons (pv 5) (pa_cons (pv 7) pa_nil))))))
    (pss_cons (ps_via (ps_if (pt_cmpR op_notIn_seq (pv 7) (pv 6) rfl) (pss_one (ps_if (pt_cmp (pc_notN (pv 8))) (pss_one (ps_ret pe_bl)) pss_nil))
      (pss_one (ps_if (pt_val (pe_call GO (hr.mono (by decide)) rfl gO kO bO .nil pass0 (pa_cons (pv 3) (pa_cons (pv 6) (pa_cons (pv 5) (pa_cons (pv 7) pa_nil)))))) (pss_one (ps_if (pt_not (pt_val (pe_call GS (hr.mono (by decide)) rfl gS kS bS .nil pass0 (pa_cons (pv 8) (pa_cons (pe_tup (pa_cons (pe_lst pa_nil) (pa_cons pe_dnewK pa_nil))) pa_nil))))) (pss_one (ps_ret pe_bl)) pss_nil))
      (pss_one (ps_if (PW.pt (pw_or (pt_not (pt_val (pe_callB (r := rIsi K) call_isi rfl M.nI boot_isi (pa_cons (pv 8) (pa_cons (pe_bltn (v := .ty "tuple") rfl M.nT boot_tuple' rfl) pa_nil))))) (pw_or1 (pt_cmpR op_ne (pe_callB call_len rfl M.nN boot_len (pa_cons (pe_ix (r := rIx K) ix_seq (pv 8) pe_int (fun _ _ => rfl)) pa_nil)) (pe_call GF (hr.mono (by decide)) rfl gF kF bF .nil pass0 (pa_cons (pv 3) (pa_cons (pv 6) (pa_cons (pv 5) (pa_cons (pv 7) pa_nil))))) (nomark _))))) (pss_one (ps_ret pe_bl))
      (pss_one (ps_if (PW.pt (pw_or (pt_not (pt_val (pe_call GJ (hr.mono (by decide)) rfl gJ kJ bJ .nil pass0 (pa_cons (pv 3) (pa_cons (pv 6) (pa_cons (pv 5) (pa_cons (pv 7) (pa_cons (pv 8) pa_nil)))))))) (pw_or1 (pt_cmpR ne2 (pe_call GH hr rfl gH kH bH .nil pass0 (pa_cons (pv 4) (pa_cons (pv 5) (pa_cons (pv 7) pa_nil)))) (pv 8) (nomark _))))) (pss_one (ps_ret pe_bl)) pss_nil))))))))
    (pss_one (ps_for PassesOwn.never rfl (pi_list (pe_call GG (hr.mono (by decide)) rfl gG kG bG .nil pass0 (pa_cons (pv 1) (pa_cons (pv 3) (pa_cons (pv 5) (pa_cons (pv 8) pa_nil)))))) (pg_name (i := 9) nd rfl (Or.inl rfl))
      (pss_cons (ps_set (i := 10) nd rfl (Or.inl rfl) (pe_call GJ (hr.mono (by decide)) rfl gJ kJ bJ .nil pass0 (pa_cons (pv 3) (pa_cons (pv 6) (pa_cons (pv 5) (pa_cons (pv 7) (pa_cons (pv 9) pa_nil)))))))
      (pss_one (ps_if (pt_not (pt_val (pe_call GS (hr.mono (by decide)) rfl gS kS bS .nil pass0 (pa_cons (pe_call GI hr rfl gI kI bI .nil pass0 (pa_cons (pv 4) (pa_cons (pv 5) (pa_cons (pv 7) (pa_cons (pv 9) pa_nil))))) (pa_cons (pv 10) pa_nil))))) (pss_one (ps_ret pe_bl)) pss_nil))))))))), ?_⟩
  intro Dn H0 s0 s2 s7 s8 s9 s10 l ls D x kn lv arcs ks N h hN fin
  have LA := h.LA
  have l8 := LA.n1
  have nok := LA.ok
  obtain ⟨A2, hA2, at0⟩ := h.at_
  obtain ⟨A1, hA1, ax, xD, nt0⟩ := h.nt
  obtain ⟨D', es, e1, aD, oD, rnd, pr⟩ := id at0
  obtain rfl := V.ref.inj e1
  have aDl := hA2 _ aD
  have les : es.length = arcs.length := Paired.length pr
  have k8 : ks.length ≤ 8 := by
    have z := nd_sub_len h.nd h.sub
    rw [List.length_map] at z
    omega
  refine ⟨D, _, oD, trivial, fun od => ⟨_, rfl, D, od, rfl, .inl ⟨es, upd_same, ?_⟩⟩⟩
  have oL : upd H0 D (.frz od (.dK es)) D = some (.frz od (.dK es)) := upd_same
  have lk : ∀ {b : Addr} {o : HO}, b ≠ D → H0 b = some o → upd H0 D (.frz od (.dK es)) b = some o := fun n e => by rw [upd_ne n]; exact e
  have noD : ∀ {b : Addr} {xs : List V}, H0 b = some (.lst xs) → b ≠ D := fun e z => by rw [z, oD] at e; cases e
  have SL := strm_upd (o := .frz od (.dK es)) h.S aDl
  have atL : AtF A2 (upd H0 D (.frz od (.dK es))) D arcs := by
    refine ⟨od, es, aD, oL, rnd, Paired.mapP pr fun e p q => ⟨q.1, ?_⟩⟩
    obtain ⟨t, y, z, h1, h2, h3, h4⟩ := q.2
    exact ⟨t, y, z, h1, h2, lk (fun q => by rw [q, oD] at h3; cases h3) h3, h4⟩
  have ntL : NetA A1 (upd H0 D (.frz od (.dK es))) C x arcs := nt0.keep (fun o e => lk xD e) fun b o a e => ⟨a, lk (hA1 b a).2 e⟩
  have olvL := lk (noD h.olv) h.olv
  have oknL := lk (noD h.okn) h.okn
  have kL : KnA K (upd H0 D (.frz od (.dK es))) kn arcs ks := ⟨.inl oknL, h.sub, h.nd⟩
  obtain ⟨HL, eHL⟩ : ∃ HL, HL = upd H0 D (.frz od (.dK es)) := ⟨_, rfl⟩
  refine for_it walk_keys (fun i σ H' => (∃ s7 s8 s9 s10, σ = [s0, some (.ref l), s2, some (.ref D), some (.ref x), some (.ref kn), some (.ref lv), s7, s8, s9, s10]) ∧ Strm H' l ls (N + 2100 * (i : Int)) ∧ But l ls (upd H0 D (.frz od (.dK es))) H')
    ⟨⟨_, _, _, _, rfl⟩, by simpa using SL, .of (Same.refl _)⟩ (fun i σ H' _ z => z.2.2 _ _ aDl.1 aDl.2 oL) ?_ ?_
  · rintro i y σ H2 H3 lt ⟨⟨s7, s8, s9, s10, rfl⟩, S2, B2⟩ ⟨rfl, k0, v0, ekv, rfl⟩
    obtain ⟨e, ee, hk, _⟩ := paired_get pr ekv
    have hk : k0 = Sum.inr e.1 := hk
    subst hk
    have ee : arcs[i]? = some e := ee
    have he := List.mem_of_getElem? ee
    have li : i < arcs.length := (List.getElem?_eq_some_iff.mp ee).1
    have at2 : AtF A2 H3 D arcs := AtF.kp atL fun b o a z => ⟨a, B2 _ _ (hA2 b a).1 (hA2 b a).2 z⟩
    have nt2 : NetA A1 H3 C x arcs := ntL.keep (fun o e => B2 _ _ ax.1 ax.2 e) fun b o a e => ⟨a, B2 _ _ (hA1 b a).1.1 (hA1 b a).1.2 e⟩
    have olv2 := B2 _ _ h.alv.1 h.alv.2 olvL
    have okn2 := B2 _ _ h.akn.1 h.akn.2 oknL
    have ka2 : KnA K H3 kn arcs ks := ⟨.inl okn2, h.sub, h.nd⟩
    refine ⟨fun σ' H' => ∃ gv, σ' = [s0, some (.ref l), s2, some (.ref D), some (.ref x), some (.ref kn), some (.ref lv), some (.str e.1), some gv, s9, s10] ∧ Same H3 H' ∧ GvR l ls H' arcs ks e gv, ?_, ?_⟩
    · refine ⟨_, rfl, _, rfl, _, rfl, x, kn, arcs, A1, ks, e, rfl, nt2, nok, ka2, he, fun hl H' k => ⟨_, rfl, k, .dead hl⟩, fun ht H' t a b nt na nb ot oa ob k => ⟨_, rfl, k, .op ht ot oa ob (S2.apart (Same.refl _) nt) (S2.apart (Same.refl _) na) (S2.apart (Same.refl _) nb)⟩, fun hl ht H' t a b T lev nt na nb ot oa ob ok k => ⟨_, rfl, k, .hid hl ht ok ot oa ob (S2.apart (Same.refl _) nt) (S2.apart (Same.refl _) na) (S2.apart (Same.refl _) nb)⟩⟩
    rintro σ4 H4 ⟨gv, rfl, k4, gr⟩
    refine ⟨fun σ' H' => σ' = [s0, some (.ref l), s2, some (.ref D), some (.ref x), some (.ref kn), some (.ref lv), some (.str e.1), some gv, s9, s10] ∧ Same H4 H', ?_, ?_⟩
    · have at4 : AtF A2 H4 D arcs := AtF.kp at2 fun b o a z => ⟨a, k4 _ _ z⟩
      have olv4 := k4 _ _ olv2
      have okn4 := k4 _ _ okn2
      have ka4 := ka2.same k4
      refine ⟨_, rfl, _, rfl, lv, _, rfl, .inl (SqL.of olv4), rfl, flat_strs _, _, rfl, ?_⟩
      rw [inV_strs]
      have lin : e.1 ∈ liveL arcs ↔ liveB arcs e = true := live_in nok.nd he
      cases gr with
      | dead hl =>
        rw [decide_eq_false (fun z => by rw [lin.mp z] at hl; cases hl)]
        exact iteT ⟨_, rfl, _, rfl, iteF ⟨rfl, Same.refl _⟩⟩
      | op ht o oa ob ap aa ab =>
        have hl := ((open_iff nok.nd he).mp ht).2.1
        rw [decide_eq_true (lin.mpr hl)]
        refine iteF ⟨_, rfl, _, rfl, _, rfl, _, rfl, D, lv, kn, arcs, A2, ks, e, rfl, at4, nok, olv4, ka4, he, fun H5 b hb k5 => ⟨b, rfl, ?_⟩⟩
        obtain rfl : b = true := hb.mpr ht
        refine iteT ⟨_, rfl, Nat.zero_le _, fun q1 nq1 => fun q2 nq2 => ⟨(by show 2 ≤ sizeLine; decide), fun q3 nq3 => ?_⟩⟩
        have j1 := same_new (o := .lst []) nq1
        have j2 := same_new (o := .dK []) nq2
        have j3 := same_new (o := .tup [.ref q1, .ref q2]) nq3
        have jj := (j1.trans j2).trans j3
        refine ⟨_, _, rfl, .tup (jj _ _ (k5 _ _ o)) upd_same rfl (by show 2 < 1000; decide) (fun i x y ex ey => ?_), fun H6 k6 => ⟨_, rfl, iteF ⟨rfl, (k5.trans jj).trans k6⟩⟩⟩
        match i, ex, ey with
        | 0, ex, ey =>
          obtain rfl := Option.some.inj ex
          obtain rfl := Option.some.inj ey
          exact .lst (jj _ _ (k5 _ _ oa)) (j3 _ _ (j2 _ _ upd_same)) rfl (by show 0 < 1000; decide) fun i x y ex ey => by cases ex
        | 1, ex, ey =>
          obtain rfl := Option.some.inj ex
          obtain rfl := Option.some.inj ey
          exact .up (.dic (jj _ _ (k5 _ _ ob)) (j3 _ _ upd_same) (by simp) fun kv h => by cases h)
        | i + 2, ex, ey => cases ex
      | @hid pg ag bg T lev hl ht ok o oa ob ap aa ab =>
        rw [decide_eq_true (lin.mpr hl)]
        refine iteF ⟨_, rfl, _, rfl, _, rfl, _, rfl, D, lv, kn, arcs, A2, ks, e, rfl, at4, nok, olv4, ka4, he, fun H5 b hb k5 => ⟨b, rfl, ?_⟩⟩
        cases b with
        | true => exact absurd ht (hb.mp rfl)
        | false =>
        refine iteF ?_
        have at5 : AtF A2 H5 D arcs := AtF.kp at4 fun b o a z => ⟨a, k5 _ _ z⟩
        have o5 := k5 _ _ o
        have oa5 := k5 _ _ oa
        have lT : (T.map V.str).length = T.length := List.length_map _
        refine ⟨_, rfl, _, _, _, _, true, rfl, .ty _, .base (.tup o5), kit_ty (by decide +kernel), _, rfl, iteF ?_⟩
        refine ⟨_, rfl, .inr (.inl ⟨_, _, _, _, rfl, rfl, SqT.of o5, rfl, _, T.length, rfl, .inl ⟨_, SqL.of oa5, lT.symm⟩, ?_⟩)⟩
        refine ⟨_, rfl, _, rfl, _, rfl, _, rfl, D, lv, kn, arcs, A2, ks, e, rfl, at5, nok, k5 _ _ olv4, ka4.same k5, k5 _ _ okn4, k8, he, fun H6 b hb6 k6 => ?_⟩
        have eb := few_eq nok he h.nd hb6 ok
        refine ⟨rfl, _, rfl, ?_⟩
        rw [eb, decide_eq_true rfl]
        refine iteF ?_
        have k46 := k5.trans k6
        have ndN : (nodesL arcs).Nodup := nodesF_nd arcs [] (by simp)
        have lN := nodesL_len nok
        have sT := nd_sub_len ok.nd ok.sub
        have th6 : HdTh K H6 _ (some (some T, some (levD lev (nodesL arcs)))) := .two (.inr (k46 _ _ o)) (.seq (.inl (k46 _ _ oa)) (by omega)) (.dict ⟨k46 _ _ ob, by rw [levD_keys]; exact nd_inr ndN, by rw [levD_len]; omega, levD_atom _ _⟩)
        refine ⟨_, rfl, _, rfl, _, rfl, _, rfl, _, rfl, D, lv, kn, arcs, A2, ks, e, _, _, rfl, AtF.kp at4 (fun b o a z => ⟨a, k46 _ _ z⟩), nok, k46 _ _ olv4, ka4.same k46, k46 _ _ okn4, he, th6, fun H7 b7 hb7 k7 => ⟨b7, rfl, ?_⟩⟩
        obtain rfl : b7 = true := hb7.mpr (hid_is he hl ht ok)
        refine iteF ?_
        have k47 := k46.trans k7
        have nt7 : NetA A1 H7 C x arcs := nt2.same (k4.trans k47)
        refine ⟨_, rfl, _, rfl, _, rfl, x, kn, arcs, A1, ks, e, rfl, nt7, nok, ka4.same k47, he, ?_, ?_, ?_⟩
        · intro hl'
          rw [hl] at hl'
          cases hl'
        · intro ht'
          exact absurd ht ht'
        intro _ _ H8 t a' b' T' lev' nt' na' nb' ot' oa' ob' ok' k8'
        obtain ⟨rfl, rfl⟩ := ok.one ok'
        have k48 := k47.trans k8'
        refine ⟨_, rfl, _, _, _, _, hidV_at ndN ot' oa' ob', hidV_at ndN (k48 _ _ o) (k48 _ _ oa) (k48 _ _ ob), _, rfl, ?_⟩
        rw [hidV_self ndN ot' oa' ob']
        exact iteF ⟨rfl, k48⟩
    rintro σ5 H5 ⟨rfl, k5⟩
    have k35 := k4.trans k5
    have S5 := S2.same k35
    have gr5 := gr.same k5
    refine ⟨_, rfl, _, rfl, _, rfl, _, rfl, l, ls, D, kn, gv, arcs, A2, ks, _, rfl, S5, by omega, AtF.kp at2 (fun b o a z => ⟨a, k35 _ _ z⟩), hA2, nok, l8, k35 _ _ okn2, h.akn, k8, gr5.gv k8, fun H6 q ys oq aq sh th S6 B6 => ⟨q, rfl, ⟨_, SqL.of oq⟩, ?_⟩⟩
    have B36 : But l ls H3 H6 := (But.of k35).trans B6
    have at6 : AtF A2 H6 D arcs := AtF.kp at2 fun b o a z => ⟨a, B36 _ _ (hA2 b a).1 (hA2 b a).2 z⟩
    have nt6 : NetA A1 H6 C x arcs := nt2.keep (fun o e => B36 _ _ ax.1 ax.2 e) fun b o a e => ⟨a, B36 _ _ (hA1 b a).1.1 (hA1 b a).1.2 e⟩
    have olv6 := B36 _ _ h.alv.1 h.alv.2 olv2
    have okn6 := B36 _ _ h.akn.1 h.akn.2 okn2
    refine for_list (xs := ys) (fun j σ H' => (∃ s9 s10, σ = [s0, some (.ref l), s2, some (.ref D), some (.ref x), some (.ref kn), some (.ref lv), some (.str e.1), some gv, s9, s10]) ∧ Same H6 H')
      ⟨⟨_, _, rfl⟩, Same.refl _⟩ (fun j σ H' _ z => SqL.of (z.2 _ _ oq)) ?_ ?_
    · rintro j v σ H7 ev ⟨⟨s9, s10, rfl⟩, k7⟩
      obtain ⟨o, rob⟩ := th v (List.mem_of_getElem? ev)
      have thn : ∀ {G : Hp}, Same H6 G → HdTh K G v o := fun k => rob _ (BE.of (.of k))
      refine ⟨_, rfl, _, rfl, _, rfl, _, rfl, _, rfl, D, lv, kn, arcs, A2, ks, e, v, o, rfl, AtF.kp at6 (fun b o a z => ⟨a, k7 _ _ z⟩), nok, k7 _ _ olv6, ⟨.inl (k7 _ _ okn6), h.sub, h.nd⟩, k7 _ _ okn6, he, thn k7, fun H8 b hb k8 => ?_⟩
      have k68 := k7.trans k8
      refine ⟨_, rfl, _, rfl, _, rfl, _, rfl, x, kn, arcs, A1, ks, e, v, o, rfl, nt6.same k68, nok, ⟨.inl (k68 _ _ okn6), h.sub, h.nd⟩, k68 _ _ okn6, he, thn k68, fun H9 b2 hb2 k9 => ?_⟩
      have eb : b2 = b := by
        cases b with
        | true => exact hb2.mpr (hb.mp rfl)
        | false =>
          cases b2 with
          | false => rfl
          | true => cases hb.mpr (hb2.mp rfl)
      refine ⟨_, rfl, .bl b2, .bl b, rfl, by rw [eb]; exact .up (.up (.one (.bl b))), fun H10 k10 => ⟨_, rfl, iteF ⟨⟨_, _, rfl⟩, (k68.trans k9).trans k10⟩⟩⟩
    · rintro σ H7 ⟨⟨s9, s10, rfl⟩, k7⟩
      exact ⟨⟨_, _, _, _, rfl⟩, (S6.same k7).mono (by omega), B2.trans (B36.trans (.of k7))⟩
  · rintro σ H2 ⟨⟨s7, s8, s9, s10, rfl⟩, S2, B2⟩
    obtain ⟨b1, B3⟩ := but_unlock oD aDl B2
    exact ⟨b1, fin _ _ _ _ _ ((strm_upd S2 aDl).mono (by rw [les]; omega))⟩
end
end L2.TB
/-! the law -/
namespace L2.TB
open PySem PySem.Spec PyProof.Rows LamX
def spLawT (K : PySem.W.Frag) : Sp := fun vs H Q _ => ∃ (a : Addr) (ns : List Int), vs = [.ref a] ∧ SqL K H a (ns.map V.int) ∧ ns.length ≤ 63 ∧ ∀ H', Q (.bl true) H'
section
variable {P : Program} {w : World} {K : PySem.W.Frag} {mg : Str → Option Value} {base : Heap} {f C : Addr} {fd : FuncData}
theorem ok_law (F : Fun K "law" "law" sLaw f fd) (L : LawN P w K mg base C) : FnOk P w K mg base CX0 7 f fd ["script"] (spLawT K) := by
  obtain ⟨fS, fdS, gS, kS, bS, GS⟩ := L.start
  refine F.ok scLaw (fun vs H Q E h => by obtain ⟨a, ns, e, _⟩ := h; rw [e]; rfl) fun cdv A outer s H vs Q E hr hsp => ?_
  obtain ⟨a, cs, rfl, hS, hn, hq⟩ := hsp
  have nd := scLaw.nd
  obtain ⟨tB, pB, rB⟩ := turn_b (P := P) (w := w) L (outer := outer) (H := H) (E := E) hr
  obtain ⟨tA, pA, rA⟩ := turn_a (P := P) (w := w) L (outer := outer) (H := H) (E := E) hr pB
  refine ⟨_, pss_cons (ps_set (i := 1) nd rfl (Or.inl rfl) (pe_call GS (hr.mono (by decide)) rfl gS kS bS .nil pass0 (pa_cons (pv 0) pa_nil)))
    (pss_cons (ps_for PassesOwn.never rfl (pi_range1 rfl L.nR (pa_cons pe_int pa_nil)) (pg_name (i := 2) nd rfl (Or.inl rfl)) pA)
    (pss_one (ps_ret pe_bl))), ?_⟩
  refine ⟨_, rfl, a, cs, rfl, hS, by omega, fun H1 l ls nl k1 S1 nls => ?_⟩
  refine ⟨3, rfl, by decide, by decide, for_range (n := 3) (fun i σ H' => Strm H' l ls (20000 * (i : Int)) ∧ ∃ s2 s3 s4 s5 s6 s7 s8 s9 s10, σ = [some (.ref a), some (.ref l), s2, s3, s4, s5, s6, s7, s8, s9, s10])
    ⟨by simpa using S1, _, _, _, _, _, _, _, _, _, rfl⟩ ?_ ?_⟩
  · rintro i σ H2 hi ⟨S2, s2, s3, s4, s5, s6, s7, s8, s9, s10, rfl⟩
    refine rA _ H2 _ _ _ _ _ _ _ _ _ _ l ls _ S2 (by omega) fun H3 D x kn lv arcs ks N3 => ?_
    refine rB _ H3 _ _ _ _ _ _ l ls D x kn lv arcs ks _ N3 (by omega) fun H4 s7 s8 s9 s10 S4 => ?_
    exact ⟨S4.mono (by omega), _, _, _, _, _, _, _, _, _, rfl⟩
  · rintro σ H2 ⟨S2, s2, s3, s4, s5, s6, s7, s8, s9, s10, rfl⟩
    exact hq H2
end
end L2.TB
/-! a net's questions -/
namespace L2.TB
open PySem PySem.Spec PyProof.Rows
theorem scNNodes : FnScope ["self"] ["self"] (defScope sNodes) := ⟨rfl, rfl, rfl, by decide +kernel, rfl, by decide +kernel, by decide +kernel⟩
theorem scNQs : FnScope ["self"] ["self"] (defScope sQs) := ⟨rfl, rfl, rfl, by decide +kernel, rfl, by decide +kernel, by decide +kernel⟩
section
variable {P : Program} {w : World} {K : PySem.W.Frag} {mg : Str → Option Value} {base : Heap} {f C : Addr} {fd : FuncData}
theorem ok_nQs (F : Fun K "questions" "Net.questions" sQs f fd) (S : NetC K C) (nL : mg "list" = none) : FnOk P w K mg base CX0 1 f fd ["self"] (spNQs C) := by
  refine F.ok scNQs (fun vs H Q E h => by obtain ⟨x, arcs, A, e, _⟩ := h; rw [e]; rfl) fun cdv A outer s H vs Q E hr hsp => ?_
  obtain ⟨x, arcs, _, rfl, hx, hq⟩ := hsp
  obtain ⟨dx, D, _, _, h1, ⟨D', es, e1, _, oD, nD, pr⟩, _⟩ := hx.ex
  obtain rfl := V.ref.inj e1
  refine ⟨_, pss_one (ps_ret (pe_callTy (call_listD rfl) rfl nL boot_list' (pa_cons (pe_fld (pv 0) rfl) pa_nil))), ?_⟩
  refine ⟨_, rfl, x, C, dx, _, _, rfl, h1, S.cl, S.nA, rfl, D, es, rfl, .inl oD, fun q nq => hq _ q nq ?_ (same_new nq)⟩
  have z : (es.map fun kv => kV kv.1) = (arcs.map (·.1)).map V.str := keys_L pr
  rw [z]
  exact upd_same
theorem ok_nNodes (F : Fun K "nodes" "Net.nodes" sNodes f fd) (S : NetC K C) (nL : mg "list" = none) : FnOk P w K mg base CX0 1 f fd ["self"] (spNNodes C) := by
  refine F.ok scNNodes (fun vs H Q E h => by obtain ⟨x, arcs, A, e, _⟩ := h; rw [e]; rfl) fun cdv A outer s H vs Q E hr hsp => ?_
  obtain ⟨x, arcs, _, rfl, hx, hq⟩ := hsp
  obtain ⟨dx, D, Nd, _, h1, _, _, oN, _⟩ := hx.ex
  refine ⟨_, pss_one (ps_ret (pe_callTy call_list_of rfl nL boot_list' (pa_cons (pe_fld (pv 0) rfl) pa_nil))), ?_⟩
  exact ⟨_, rfl, x, C, dx, _, _, rfl, h1, S.cl, S.nN, rfl, Nd, _, rfl, .inl (SqL.of oN), fun q nq => hq _ q nq upd_same (same_new nq)⟩
end
end L2.TB
namespace L2.TB
open PySem PySem.Spec PyProof.Rows
open LamX
section
variable {K : PySem.W.Frag} {h : Heap} {mg : Str → Option Value}
theorem fun_ofD {x q : Str} {st : Stmt} {f : Addr} {fd : FuncData} (F : FunD K x q (defArgs st) (defBody st) (defScope st) [] [] f fd) : Fun K x q st f fd := by
  obtain ⟨⟨oc, od, dV, kV, doc, pm, an, cdv, ct, osl, e, lk, hc, hd, hk⟩, kp⟩ := F
  obtain rfl : dV = .none := hd.elim (fun z => z.2) fun z => absurd rfl z.1
  exact ⟨⟨oc, od, kV, doc, pm, an, cdv, ct, osl, e, lk, hc⟩, kp⟩
theorem def_at (c : He.SaysD faT fnT K) (X : K.In h) (G : h.Ns mainGlobals mg) (i k : Nat) {x : Str} {st : Stmt} (ei : faT[i]? = some (.glo x)) (ek : fnT[k]? = some (dfd (x, none) x x st [])) :
    mg x = some (.ref (He.ga K x)) ∧ ∃ fd, Fun K x x st (He.ga K x) fd := by
  obtain ⟨fd, F⟩ := c.def_ k ek
  exact ⟨He.glo_ok X G (c.fact i ei), fd, fun_ofD F⟩
theorem cmeth_at (c : He.SaysD faT fnT K) (i k : Nat) {C m q : Str} {st : Stmt} (ei : faT[i]? = some (.meth C m)) (ek : fnT[k]? = some (dfd (C, some m) m q st [])) :
    Meth K (He.ga K C) m (He.ma K (He.ga K C) m) ∧ ∃ fd, Fun K m q st (He.ma K (He.ga K C) m) fd := by
  obtain ⟨fd, F⟩ := c.def_ k ek
  exact ⟨He.meth_ok (c.fact i ei), fd, fun_ofD F⟩
theorem init_at (c : He.SaysD faT fnT K) (k : Nat) {C q : Str} {st : Stmt} (ek : fnT[k]? = some (dfd (C, some "__init__") "__init__" q st [])) : ∃ fd, Fun K "__init__" q st (He.ma K (He.ga K C) "__init__") fd := by
  obtain ⟨fd, F⟩ := c.def_ k ek
  exact ⟨fd, fun_ofD F⟩
theorem code_of {x : Str} {st : Stmt} {fd : FuncData} (F : Fun K x x st (He.ga K x) fd) : fd.code = .ref (He.cT K (x, none)).1 := by
  obtain ⟨⟨oc, od, kV, doc, pm, an, cdv, ct, osl, e, lk, hc⟩, kp⟩ := F
  obtain ⟨c, e2⟩ := He.codeIn_ref hc
  have e3 : fd.code = .ref c := by rw [e]; exact e2
  have lk2 : K.lookup (He.fAd K (x, none)) = some ⟨oc, od, .func fd, osl⟩ := lk
  rw [e3]
  exact congrArg Value.ref (He.codeOf_eq lk2 e3).symm
/-- an error's class -/
theorem err_at {P : Program} {w : World} {base : Heap} (c : SaysK h K) (X : K.In h) (G : h.Ns mainGlobals mg) (i k : Nat) {x fld q : Str} {st : Stmt} {p0 p1 p2 p3 : Pos} (ei : faT[i]? = some (.glo x)) (ek : fnT[k]? = some (dfd (x, some "__init__") "__init__" q st [])) (he : (x, fld) ∈ erT)
    (S : FnScope ["self", fld] ["self", fld] (defScope st)) (hb : defBody st = [.Assign [.Attribute (.Name "self" p0) fld p1] (.Name fld p2) p3]) (hv0 : Vis (defScope st) "self") (hv1 : Vis (defScope st) fld) (hdy : (fld == ("__debug__" : Str)) = false) (hcy : (fld == ("__classdict__" : Str)) = false)
    (bd : ∀ (kV doc pm : Value) (an : Option Addr) (cdv ct : Value) (us : List Value), us.length = 2 → bindArgs (PySem.W.fnOf "__init__" q (defArgs st) (defBody st) (defScope st) .none kV doc pm an cdv ct) ⟨us, []⟩ = pure ((["self", fld] : List Str).zip us)) : ErrF P w K mg base x (He.ga K x) fld := by
  obtain ⟨fd, F⟩ := c.d.def_ k ek
  have F' : Fun K "__init__" q st (He.ma K (He.ga K x) "__init__") fd := fun_ofD F
  exact ⟨He.glo_ok X G (c.d.fact i ei), _, fd, fld, errB_ok (c.er _ he), ok_errInit F' S hb hv0 hv1 hdy hcy, F'.binds bd⟩
abbrev pT (K : PySem.W.Frag) (x : Str) : Addr := (He.cT K (x, none)).2
def qT (x : Str) : Str := x ++ ".<locals>." ++ "<lambda>"
def tbN : List Str := []
def tbL (K : PySem.W.Frag) : List (Addr × Str) := tbN.map fun x => (pT K x, qT x)
theorem cs_of {x : Str} (h : x ∈ tbN) : He.cT K (x, none) ∈ csL K := by
  have e : csL K = tbN.map fun x => He.cT K (x, none) := rfl
  rw [e]
  exact List.mem_map_of_mem (f := fun x => He.cT K (x, none)) h
theorem tabs_nil {H : Hp} (hT : ∀ p ∈ csL K, H p.2 = some (.tbl #[])) : Tabs (tbL K) H := fun p hp => by
  obtain ⟨x, hx, rfl⟩ := List.mem_map.mp hp
  exact TabS.nil (hT _ (cs_of hx))
theorem tb_mem {x : Str} (h : x ∈ tbN) : (pT K x, qT x) ∈ tbL K := List.mem_map.mpr ⟨x, h, rfl⟩
theorem tb_uni (np : (tfT.map fun p => (He.cT K p).2).Nodup) {x : Str} (h : x ∈ tbN) : ∀ p ∈ tbL K, p.1 = pT K x → p.2 = qT x := fun p hp e => by
  obtain ⟨y, hy, rfl⟩ := List.mem_map.mp hp
  have z : (tbN.map (pT K)).Nodup := np
  have inj : ∀ {l : List Str}, (l.map (pT K)).Nodup → ∀ {a b : Str}, a ∈ l → b ∈ l → pT K a = pT K b → a = b := by
    intro l
    induction l with
    | nil => intro _ a b ha; cases ha
    | cons c l ih =>
      intro nd a b ha hb e
      rw [List.map_cons, List.nodup_cons] at nd
      rcases List.mem_cons.mp ha with ea | ha
      · rcases List.mem_cons.mp hb with eb | hb
        · rw [ea, eb]
        · exact absurd (List.mem_map.mpr ⟨b, hb, by rw [← e, ea]⟩) nd.1
      · rcases List.mem_cons.mp hb with eb | hb
        · exact absurd (List.mem_map.mpr ⟨a, ha, by rw [e, eb]⟩) nd.1
        · exact ih nd.2 ha hb e
  rw [inj z hy h e]
theorem cls_ok4 {C : Addr} (h : clsB K C = true) : PySem.W.findIn K (.ref C) "__class__" = some (some (.builtin "object.__class__")) ∧ PySem.W.specialIn K (.builtin "object.__class__") "__get__" = some (some (.builtin "getset_descriptor.__get__")) ∧ PySem.W.takesIn K (.builtin "object.__class__") = some true ∧ PySem.W.mroIn K C (.type "object") = some true := by
  obtain ⟨v1, h5⟩ := He.ba h
  obtain ⟨v2, h6⟩ := He.ba h5
  obtain ⟨v3, v4⟩ := He.ba h6
  exact ⟨He.eqO_ok v1, He.eqO_ok v2, of_decide_eq_true v3, of_decide_eq_true v4⟩
end
theorem facts {P : Program} {w : World} {K : PySem.W.Frag} {h : Heap} {mg : Str → Option Value} {f : Addr} (X : K.In h) (G : h.Ns mainGlobals mg) (hfa : mg ("law" : Str) = some (.ref f)) (cc : SaysK h K) :
    ∃ fd : FuncData, (∀ (s : Shared) (v : Value), BindsTo s fd ⟨[v], []⟩ [("script", v)]) ∧ ∀ base : Heap, K.In base → base.Ns mainGlobals mg → (∀ p ∈ csL K, TabB base mg p.1 p.2) → FnOk P w K mg base CX0 7 f fd ["script"] (spLawT K) := by
  have c := cc.d
  obtain ⟨gStart, dStart, FStart⟩ := def_at c X G 0 0 (x := "_law_start") (st := sStart) rfl rfl
  obtain ⟨gDraw, dDraw, FDraw⟩ := def_at c X G 1 1 (x := "_law_draw") (st := sDraw) rfl rfl
  obtain ⟨gPick, dPick, FPick⟩ := def_at c X G 2 2 (x := "_law_pick") (st := sPick) rfl rfl
  obtain ⟨gMixed, dMixed, FMixed⟩ := def_at c X G 3 3 (x := "_law_mixed") (st := sMixed) rfl rfl
  obtain ⟨gSame, dSame, FSame⟩ := def_at c X G 4 4 (x := "_law_same") (st := sSame) rfl rfl
  obtain ⟨gNameL, dNameL, FNameL⟩ := def_at c X G 5 5 (x := "_law_name") (st := sNameL) rfl rfl
  obtain ⟨gNamesL, dNamesL, FNamesL⟩ := def_at c X G 6 6 (x := "_law_names") (st := sNamesL) rfl rfl
  obtain ⟨gArcsL, dArcsL, FArcsL⟩ := def_at c X G 7 7 (x := "_law_c_arcs") (st := sArcsL) rfl rfl
  obtain ⟨gLeads, dLeads, FLeads⟩ := def_at c X G 8 8 (x := "_law_c_leads") (st := sLeads) rfl rfl
  obtain ⟨gLiveL, dLiveL, FLiveL⟩ := def_at c X G 9 9 (x := "_law_c_live") (st := sLiveL) rfl rfl
  obtain ⟨gJoinedL, dJoinedL, FJoinedL⟩ := def_at c X G 10 10 (x := "_law_c_joined") (st := sJoinedL) rfl rfl
  obtain ⟨gNodesL, dNodesL, FNodesL⟩ := def_at c X G 11 11 (x := "_law_c_nodes") (st := sNodesL) rfl rfl
  obtain ⟨gIsOpen, dIsOpen, FIsOpen⟩ := def_at c X G 12 12 (x := "_law_c_is_open") (st := sIsOpen) rfl rfl
  obtain ⟨gFewest, dFewest, FFewest⟩ := def_at c X G 13 13 (x := "_law_c_fewest") (st := sFewest) rfl rfl
  obtain ⟨gAreLevL, dAreLevL, FAreLevL⟩ := def_at c X G 14 14 (x := "_law_c_are_levels") (st := sAreLevL) rfl rfl
  obtain ⟨gIsHidL, dIsHidL, FIsHidL⟩ := def_at c X G 15 15 (x := "_law_c_is_hiding") (st := sIsHidL) rfl rfl
  obtain ⟨gHidsL, dHidsL, FHidsL⟩ := def_at c X G 16 16 (x := "_law_c_hidings") (st := sHidsL) rfl rfl
  obtain ⟨gLaw, dLaw, FLaw⟩ := def_at c X G 17 17 (x := "law") (st := sLaw) rfl rfl
  obtain ⟨gIsInt, dIsInt, FIsInt⟩ := def_at c X G 18 18 (x := "is_integer") (st := sIsInt) rfl rfl
  obtain ⟨gIsCount, dIsCount, FIsCount⟩ := def_at c X G 19 19 (x := "is_count") (st := sIsCount) rfl rfl
  obtain ⟨gIsList, dIsList, FIsList⟩ := def_at c X G 20 20 (x := "is_list") (st := sIsList) rfl rfl
  obtain ⟨gIsPair, dIsPair, FIsPair⟩ := def_at c X G 21 21 (x := "is_pair") (st := sIsPair) rfl rfl
  obtain ⟨gIsName, dIsName, FIsName⟩ := def_at c X G 22 22 (x := "is_name") (st := sIsName) rfl rfl
  obtain ⟨gIsOne, dIsOne, FIsOne⟩ := def_at c X G 23 23 (x := "is_one_of") (st := sIsOne) rfl rfl
  obtain ⟨gFirst, dFirst, FFirst⟩ := def_at c X G 24 24 (x := "first_bad") (st := sFirst) rfl rfl
  obtain ⟨gCkK, dCkK, FCkK⟩ := def_at c X G 25 25 (x := "check_known") (st := sCkK) rfl rfl
  obtain ⟨gCkA, dCkA, FCkA⟩ := def_at c X G 26 26 (x := "check_asked") (st := sCkA) rfl rfl
  obtain ⟨gCkB, dCkB, FCkB⟩ := def_at c X G 27 27 (x := "check_both") (st := sCkB) rfl rfl
  obtain ⟨gHasJust, dHasJust, FHasJust⟩ := def_at c X G 28 28 (x := "has_just") (st := sHasJust) rfl rfl
  obtain ⟨gOnward, dOnward, FOnward⟩ := def_at c X G 29 29 (x := "onward") (st := sOnward) rfl rfl
  obtain ⟨gBack, dBack, FBack⟩ := def_at c X G 30 30 (x := "back") (st := sBack) rfl rfl
  obtain ⟨gEither, dEither, FEither⟩ := def_at c X G 31 31 (x := "either_way") (st := sEither) rfl rfl
  obtain ⟨gReached, dReached, FReached⟩ := def_at c X G 32 32 (x := "reached") (st := sReached) rfl rfl
  obtain ⟨gJoined, dJoined, FJoined⟩ := def_at c X G 33 33 (x := "is_joined") (st := sJoined) rfl rfl
  obtain ⟨gFree, dFree, FFree⟩ := def_at c X G 34 34 (x := "free_arcs") (st := sFree) rfl rfl
  obtain ⟨gIsArc, dIsArc, FIsArc⟩ := def_at c X G 35 35 (x := "_is_arc") (st := sIsArc) rfl rfl
  obtain ⟨gNodesOf, dNodesOf, FNodesOf⟩ := def_at c X G 36 36 (x := "_nodes_of") (st := sNodesOf) rfl rfl
  obtain ⟨gHiding, dHiding, FHiding⟩ := def_at c X G 37 37 (x := "hiding") (st := sHiding) rfl rfl
  obtain ⟨gIsHiding, dIsHiding, FIsHiding⟩ := def_at c X G 38 38 (x := "is_hiding") (st := sIsHiding) rfl rfl
  obtain ⟨gLevelled, dLevelled, FLevelled⟩ := def_at c X G 39 39 (x := "_levelled") (st := sLevelled) rfl rfl
  obtain ⟨gAreLev, dAreLev, FAreLev⟩ := def_at c X G 40 40 (x := "_are_levels") (st := sAreLev) rfl rfl
  obtain ⟨mInit, dInit, FInit⟩ := cmeth_at c 71 41 (C := "Net") (m := "__init__") (q := "Net.__init__") (st := sInit) rfl rfl
  obtain ⟨mQs, dQs, FQs⟩ := cmeth_at c 63 42 (C := "Net") (m := "questions") (q := "Net.questions") (st := sQs) rfl rfl
  obtain ⟨mArcs, dArcs, FArcs⟩ := cmeth_at c 64 43 (C := "Net") (m := "arcs") (q := "Net.arcs") (st := sArcs) rfl rfl
  obtain ⟨mNodes, dNodes, FNodes⟩ := cmeth_at c 65 44 (C := "Net") (m := "nodes") (q := "Net.nodes") (st := sNodes) rfl rfl
  obtain ⟨mLive, dLive, FLive⟩ := cmeth_at c 66 45 (C := "Net") (m := "live") (q := "Net.live") (st := sLive) rfl rfl
  obtain ⟨mIsLive, dIsLive, FIsLive⟩ := cmeth_at c 67 46 (C := "Net") (m := "_is_live") (q := "Net._is_live") (st := sIsLive) rfl rfl
  obtain ⟨mIsTold, dIsTold, FIsTold⟩ := cmeth_at c 68 47 (C := "Net") (m := "is_told") (q := "Net.is_told") (st := sIsTold) rfl rfl
  obtain ⟨mIsGiven, dIsGiven, FIsGiven⟩ := cmeth_at c 69 48 (C := "Net") (m := "_is_given") (q := "Net._is_given") (st := sIsGiven) rfl rfl
  obtain ⟨mOthers, dOthers, FOthers⟩ := cmeth_at c 70 49 (C := "Net") (m := "_others") (q := "Net._others") (st := sOthers) rfl rfl
  have n_list : mg "list" = none := He.free_ok X G (c.fact 43 rfl)
  have n_len : mg "len" = none := He.free_ok X G (c.fact 44 rfl)
  have n_int : mg "int" = none := He.free_ok X G (c.fact 45 rfl)
  have n_range : mg "range" = none := He.free_ok X G (c.fact 46 rfl)
  have n_dict : mg "dict" = none := He.free_ok X G (c.fact 47 rfl)
  have n_tuple : mg "tuple" = none := He.free_ok X G (c.fact 48 rfl)
  have n_str : mg "str" = none := He.free_ok X G (c.fact 49 rfl)
  have n_bool : mg "bool" = none := He.free_ok X G (c.fact 50 rfl)
  have n_isinstance : mg "isinstance" = none := He.free_ok X G (c.fact 51 rfl)
  have n_all : mg "all" = none := He.free_ok X G (c.fact 52 rfl)
  have n_any : mg "any" = none := He.free_ok X G (c.fact 53 rfl)
  have n_enumerate : mg "enumerate" = none := He.free_ok X G (c.fact 54 rfl)
  have n_zip : mg "zip" = none := He.free_ok X G (c.fact 55 rfl)
  have n_abs : mg "abs" = none := He.free_ok X G (c.fact 56 rfl)
  have gC : mg "Net" = some (.ref (He.ga K "Net")) := He.glo_ok X G (c.fact 41 rfl)
  have gWE : mg "WorldError" = some (.ref (He.ga K "WorldError")) := He.glo_ok X G (c.fact 42 rfl)
  have gLo := He.int_ok X G (c.fact (f := .int "LONGEST" 40) 57 rfl)
  have gSg := He.str_ok X G (c.fact (f := .str "SIGNS" "abcdefghijklmnopqrstuvwxyz0123456789.") 58 rfl)
  have S0 : NetC K (He.ga K "Net") := ⟨He.cls_ok (c.fact 59 rfl), He.noat_ok (c.fact 60 rfl), He.noat_ok (c.fact 61 rfl), He.noat_ok (c.fact 62 rfl)⟩
  have M : Sm mg := ⟨n_isinstance, n_list, n_tuple, n_int, n_bool, n_len, n_all, n_zip⟩
  have Mk0 := He.mkr_ok (c.fact (f := .mkr "Net") 72 rfl)
  have e := hfa.symm.trans gLaw
  cases e
  obtain ⟨oc, od, kV, doc, pm, an, cdv, ct, osl, rfl, lk, hcd⟩ := id FLaw.ex
  refine ⟨PySem.W.fnOf "law" "law" (defArgs sLaw) (defBody sLaw) (defScope sLaw) .none kV doc pm an cdv ct, fun s v => .of_eq rfl, fun base _ _ hTB => ?_⟩
  have EBadArc : ErrF P w K mg base "BadArc" (He.ga K "BadArc") "name" := err_at cc X G 73 50 (q := "BadArc.__init__") (st := sIBadArc) rfl rfl (by simp [erT]) ⟨rfl, rfl, rfl, by decide +kernel, rfl, by decide +kernel, by decide +kernel⟩ rfl (by first | exact .inl rfl | exact .inr (.inl rfl)) (by first | exact .inl rfl | exact .inr (.inl rfl)) (by decide +kernel) (by decide +kernel) (fun _ _ _ _ _ _ us hl => match us, hl with | [_, _], _ => rfl)
  have EBadKnown : ErrF P w K mg base "BadKnown" (He.ga K "BadKnown") "index" := err_at cc X G 74 51 (q := "BadKnown.__init__") (st := sIBadKnown) rfl rfl (by simp [erT]) ⟨rfl, rfl, rfl, by decide +kernel, rfl, by decide +kernel, by decide +kernel⟩ rfl (by first | exact .inl rfl | exact .inr (.inl rfl)) (by first | exact .inl rfl | exact .inr (.inl rfl)) (by decide +kernel) (by decide +kernel) (fun _ _ _ _ _ _ us hl => match us, hl with | [_, _], _ => rfl)
  have ENoQuestion : ErrF P w K mg base "NoQuestion" (He.ga K "NoQuestion") "name" := err_at cc X G 75 52 (q := "NoQuestion.__init__") (st := sINoQuestion) rfl rfl (by simp [erT]) ⟨rfl, rfl, rfl, by decide +kernel, rfl, by decide +kernel, by decide +kernel⟩ rfl (by first | exact .inl rfl | exact .inr (.inl rfl)) (by first | exact .inl rfl | exact .inr (.inl rfl)) (by decide +kernel) (by decide +kernel) (fun _ _ _ _ _ _ us hl => match us, hl with | [_, _], _ => rfl)
  have bStart := FStart.binds (ps := ["script"]) fun _ _ _ _ _ _ us hl => match us, hl with | [_], _ => rfl
  have bDraw := FDraw.binds (ps := ["stream", "many"]) fun _ _ _ _ _ _ us hl => match us, hl with | [_, _], _ => rfl
  have bPick := FPick.binds (ps := ["stream", "some"]) fun _ _ _ _ _ _ us hl => match us, hl with | [_, _], _ => rfl
  have bMixed := FMixed.binds (ps := ["stream", "some"]) fun _ _ _ _ _ _ us hl => match us, hl with | [_, _], _ => rfl
  have bNamesL := FNamesL.binds (ps := ["stream", "many"]) fun _ _ _ _ _ _ us hl => match us, hl with | [_, _], _ => rfl
  have bArcsL := FArcsL.binds (ps := ["stream", "most"]) fun _ _ _ _ _ _ us hl => match us, hl with | [_, _], _ => rfl
  have bLiveL := FLiveL.binds (ps := ["arcs"]) fun _ _ _ _ _ _ us hl => match us, hl with | [_], _ => rfl
  have bJoinedL := FJoinedL.binds (ps := ["arcs", "names", "first"]) fun _ _ _ _ _ _ us hl => match us, hl with | [_, _, _], _ => rfl
  have bSame := FSame.binds (ps := ["found", "due"]) fun _ _ _ _ _ _ us hl => match us, hl with | [_, _], _ => rfl
  have bCkB := FCkB.binds (ps := ["names", "known", "asked"]) fun _ _ _ _ _ _ us hl => match us, hl with | [_, _, _], _ => rfl
  have bJoined := FJoined.binds (ps := ["arcs", "names", "asked"]) fun _ _ _ _ _ _ us hl => match us, hl with | [_, _, _], _ => rfl
  have bReached := FReached.binds (ps := ["steps", "begin"]) fun _ _ _ _ _ _ us hl => match us, hl with | [_, _], _ => rfl
  have bEither := FEither.binds (ps := ["arcs", "names"]) fun _ _ _ _ _ _ us hl => match us, hl with | [_, _], _ => rfl
  have bFirst := FFirst.binds (ps := ["names", "things"]) fun _ _ _ _ _ _ us hl => match us, hl with | [_, _], _ => rfl
  have bHiding := FHiding.binds (ps := ["net", "known", "asked"]) fun _ _ _ _ _ _ us hl => match us, hl with | [_, _, _], _ => rfl
  have bIsHiding := FIsHiding.binds (ps := ["net", "known", "asked", "thing"]) fun _ _ _ _ _ _ us hl => match us, hl with | [_, _, _, _], _ => rfl
  have bIsOpen := FIsOpen.binds (ps := ["arcs", "live", "known", "asked"]) fun _ _ _ _ _ _ us hl => match us, hl with | [_, _, _, _], _ => rfl
  have bFewest := FFewest.binds (ps := ["arcs", "live", "known", "asked"]) fun _ _ _ _ _ _ us hl => match us, hl with | [_, _, _, _], _ => rfl
  have bIsHidL := FIsHidL.binds (ps := ["arcs", "live", "known", "asked", "x"]) fun _ _ _ _ _ _ us hl => match us, hl with | [_, _, _, _, _], _ => rfl
  have bHidsL := FHidsL.binds (ps := ["stream", "arcs", "known", "given"]) fun _ _ _ _ _ _ us hl => match us, hl with | [_, _, _, _], _ => rfl
  have bLive := FLive.binds (ps := ["self"]) fun _ _ _ _ _ _ us hl => match us, hl with | [_], _ => rfl
  have bQs := FQs.binds (ps := ["self"]) fun _ _ _ _ _ _ us hl => match us, hl with | [_], _ => rfl
  have bArcs := FArcs.binds (ps := ["self"]) fun _ _ _ _ _ _ us hl => match us, hl with | [_], _ => rfl
  have bNodes := FNodes.binds (ps := ["self"]) fun _ _ _ _ _ _ us hl => match us, hl with | [_], _ => rfl
  have bIsLive := FIsLive.binds (ps := ["self", "name"]) fun _ _ _ _ _ _ us hl => match us, hl with | [_, _], _ => rfl
  have bInit := FInit.binds (ps := ["self", "arcs"]) fun _ _ _ _ _ _ us hl => match us, hl with | [_, _], _ => rfl
  have bIsTold := FIsTold.binds (ps := ["self", "known", "asked"]) fun _ _ _ _ _ _ us hl => match us, hl with | [_, _, _], _ => rfl
  have bIsGiven := FIsGiven.binds (ps := ["self", "known", "asked"]) fun _ _ _ _ _ _ us hl => match us, hl with | [_, _, _], _ => rfl
  have bOthers := FOthers.binds (ps := ["self", "known", "asked"]) fun _ _ _ _ _ _ us hl => match us, hl with | [_, _, _], _ => rfl
  let ca : Str → Addr := fun x => He.ga K x
  have GDr : FnOk P w K mg base CX0 1 _ _ ["stream", "many"] spDraw := ok_draw FDraw n_int
  have GPi : FnOk P w K mg base CX0 2 _ _ ["stream", "some"] (spPick K) := ok_pick FPick FDraw gDraw n_int n_len
  have GNm := ok_names (P := P) (w := w) (base := base) FNamesL FNameL gNameL FPick gPick FDraw gDraw n_int n_len n_range
  have GMi := ok_mixed (P := P) (w := w) (base := base) FMixed FDraw gDraw n_int n_len n_list n_range
  have GNa : FnOk P w K mg base CX0 1 _ _ ["thing"] (spIsNameG K) := ok_isNameG FIsName n_isinstance n_str n_len n_all gLo gSg
  have GPr := ok_pairG (P := P) (w := w) (base := base) FIsPair FIsList gIsList n_isinstance n_list n_tuple n_len
  have GAc := ok_arcG (P := P) (w := w) (base := base) FIsArc FIsPair gIsPair GPr FIsName gIsName GNa
  have GIl := ok_isLive (P := P) (w := w) (base := base) FIsLive S0 FReached gReached FOnward gOnward n_len
  have GIn := ok_nInit (P := P) (w := w) (base := base) FInit S0 FIsName gIsName GNa FIsArc gIsArc GAc FNodesOf gNodesOf mIsLive GIl bIsLive n_isinstance n_dict n_len n_list
  have GAr := ok_arcsL (P := P) (w := w) (base := base) FArcsL FDraw gDraw FPick gPick FNamesL gNamesL GNm n_int n_len n_enumerate
  have GLi := ok_liveL (P := P) (w := w) (base := base) FLiveL FLeads gLeads n_range n_len
  have GJl := ok_joinF (P := P) (w := w) (base := base) FJoinedL FLeads gLeads n_dict n_range n_len
  have GSa := ok_sameF (P := P) (w := w) (base := base) FSame gSame M 2
  have GIi := ok_isIntG (P := P) (w := w) (K := K) (base := base) FIsInt n_isinstance n_int n_bool
  have CH : Chk K mg _ _ _ _ _ _ := { F := ⟨_, FFirst⟩, L := ⟨_, FIsList⟩, O := ⟨_, FIsOne⟩, CK := ⟨_, FCkK⟩, CA := ⟨_, FCkA⟩, CB := ⟨_, FCkB⟩, gF := gFirst, gL := gIsList, gO := gIsOne, gCK := gCkK, gCA := gCkA, gCB := gCkB, nI := n_isinstance, nL := n_list, nT := n_tuple, nS := n_str, nE := n_enumerate }
  have GBo := ok_ckBX (P := P) (w := w) (base := base) CH EBadKnown ENoQuestion FCkB
  have GLv := ok_nLive (P := P) (w := w) (base := base) (mg := mg) FLive S0 n_list
  have GQs := ok_nQs (P := P) (w := w) (base := base) (mg := mg) FQs S0 n_list
  have GAc2 := ok_nArcs (P := P) (w := w) (base := base) (mg := mg) FArcs S0
  have GRe := ok_reachG (P := P) (w := w) (base := base) FReached n_len
  have GEi := ok_eith (P := P) (w := w) (base := base) FEither FOnward gOnward FBack gBack
  have GJo := ok_join (P := P) (w := w) (base := base) FJoined FEither gEither GEi FReached gReached n_len
  have NC : NtC P w K mg base (He.ga K "Net") ca := { S := S0, nL := n_list, live := ⟨_, _, mLive, bLive, GLv⟩, ckB := ⟨_, _, gCkB, FCkB.kp, bCkB, GBo⟩, jo := ⟨_, _, gJoined, FJoined.kp, bJoined, GJo⟩, rc := ⟨_, _, gReached, FReached.kp, bReached, GRe⟩, ei := ⟨_, _, gEither, FEither.kp, bEither, GEi⟩ }
  have GFr := ok_free FFree NC
  have GOt := ok_oth (P := P) (w := w) (base := base) FOthers FFree gFree GFr
  have GGi := ok_giv (P := P) (w := w) (mg := mg) (base := base) FIsGiven S0
  have GTo := ok_told FIsTold NC mIsGiven GGi bIsGiven mOthers GOt bOthers
  have GFb := ok_firstG (P := P) (w := w) (base := base) FFirst FIsList gIsList FIsOne gIsOne n_isinstance n_list n_tuple n_str n_enumerate
  have GNo := ok_nNodes (P := P) (w := w) (base := base) (mg := mg) FNodes S0 n_list
  have GLe := ok_levd FLevelled NC mArcs GAc2 bArcs mNodes GNo bNodes
  have GHi := ok_hid FHiding NC mArcs GAc2 bArcs mNodes GNo bNodes mQs GQs bQs mIsTold GTo bIsTold FLevelled gLevelled GLe
  have GHj := ok_justL (P := P) (w := w) (K := K) (base := base) FHasJust n_isinstance n_dict n_len n_all
  have GAl := ok_areLev FAreLev NC mArcs GAc2 bArcs mNodes GNo bNodes FHasJust gHasJust GHj FIsInt gIsInt GIi FFree gFree GFr n_all n_abs
  have GIh := ok_isHid FIsHiding NC mArcs GAc2 bArcs mQs GQs bQs mIsTold GTo bIsTold FIsPair gIsPair GPr FFirst gFirst GFb FAreLev gAreLev GAl n_len
  have GOp := ok_isOpenL (P := P) (w := w) (K := K) (base := base) FIsOpen FJoinedL gJoinedL GJl
  have GFw := ok_fewL (P := P) (w := w) (K := K) (base := base) FFewest FIsOpen gIsOpen GOp n_len
  have GAv := ok_areLvL (P := P) (w := w) (K := K) (base := base) FAreLevL FNodesL gNodesL n_isinstance n_dict n_len n_all n_int n_bool n_abs
  have GIj := ok_isHidL (P := P) (w := w) (K := K) (base := base) FIsHidL FIsOpen gIsOpen GOp FAreLevL gAreLevL GAv M n_str n_any n_enumerate
  have GHs := ok_hids (P := P) (w := w) (K := K) (base := base) FHidsL FNodesL gNodesL FMixed gMixed GMi FPick gPick GPi M n_dict
  exact ok_law FLaw { S := S0, M := M, nR := n_range, makeN := ⟨_, _, Mk0, gC, bInit, GIn⟩, start := ⟨_, _, gStart, FStart.kp, bStart, ok_start FStart n_list⟩, draw := ⟨_, _, gDraw, FDraw.kp, bDraw, GDr⟩, mixed := ⟨_, _, gMixed, FMixed.kp, bMixed, GMi⟩, arcsL := ⟨_, _, gArcsL, FArcsL.kp, bArcsL, GAr⟩, liveL_ := ⟨_, _, gLiveL, FLiveL.kp, bLiveL, GLi⟩, hid := ⟨_, _, gHiding, FHiding.kp, bHiding, GHi⟩, isHid := ⟨_, _, gIsHiding, FIsHiding.kp, bIsHiding, GIh⟩, open_ := ⟨_, _, gIsOpen, FIsOpen.kp, bIsOpen, GOp⟩, few := ⟨_, _, gFewest, FFewest.kp, bFewest, GFw⟩, isHidL := ⟨_, _, gIsHidL, FIsHidL.kp, bIsHidL, GIj⟩, hids := ⟨_, _, gHidsL, FHidsL.kp, bHidsL, GHs⟩, same := ⟨_, _, gSame, FSame.kp, bSame, GSa⟩ }
end L2.TB
open PySem PySem.W PySem.Calls PyProof.Rows
set_option maxHeartbeats 0 in
theorem PySem.Challenge.cw_twoworlds_k31_whole_hidings_holds : PySem.Challenge.rw_twoworlds_k31_whole_hidings.Holds := by
  w_on; o_law
  refine HandSHeadRun.head_any (r := L2.TB.HdR.R) (q := L2.TB.HdR.qv) (H := L2.TB.hookK) (ob := L2.TB.obT) (M := 16000) (loose := L2.TB.HdR.names)
    (d := HandSHeadRun.topDef L2.TB.HdR.R.prog 60) (kwd := []) L2.TB.obT_eq
    (by kernel_rfl) (fun s => by kernel_rfl) L2.TB.HdR.run (by kernel_rfl) (by kernel_rfl) (by kernel_rfl) (by rfl)
    (by first | assumption | decide +kernel) (by decide +kernel) ⟨rfl, rfl, rfl, rfl, rfl, by decide +kernel⟩ ?hw ?hc
  case hw => w_witness2
  case hc =>
    refine LamX.walk_ofTsE (l := PySem.Challenge.rw_twoworlds_k31_whole_hidings) (n := 63) (k := 7) (x := "script") (CX := fun _ => L2.CX0)
      rfl (by decide) (by kernel_rfl) ⟨rfl, by decide, by decide⟩ ?F (fun _ _ _ _ _ z => z)
    intro w mg fa h Y G hmg0
    obtain ⟨K, KX, c⟩ := Y
    have hmg : mg ("law" : PySem.Str) = some (.ref fa) := by
      have e : (HandSHeadRun.topDef L2.TB.HdR.R.prog 60).name = ("law" : PySem.Str) := by kernel_rfl
      rw [← e]; exact hmg0
    obtain ⟨fd, hb, hF⟩ := L2.TB.facts (P := PySem.Challenge.rw_twoworlds_k31_whole_hidings.prog) (w := w) KX G hmg c
    exact ⟨K, KX, fd, L2.TB.csL K, L2.TB.spLawT K, fun p hp => c.emptyC hp, fun p hp => c.outC hp, fun p hp => PySem.W.codeHd_of_K KX (c.hdC hp), hb, fun H a ns hl _ hT hS => ⟨a, ns, rfl, hS, by omega, fun _ => rfl⟩, hF⟩
