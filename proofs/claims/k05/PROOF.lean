import PyProof.Rows.All
import Wide.All
import OpenK.AllK
import Wide.FinOn
import HandS.ForMost
import HandS.Exc
import HandS.ExcInit
import HandS.IsInst
import HandS.Defaults
import HandS.Wide
import HandS.Conv
import HandS.Dict
import HandS.DictTup
import HandS.DictComp
import HandS.Flow
import HandS.Style
import HandS.TupSets
import HandS.NoneIn
import HandS.ForExc
import HandS.TryMany
import HandS.ExcField
import HandS.WordsExc
import HandS.HeadHook1
import HandS.HeadHook2
import HandS.Head0
import HandS.Head1
import HandS.Head2
import HandS.HeadEnd
import HandS.HeadHook4
import HandS.Nested
import HandS.Lambda
import HandS.Iter
import KE.GoesEnum
import HandS.More
import HandS.ExcOwn
import HandS.Zip
import HandS.Walk
import PyProof.P3Eq
import KE.KeyNested
import PyProof.DictFindH
import PyProof.DictTable
import HandS.TupLen
import KE.GoesZip
import KE.GoesMore
import KE.KEqNest
import HandS.OwnEq
import HandS.HeadWalk
import PySem.Challenge.RW_twoworlds_k05_files_refused
set_option Elab.async false
set_option linter.all false
set_option maxRecDepth 100000
set_option maxHeartbeats 40000000
namespace L2.TB
open PySem PySem.Spec PyProof.Rows
def topS (i : Nat) : Stmt := PySem.Challenge.pw_twoworlds_k05_files_refused.main.body.getD i (.Pass ⟨0, 0, 0, 0⟩)
abbrev sStart : Stmt := topS 65
abbrev sDraw : Stmt := topS 66
abbrev sPick : Stmt := topS 67
abbrev sNames : Stmt := topS 63
abbrev sRows : Stmt := topS 64
abbrev sSame : Stmt := topS 68
abbrev sFrozen : Stmt := topS 69
abbrev sTried : Stmt := topS 70
abbrev sEng : Stmt := topS 71
abbrev sHan : Stmt := topS 72
abbrev sGro : Stmt := topS 73
abbrev sLaw : Stmt := topS 74
abbrev sIsInt : Stmt := topS 17
abbrev sIsCount : Stmt := topS 18
abbrev sIsList : Stmt := topS 19
abbrev sIsName : Stmt := topS 20
abbrev sIsOne : Stmt := topS 21
abbrev sFirst : Stmt := topS 23
abbrev sCkK : Stmt := topS 24
abbrev sCkA : Stmt := topS 25
abbrev sCkB : Stmt := topS 26
abbrev sCkH : Stmt := topS 28
abbrev sAskedF : Stmt := topS 29
abbrev sHasJust : Stmt := topS 22
abbrev sToldBy : Stmt := topS 36
abbrev sIsClosed : Stmt := topS 37
abbrev sNeedless : Stmt := topS 38
abbrev sThinned : Stmt := topS 39
abbrev sLeastF : Stmt := topS 40
abbrev sSecrets : Stmt := topS 41
abbrev sNeeded : Stmt := topS 42
abbrev sIdle : Stmt := topS 43
abbrev sKnows : Stmt := topS 49
abbrev sLeastG : Stmt := topS 50
abbrev sOutsiders : Stmt := topS 51
abbrev sMayTell : Stmt := topS 52
abbrev sIsSafe : Stmt := topS 53
abbrev sCkHA : Stmt := topS 54
abbrev sBadRow : Stmt := topS 61
abbrev sTable : Stmt := topS 59
abbrev sInit : Stmt := inClass sTable 0
abbrev sQs : Stmt := inClass sTable 4
abbrev sRowsM : Stmt := inClass sTable 13
abbrev sDictOf : Stmt := inClass sTable 17
abbrev sIsTold : Stmt := inClass sTable 7
abbrev sPlaces : Stmt := inClass sTable 18
abbrev sParting : Stmt := inClass sTable 21
abbrev sIBadKnown : Stmt := inClass (topS 4) 0
abbrev sINoQuestion : Stmt := inClass (topS 5) 0
abbrev sIBadHands : Stmt := inClass (topS 8) 0
abbrev sIBadGroup : Stmt := inClass (topS 9) 0
abbrev sINoHand : Stmt := inClass (topS 10) 0
abbrev sIBadNumber : Stmt := inClass (topS 11) 0
end L2.TB
/-! several except clauses, each with a name for the exception or without one -/
namespace TA
open PySem PySem.Spec PyProof.Rows L2
abbrev Cl := Value × Option Nat × (Addr → Value → Option Addr → TS)
/-- the ends of a suite whose name goes behind it -/
def goesE (i : Nat) (D : Ends) : Ends := { nx := fun σ H => D.nx (σ.set i none) H, rt := D.rt, bk := fun σ H => D.bk (σ.set i none) H, ct := fun σ H => D.ct (σ.set i none) H }
/-- what a clause does with the exception at a -/
def cl1 (k : Cl) (D : Ends) (a : Addr) (cls : Value) (d : Option Addr) (σ : L2.St) (H : Hp) : Prop := match k.2.1 with
  | none => k.2.2 a cls d D σ H
  | some i => k.2.2 a cls d (goesE i D) (σ.set i (some (.ref a))) H
def wCls (K : PySem.W.Frag) (Wout : WX) (D : Ends) : List Cl → WX
  | [] => Wout
  | k :: r => fun cls d σ H => ∃ b, PySem.W.exmOne K cls k.1 = some b ∧ (b = true → ∀ a, H a = none → cl1 k D a cls d σ H) ∧ (b = false → wCls K Wout D r cls d σ H)
/-- the name of a clause is a slot -/
def NamedAs (X : Cx) : Option Str → Option Nat → Prop
  | none, none => True
  | some n, some i => X.N[i]? = some n ∧ X.env.kindOf n = some .local
  | _, _ => False
inductive Cls (X : Cx) : List ExceptHandler → List Cl → Prop
  | nil : Cls X [] []
  | cons {x : Str} {on : Option Str} {k : Cl} {b₀ : Stmt} {suite : List Stmt} {np q : Pos} {hds : List ExceptHandler} {l : List Cl} (hn : NamedAs X on k.2.1) (hc : Names X x k.1)
      (hsu : ∀ (a : Addr) (oe : Obj) (cls : Value) (d : Option Addr) (pn : List (Addr × Obj)), Zc cls d oe → (∃ vs, oe.data = .fields vs) → PSs (X.suite a ((a, oe) :: pn)) (b₀ :: suite) (k.2.2 a cls d)) (r : Cls X hds l) :
      Cls X (.ExceptHandler (some (.Name x np)) on (b₀ :: suite) q :: hds) (k :: l)
section
variable {X : Cx} {body : List Stmt} {h₀ : ExceptHandler} {hds : List ExceptHandler} {l : List Cl} {pos : Pos} {tb : WX → TS} {Wout : WX}
theorem ps_try_cls (hs : X.stack = X.env :: X.outer) (hf : X.env.frame = some X.env.locals) (hN : X.N.Nodup) (tk : Takes X Wout)
    (hb : ∀ (W : WX) (pn : List (Addr × Obj)) (xe : Value → Shared → Prop), Takes (X.tr pn xe) W → PassesOwn (model X.prog X.w) X.A X.env xe → PSs (X.tr pn xe) body (tb W))
    (hh : Cls X (h₀ :: hds) l) : PS X (.Try body (h₀ :: hds) [] [] pos) (fun D σ H => tb (wCls X.K Wout D l) D σ H) := by
  refine ⟨fun pins s σ H D I reading => ?_⟩
  have okX := I.ok
  have frA : X.A.frames = some (X.env :: X.outer) := by rw [okX.frames, hs]
  refine wpAny_Try_except (wpAny_mono ((hb (wCls X.K Wout D l) (X.pn ++ pins) (fun e s1 => wpAny (model X.prog X.w) X.A (noteFrame e X.env)
    (fun _ s2 => wpAny (model X.prog X.w) X.A (setFlight e none) (fun _ s3 => wpAny (model X.prog X.w) X.A (handleBy e X.env (h₀ :: hds)) (SP X pins D) X.xe s3) X.xe s2) X.xe s1)
    (fun ev s1 caught => ?_) PassesOwn.looking).run [] s σ H D (I.toTry _) reading) (fun fl s1 done => ?_) (fun _ _ z => z))
  · obtain ⟨a, B, sI, pinsT, σ1, H1, cls, d, rfl, JT, nb, up1, sky, fresh, osE, bare, wish⟩ := caught
    have J : Inv X pins σ1 H1 sI := JT.ofTry okX
    show wpAny (model X.prog X.w) X.A (noteFrame (.ref a) X.env) _ _ _
    refine Sky.land Zc.steady frA hf (by rw [← hs]; exact sky) fun hL landed upL => ?_
    have JL : Inv X pins σ1 H1 { s1 with heap := hL } := J.landed nb landed.1 (up1.trans upL) osE bare
    obtain ⟨oL, vL, eL, zL, dL⟩ := landed.there
    have offFrames : a ∉ frs (X.env :: X.outer) := fun hm => by
      obtain ⟨_, o2, e2, no⟩ := landed.2.2.1.mem hm
      rw [eL] at e2
      cases e2
      exact no _ dL
    have offLocals : a ≠ X.env.locals := fun z => offFrames (List.mem_filterMap.mpr ⟨X.env, List.mem_cons_self, by rw [hf, z]⟩)
    have offFs : a ∉ X.fs := fun hm => by
      obtain ⟨e, he, q⟩ := List.mem_filterMap.mp hm
      exact offFrames (List.mem_filterMap.mpr ⟨e, List.mem_cons_of_mem _ he, q⟩)
    have SL := JL.suite eL dL fresh offLocals offFs
    have along : ∀ {hd2 : List ExceptHandler} {l2 : List Cl}, Cls X hd2 l2 → wCls X.K Wout D l2 cls d σ1 H1 → wpAny (model X.prog X.w) X.A (handleBy (.ref a) X.env hd2) (SP X pins D) X.xe { s1 with heap := hL } := by
      intro hd2 l2 hk
      induction hk with
      | nil =>
        intro w
        refine wpAny_handleBy_nil ?_
        obtain ⟨_, _, _, oe, vs, T, oT, _, he, _, hd, h1, _⟩ := id landed
        unfold PySem.passOn
        refine wpAny_bind (wpAny_field he hd h1 ?_)
        rw [if_neg (by simp)]
        have out : wpAny (model X.prog X.w) X.A (setFlight (.ref a) X.env.frame) (fun _ s4 => wpAny (model X.prog X.w) X.A (throw (.ref a) : Sem Flow) (SP X pins D) X.xe s4) X.xe { s1 with heap := hL } := by
          rw [hf]
          exact HandSPX.setFlight_upZ landed fun h4 up4 more => wpAny_throw (tk _ _ ⟨a, B, sI, pins, σ1, H1, cls, d, rfl, J, nb, (up1.trans upL).trans more, .inr (.inr (by rw [hs]; exact up4)), fresh, osE, bare, w⟩)
        first
          | exact wpAny_bind (wpAny_pure (wpAny_bind out))
          | exact wpAny_bind out
      | @cons x on k b₀ suite np q hds3 l3 hn hc hsu r ih =>
        intro w
        obtain ⟨b, isIt, yes, no⟩ := w
        refine wpAny_handleBy_cons (codeAny_handlers_test ?_) (fun z => by cases z)
        have seesClass : PySem.W.Looks (model X.prog X.w) hL (typeOf (.ref a)) cls := fun A Q E s2 kk go => wpAny_typeOf_ref (kk _ _ eL) (by rw [zL.1]; exact go)
        have matched := PySem.W.exm_one (M := model X.prog X.w) JL.kIn seesClass isIt
        have named : ∀ {Q E : Value → Shared → Prop}, Q k.1 { s1 with heap := hL } → wpAny (model X.prog X.w) (X.A.mark (some (.ref a))) (eval (.Name x np) X.env) Q E { s1 with heap := hL } := fun {Q E} go => by
          rcases hc with ⟨g1, g2, g3 | ⟨g3, g4, g5⟩⟩
          · exact ld_glob (X := X.suite a ((a, oL) :: (X.pn ++ pins))) SL g1 g3 go g2
          · exact ld_blt (X := X.suite a ((a, oL) :: (X.pn ++ pins))) SL g1 g3 g4 go g5 g2
        refine named (matched.here ?_)
        cases b with
        | false => exact ih (no rfl)
        | true =>
          obtain ⟨kc, oi, kt⟩ := k
          match on, oi, hn with
          | none, none, _ =>
            refine codeAny_handlers_suite (HandSPX.lands_againZ landed fun h4 l4 up4 => ?_)
            have J4 : Inv X pins σ1 H1 { s1 with heap := h4 } := J.landed nb l4.1 ((up1.trans upL).trans up4) osE bare
            obtain ⟨o4, v4, e4, z4, d4⟩ := l4.there
            have S4 := J4.suite e4 d4 fresh offLocals offFs
            refine wpAny_mono ((hsu a o4 cls d (X.pn ++ pins) z4 ⟨_, d4⟩).run [] _ σ1 H1 D S4 (yes rfl a fresh)) (fun f2 s6 hsp => ?_) (fun _ _ z => False.elim z)
            cases f2 with
            | ret u =>
              obtain ⟨v6, σ6, H6, S6, r6, q6⟩ := hsp
              exact ⟨v6, σ6, H6, S6.unsuite okX, r6, q6⟩
            | next => exact hsp.imp fun σ6 z => z.imp fun H6 z => ⟨z.1.unsuite okX, z.2⟩
            | brk => exact hsp.imp fun σ6 z => z.imp fun H6 z => ⟨z.1.unsuite okX, z.2⟩
            | cont => exact hsp.imp fun σ6 z => z.imp fun H6 z => ⟨z.1.unsuite okX, z.2⟩
          | some n, some i, hn =>
            refine codeAny_handlers_suite_as (HandSPX.lands_againZ landed fun h4 l4 up4 => ?_)
            have J4 : Inv X pins σ1 H1 { s1 with heap := h4 } := J.landed nb l4.1 ((up1.trans upL).trans up4) osE bare
            obtain ⟨o4, v4, e4, z4, d4⟩ := l4.there
            have S4 := J4.suite e4 d4 fresh offLocals offFs
            refine store_ok (X := X.suite a ((a, o4) :: (X.pn ++ pins))) (v := .ref a) S4 hN hn.1 (.inl hn.2) rfl (fun s5 S5 => ?_) (.inr hn.2)
            refine wpAny_mono ((hsu a o4 cls d (X.pn ++ pins) z4 ⟨_, d4⟩).run [] s5 _ H1 _ S5 (yes rfl a fresh)) (fun f2 s6 hsp => ?_) (fun _ _ z => False.elim z)
            have gone : ∀ {σ6 : L2.St} {H6 : Hp} {Q : Shared → Prop}, Inv (X.suite a ((a, o4) :: (X.pn ++ pins))) [] σ6 H6 s6 → (∀ s7, Inv X pins (σ6.set i none) H6 s7 → Q s7) →
                wpAny (model X.prog X.w) X.A (do bindName X.env n .none; unbindBehindTheSuite X.env n q) (fun _ s7 => Q s7) X.xe s6 := fun S6 go => gone_ok (S6.unsuite okX) hN hn.1 hn.2 go
            cases f2 with
            | ret u =>
              obtain ⟨v6, σ6, H6, S6, r6, q6⟩ := hsp
              exact gone S6 fun _ J7 => ⟨v6, _, H6, J7, r6, q6⟩
            | next => obtain ⟨σ6, H6, S6, q6⟩ := hsp; exact gone S6 fun _ J7 => ⟨_, H6, J7, q6⟩
            | brk => obtain ⟨σ6, H6, S6, q6⟩ := hsp; exact gone S6 fun _ J7 => ⟨_, H6, J7, q6⟩
            | cont => obtain ⟨σ6, H6, S6, q6⟩ := hsp; exact gone S6 fun _ J7 => ⟨_, H6, J7, q6⟩
    exact along hh wish
  · cases fl with
    | ret u =>
      obtain ⟨v, σ1, H1, J1, r, q⟩ := done
      exact ⟨v, σ1, H1, J1.ofTry okX, r, q⟩
    | next =>
      obtain ⟨σ1, H1, J1, q⟩ := done
      exact wpAny_execs_nil ⟨σ1, H1, J1.ofTry okX, q⟩
    | brk => exact done.imp fun σ1 z => z.imp fun H1 z => ⟨z.1.ofTry okX, z.2⟩
    | cont => exact done.imp fun σ1 z => z.imp fun H1 z => ⟨z.1.ofTry okX, z.2⟩
end
end TA
/-! classes of errors with an `__init__` of one parameter: what the top's end must say, how such an error is raised -/
namespace L2.TB
open PySem PySem.Spec PyProof.Rows
/-- the class at C: an error over ValueError whose own bases are classes -/
def ownB (K : PySem.W.Frag) (C : Addr) : Bool := match K.lookup C with
  | some ⟨.type "type", _, .cls cd, sl⟩ => (match cd.mro, sl.toList with
    | .ref C' :: bm, [_, _, _, _, some (.builtin n), _] => C' == C && (n == "ValueError.__new__" && (!cd.hasDel && (cd.hasDict && PySem.HandSPX.refsVE bm)))
    | _, _ => false)
  | _ => false
theorem ownB_ok {K : PySem.W.Frag} {C : Addr} (h : ownB K C = true) :
    ∃ nm q N bs bm sn sub ab col dd k0 k1 k2 k3 k5, K.lookup C = some (excClassObj nm q C N bs bm true sn sub ab col dd k0 k1 k2 k3 k5 "ValueError.__new__") ∧ PySem.HandSPX.refsVE bm = true := by
  unfold ownB at h
  split at h
  · rename_i dd cd sl lk
    split at h
    · rename_i C' bm k0 k1 k2 k3 n k5 em es
      simp only [Bool.and_eq_true, beq_iff_eq, Bool.not_eq_true'] at h
      obtain ⟨rfl, rfl, hd, hh, hr⟩ := h
      obtain ⟨nm, bs, mro, ns, qn, hdc, sn, sub, ab, col, del⟩ := cd
      dsimp only at em hd hh
      subst em hd hh
      have e : sl = #[k0, k1, k2, k3, some (.builtin "ValueError.__new__"), k5] := by
        obtain ⟨l⟩ := sl
        simp only at es
        rw [es]
      subst e
      exact ⟨nm, qn, ns, bs, bm, sn, sub, ab, col, dd, k0, k1, k2, k3, k5, lk, hr⟩
    · cases h
  · cases h
def errB (K : PySem.W.Frag) (x f : Str) : Bool := ownB K (He.ga K x) &&
  (He.eqO (PySem.W.findIn K (.ref (He.ga K x)) "__setattr__") (some (some (.builtin "object.__setattr__"))) &&
  (decide (PySem.W.subIn K (.ref (He.ga K x)) (.type "BaseException") = some true) && (decide (PySem.W.typeIn K (.ref (He.ga K x)) = some (.type "type")) && (PySem.W.keepIn K (.ref (He.ga K x)) &&
  (He.eqO (PySem.W.findIn K (.ref (He.ga K x)) f) (some none) && (He.eqO (PySem.W.findIn K (.ref (He.ga K x)) "__init__") (some (some (.ref (He.ma K (He.ga K x) "__init__")))) &&
  (decide (PySem.W.typeIn K (.ref (He.ma K (He.ga K x) "__init__")) = some (.type "function")) && xfB K (He.ga K x))))))))
/-- a class of errors at C, its `__init__` at fI, its one field fld -/
structure ErrC (K : PySem.W.Frag) (C fI : Addr) (fld : Str) : Prop where
  o : OexC K C
  no : PySem.W.findIn K (.ref C) fld = some none
  ini : PySem.W.findIn K (.ref C) "__init__" = some (some (.ref fI))
  fn : PySem.W.typeIn K (.ref fI) = some (.type "function")
  xf : XfC K C
theorem errB_ok {K : PySem.W.Frag} {x f : Str} (h : errB K x f = true) : ErrC K (He.ga K x) (He.ma K (He.ga K x) "__init__") f := by
  obtain ⟨h1, h⟩ := He.ba h
  obtain ⟨h2, h⟩ := He.ba h
  obtain ⟨h3, h⟩ := He.ba h
  obtain ⟨h4, h⟩ := He.ba h
  obtain ⟨h5, h⟩ := He.ba h
  obtain ⟨h6, h⟩ := He.ba h
  obtain ⟨h7, h⟩ := He.ba h
  obtain ⟨h8, h9⟩ := He.ba h
  exact ⟨⟨ownB_ok h1, He.eqO_ok h2, of_decide_eq_true h3, of_decide_eq_true h4, h5⟩, He.eqO_ok h6, He.eqO_ok h7, of_decide_eq_true h8, xfB_ok h9⟩
/-- self.fld = it -/
def spErr (K : PySem.W.Frag) (fld : Str) : Sp := fun vs H Q _ => ∃ (a C : Addr) (v : V), vs = [.ref a, v] ∧ OexC K C ∧ PySem.W.findIn K (.ref C) fld = some none ∧ H a = some (exo a C none) ∧
  ∀ dx, H dx = none → dx ≠ a → Q .non (upd (upd H dx (exd dx [(fld, v)])) a (exo a C (some dx)))
section
variable {P : Program} {w : World} {K : PySem.W.Frag} {mg : Str → Option Value} {base : Heap} {f : Addr} {fd : FuncData}
theorem ok_errInit {q y fld : Str} {st : Stmt} {p0 p1 p2 p3 : Pos} (F : Fun K "__init__" q st f fd) (S : FnScope ["self", y] ["self", y] (defScope st)) (hb : defBody st = [.Assign [.Attribute (.Name "self" p0) fld p1] (.Name y p2) p3])
    (hv0 : Vis (defScope st) "self") (hv1 : Vis (defScope st) y) (hdy : (y == ("__debug__" : Str)) = false) (hcy : (y == ("__classdict__" : Str)) = false) : FnOk P w K mg base CX0 1 f fd ["self", y] (spErr K fld) := by
  refine F.ok S (fun vs H Q E h => by obtain ⟨a, C, v, e, _⟩ := h; rw [e]; rfl) fun cdv A outer s H vs Q E hr hsp => ?_
  obtain ⟨a, C, v, rfl, T, no, ha, hq⟩ := hsp
  rw [hb]
  refine ⟨_, pss_one (ps_ost (pe_var (i := 0) rfl hv0 (by decide) (by decide)) (pe_var (i := 1) rfl hv1 hdy hcy) rfl), ?_⟩
  exact ⟨_, rfl, _, rfl, a, C, rfl, T, no, .inl ⟨ha, hq⟩⟩
end
/-- x(e), to be raised -/
theorem pmk_err {X : Cx} {x fld : Str} {C fI : Addr} {fd : FuncData} {y : Str} {e : Expr} {te : TE} {p pos : Pos} (E : ErrC X.K C fI fld) (F : FnOk X.prog X.w X.K X.mg X.base CX0 1 fI fd ["self", y] (spErr X.K fld)) (hb : Binds X.K fd ["self", y] [])
    (hr : Room 2 X.A) (hg : Gl X x) (hm : X.mg x = some (.ref C)) (he : PE X e te) (hdb : (x == ("__debug__" : Str)) = false := by decide) (hs : starEach [e] X.env = (false, eval e X.env) :: starEach [] X.env := by rfl) :
    PMk X (.Call (.Name x p) [e] [] pos) (tMkO C (spErr X.K fld) [] (tCons te tNil)) := pmk_oex (x := x) (es := []) (ta := tCons te tNil) (ds := []) (dvs := []) E.o E.ini E.fn F hr hb .nil pass0 hg hm (pa_cons he pa_nil (hs := hs)) hdb hs rfl
/-- what must hold where x(v) flies: d is its dict -/
theorem mk_rs {K : PySem.W.Frag} {fld : Str} {C fI : Addr} {v : V} {H1 : Hp} {Q : XK} (E : ErrC K C fI fld) (h : ∀ d, H1 d = none → Q (.ref C) (some d) (upd H1 d (.xd [(fld, v)]))) :
    [v].length ≤ 1000 ∧ ∀ a, H1 a = none → spErr K fld (.ref a :: ([v] ++ [])) (upd H1 a (exo a C none))
      (fun v H2 => v = .non ∧ ∃ (d : Addr) (fs : List (Str × V)), H2 a = some (exo a C (some d)) ∧ H2 d = some (exd d fs) ∧ H1 d = none ∧ Q (.ref C) (some d) (upd (del H2 a) d (.xd fs))) (fun _ _ _ => False) := by
  refine ⟨by show 1 ≤ 1000; omega, fun a ha => ⟨a, C, v, rfl, E.o, E.no, upd_same, fun dx hdx ne => ⟨rfl, dx, _, upd_same, by rw [upd_ne ne, upd_same], ?_, ?_⟩⟩⟩
  · rw [upd_ne ne] at hdx; exact hdx
  · have n1 : H1 dx = none := by rw [upd_ne ne] at hdx; exact hdx
    have e : upd (del (upd (upd (upd H1 a (exo a C none)) dx (exd dx [(fld, v)])) a (exo a C (some dx))) a) dx (.xd [(fld, v)]) = upd H1 dx (.xd [(fld, v)]) := by
      funext b
      by_cases h1 : b = dx
      · subst h1; rw [upd_same, upd_same]
      · rw [upd_ne h1, upd_ne h1]
        by_cases h2 : b = a
        · subst h2; rw [del_same, ha]
        · rw [del_ne h2, upd_ne h2, upd_ne h1, upd_ne h2]
    rw [e]
    exact h dx n1
/-- an error of the class at C flies from here, v in its field -/
def Flies (C : Addr) (fld : Str) (v : V) (H : Hp) (E : XK) : Prop := ∀ d H', Same H H' → H d = none → H' d = some (.xd [(fld, v)]) → E (.ref C) (some d) H'
theorem Flies.same {C : Addr} {fld : Str} {v : V} {H H' : Hp} {E : XK} (h : Flies C fld v H E) (s : Same H H') : Flies C fld v H' E := fun d H2 s2 n e => h d H2 (s.trans s2) (by
  cases q : H d with
  | none => rfl
  | some o => rw [s _ _ q] at n; cases n) e
theorem Flies.mk {K : PySem.W.Frag} {fld : Str} {C fI : Addr} {v : V} {H1 : Hp} {Q : XK} (E : ErrC K C fI fld) (h : Flies C fld v H1 Q) :
    [v].length ≤ 1000 ∧ ∀ a, H1 a = none → spErr K fld (.ref a :: ([v] ++ [])) (upd H1 a (exo a C none))
      (fun v H2 => v = .non ∧ ∃ (d : Addr) (fs : List (Str × V)), H2 a = some (exo a C (some d)) ∧ H2 d = some (exd d fs) ∧ H1 d = none ∧ Q (.ref C) (some d) (upd (del H2 a) d (.xd fs))) (fun _ _ _ => False) :=
  mk_rs E fun d n => h d _ (fun b o e => by rw [upd_ne (ne_of_none e n)]; exact e) n upd_same
end L2.TB
namespace L2.TB
open PySem PySem.Spec PyProof.Rows
/-! ### what the top leaves, by addresses -/
def asK : List Nat := ([3, 6, 4, 21, 31, 51, 70, 89, 108, 127, 146, 165, 184, 203, 222, 234, 243, 250, 257, 262, 269, 274, 281, 288, 295, 302, 307, 314, 319, 324, 329, 334, 339, 344, 351, 356, 363, 369, 375, 381] : List Nat) ++
  ([387, 392, 397, 450, 404, 411, 416, 421, 426, 431, 438, 443, 597, 606, 611, 616, 621, 628, 635, 642, 647, 652, 659, 666, 673, 680, 687, 20, 30, 50, 69, 88, 107, 126, 145, 164, 183, 202, 221, 233] : List Nat) ++
  ([242, 249, 256, 261, 268, 273, 280, 287, 294, 301, 306, 313, 318, 323, 328, 333, 338, 343, 350, 355, 362, 368, 364, 374, 370, 380, 376, 386, 382, 391, 396, 449, 403, 410, 415, 420, 425, 430, 437, 442] : List Nat) ++
  ([596, 605, 610, 615, 620, 627, 634, 641, 646, 651, 658, 665, 672, 679, 686, 15, 16, 17, 18, 19, 29, 32, 48, 49, 67, 68, 86, 87, 105, 106, 124, 125, 143, 144, 162, 163, 181, 182, 200, 201] : List Nat) ++
  ([219, 220, 232, 237, 238, 239, 240, 241, 244, 245, 246, 247, 248, 251, 252, 253, 254, 255, 258, 259, 260, 263, 264, 265, 266, 267, 270, 271, 272, 275, 276, 277, 278, 279, 282, 283, 284, 285, 286, 289] : List Nat) ++
  ([290, 291, 292, 293, 296, 297, 298, 299, 300, 303, 304, 305, 308, 309, 310, 311, 312, 315, 316, 317, 320, 321, 322, 325, 326, 327, 330, 331, 332, 335, 336, 337, 340, 341, 342, 345, 346, 347, 348, 349] : List Nat) ++
  ([352, 353, 354, 357, 358, 359, 360, 361, 365, 366, 367, 371, 372, 373, 377, 378, 379, 383, 384, 385, 388, 389, 390, 393, 394, 395, 444, 445, 446, 447, 448, 398, 399, 400, 401, 402, 405, 406, 407, 408] : List Nat) ++
  ([409, 412, 413, 414, 417, 418, 419, 422, 423, 424, 427, 428, 429, 432, 433, 434, 435, 436, 439, 440, 441, 462, 469, 476, 483, 490, 497, 502, 509, 516, 521, 526, 533, 540, 545, 550, 557, 564, 569, 574] : List Nat) ++
  ([579, 584, 589, 594, 595, 598, 599, 602, 603, 604, 607, 608, 609, 612, 613, 614, 617, 618, 619, 622, 623, 624, 625, 626, 629, 630, 631, 632, 633, 636, 637, 638, 639, 640, 643, 644, 645, 648, 649, 650] : List Nat) ++
  ([653, 654, 655, 656, 657, 660, 661, 662, 663, 664, 667, 668, 669, 670, 671, 674, 675, 676, 677, 678, 681, 682, 683, 684, 685, 47, 66, 85, 104, 123, 142, 161, 180, 199, 218, 461, 468, 475, 482, 489] : List Nat) ++
  ([496, 501, 508, 515, 520, 525, 532, 539, 544, 549, 556, 563, 568, 573, 578, 583, 588, 593, 42, 43, 44, 45, 46, 61, 62, 63, 64, 65, 80, 81, 82, 83, 84, 99, 100, 101, 102, 103, 118, 119] : List Nat) ++
  ([120, 121, 122, 137, 138, 139, 140, 141, 156, 157, 158, 159, 160, 175, 176, 177, 178, 179, 194, 195, 196, 197, 198, 213, 214, 215, 216, 217, 458, 459, 460, 463, 464, 465, 466, 467, 470, 471, 472, 473] : List Nat) ++
  ([474, 477, 478, 479, 480, 481, 484, 485, 486, 487, 488, 491, 492, 493, 494, 495, 498, 499, 500, 503, 504, 505, 506, 507, 510, 511, 512, 513, 514, 517, 518, 519, 522, 523, 524, 527, 528, 529, 530, 531] : List Nat) ++
  ([534, 535, 536, 537, 538, 541, 542, 543, 546, 547, 548, 551, 552, 553, 554, 555, 558, 559, 560, 561, 562, 565, 566, 567, 570, 571, 572, 575, 576, 577, 580, 581, 582, 585, 586, 587, 590, 591, 592] : List Nat)
def dd (p : Str × Option Str) (x q : Str) (st : Stmt) (dv : List He.Dv) : He.DefD := { at_ := p, name := x, qual := q, params := defArgs st, body := defBody st, scope := defScope st, dfl := dv }
def fnT : List He.DefD := ([dd ("_law_start", none) "_law_start" "_law_start" sStart [], dd ("_law_draw", none) "_law_draw" "_law_draw" sDraw [], dd ("_law_pick", none) "_law_pick" "_law_pick" sPick [], dd ("_law_t_names", none) "_law_t_names" "_law_t_names" sNames [], dd ("_law_t_rows", none) "_law_t_rows" "_law_t_rows" sRows [], dd ("_law_same", none) "_law_same" "_law_same" sSame [], dd ("_law_frozen", none) "_law_frozen" "_law_frozen" sFrozen [], dd ("_law_tried", none) "_law_tried" "_law_tried" sTried []] : List He.DefD) ++
  ([dd ("_law_engine_refused", none) "_law_engine_refused" "_law_engine_refused" sEng [], dd ("_law_hands_refused", none) "_law_hands_refused" "_law_hands_refused" sHan [], dd ("_law_groups_refused", none) "_law_groups_refused" "_law_groups_refused" sGro [], dd ("law", none) "law" "law" sLaw [], dd ("is_integer", none) "is_integer" "is_integer" sIsInt [], dd ("is_count", none) "is_count" "is_count" sIsCount [], dd ("is_list", none) "is_list" "is_list" sIsList [], dd ("is_name", none) "is_name" "is_name" sIsName []] : List He.DefD) ++
  ([dd ("is_one_of", none) "is_one_of" "is_one_of" sIsOne [], dd ("first_bad", none) "first_bad" "first_bad" sFirst [], dd ("check_known", none) "check_known" "check_known" sCkK [], dd ("check_asked", none) "check_asked" "check_asked" sCkA [], dd ("check_both", none) "check_both" "check_both" sCkB [], dd ("check_hands", none) "check_hands" "check_hands" sCkH [], dd ("asked_files", none) "asked_files" "asked_files" sAskedF [], dd ("has_just", none) "has_just" "has_just" sHasJust []] : List He.DefD) ++
  ([dd ("told_by", none) "told_by" "told_by" sToldBy [], dd ("is_closed", none) "is_closed" "is_closed" sIsClosed [], dd ("needless", none) "needless" "needless" sNeedless [], dd ("thinned", none) "thinned" "thinned" sThinned [], dd ("least_files", none) "least_files" "least_files" sLeastF [.non], dd ("secrets", none) "secrets" "secrets" sSecrets [.non], dd ("needed", none) "needed" "needed" sNeeded [.non], dd ("idle", none) "idle" "idle" sIdle [.non]] : List He.DefD) ++
  ([dd ("knows", none) "knows" "knows" sKnows [], dd ("least_groups", none) "least_groups" "least_groups" sLeastG [], dd ("outsiders", none) "outsiders" "outsiders" sOutsiders [], dd ("may_tell", none) "may_tell" "may_tell" sMayTell [], dd ("is_safe", none) "is_safe" "is_safe" sIsSafe [], dd ("_check_both", none) "_check_both" "_check_both" sCkHA [], dd ("_first_bad_row", none) "_first_bad_row" "_first_bad_row" sBadRow [], dd ("Table", some "__init__") "__init__" "Table.__init__" sInit []] : List He.DefD) ++
  ([dd ("Table", some "questions") "questions" "Table.questions" sQs [], dd ("Table", some "rows") "rows" "Table.rows" sRowsM [], dd ("Table", some "_dict_of") "_dict_of" "Table._dict_of" sDictOf [], dd ("Table", some "is_told") "is_told" "Table.is_told" sIsTold [], dd ("Table", some "_places") "_places" "Table._places" sPlaces [], dd ("Table", some "_parting_rows") "_parting_rows" "Table._parting_rows" sParting [], dd ("BadKnown", some "__init__") "__init__" "BadKnown.__init__" sIBadKnown [], dd ("NoQuestion", some "__init__") "__init__" "NoQuestion.__init__" sINoQuestion []] : List He.DefD) ++
  ([dd ("BadHands", some "__init__") "__init__" "BadHands.__init__" sIBadHands [], dd ("BadGroup", some "__init__") "__init__" "BadGroup.__init__" sIBadGroup [], dd ("NoHand", some "__init__") "__init__" "NoHand.__init__" sINoHand [], dd ("BadNumber", some "__init__") "__init__" "BadNumber.__init__" sIBadNumber []] : List He.DefD)
def faT : List He.Fa := ([.glo "_law_start", .glo "_law_draw", .glo "_law_pick", .glo "_law_t_names", .glo "_law_t_rows", .glo "_law_same", .glo "_law_frozen", .glo "_law_tried", .glo "_law_engine_refused", .glo "_law_hands_refused", .glo "_law_groups_refused", .glo "law", .glo "is_integer", .glo "is_count", .glo "is_list", .glo "is_name"] : List He.Fa) ++
  ([.glo "is_one_of", .glo "first_bad", .glo "check_known", .glo "check_asked", .glo "check_both", .glo "check_hands", .glo "asked_files", .glo "has_just", .glo "told_by", .glo "is_closed", .glo "needless", .glo "thinned", .glo "least_files", .glo "secrets", .glo "needed", .glo "idle"] : List He.Fa) ++
  ([.glo "knows", .glo "least_groups", .glo "outsiders", .glo "may_tell", .glo "is_safe", .glo "_check_both", .glo "_first_bad_row", .glo "Table", .free "list", .free "len", .free "int", .free "range", .free "dict", .free "tuple", .free "str", .free "bool"] : List He.Fa) ++
  ([.free "isinstance", .free "all", .free "enumerate", .free "zip", .int "LONGEST" 40, .str "SIGNS" "abcdefghijklmnopqrstuvwxyz0123456789.", .cls "Table", .noat "Table" "_questions", .noat "Table" "_rows", .meth "Table" "questions", .meth "Table" "rows", .meth "Table" "_dict_of", .meth "Table" "is_told", .meth "Table" "_places", .meth "Table" "_parting_rows", .meth "Table" "__init__"] : List He.Fa) ++
  ([.mkr "Table", .glo "BadKnown", .glo "NoQuestion", .glo "BadHands", .glo "BadGroup", .glo "NoHand", .glo "BadNumber", .exm "BadKnown" "BadKnown" true, .exm "BadKnown" "NoQuestion" false, .exm "BadKnown" "BadHands" false, .exm "BadKnown" "BadGroup" false, .exm "BadKnown" "NoHand" false, .exm "BadKnown" "BadNumber" false, .exm "NoQuestion" "BadKnown" false, .exm "NoQuestion" "NoQuestion" true, .exm "NoQuestion" "BadHands" false] : List He.Fa) ++
  ([.exm "NoQuestion" "BadGroup" false, .exm "NoQuestion" "NoHand" false, .exm "NoQuestion" "BadNumber" false, .exm "BadHands" "BadKnown" false, .exm "BadHands" "NoQuestion" false, .exm "BadHands" "BadHands" true, .exm "BadHands" "BadGroup" false, .exm "BadHands" "NoHand" false, .exm "BadHands" "BadNumber" false, .exm "BadGroup" "BadKnown" false, .exm "BadGroup" "NoQuestion" false, .exm "BadGroup" "BadHands" false, .exm "BadGroup" "BadGroup" true, .exm "BadGroup" "NoHand" false, .exm "BadGroup" "BadNumber" false, .exm "NoHand" "BadKnown" false] : List He.Fa) ++
  ([.exm "NoHand" "NoQuestion" false, .exm "NoHand" "BadHands" false, .exm "NoHand" "BadGroup" false, .exm "NoHand" "NoHand" true, .exm "NoHand" "BadNumber" false, .exm "BadNumber" "BadKnown" false, .exm "BadNumber" "NoQuestion" false, .exm "BadNumber" "BadHands" false, .exm "BadNumber" "BadGroup" false, .exm "BadNumber" "NoHand" false, .exm "BadNumber" "BadNumber" true] : List He.Fa)
/-- the defs that hold a def, a lambda -/
def tfT : List He.Defn := [("_law_engine_refused", none), ("_law_hands_refused", none), ("_law_groups_refused", none)]
/-- the classes of errors, each with its field -/
def erT : List (Str × Str) := [("BadKnown", "index"), ("NoQuestion", "name"), ("BadHands", "name"), ("BadGroup", "index"), ("NoHand", "name"), ("BadNumber", "thing")]
def csL (K : PySem.W.Frag) : List (Addr × Addr) := tfT.map (He.cT K)
def diffT (K : PySem.W.Frag) : Bool := decide ((tfT.map fun p => (He.cT K p).2).Nodup) && erT.all fun p => errB K p.1 p.2
def obsK (g : Addr → Option Obj) : He.AlD × Bool := (He.obsD faT fnT (He.frT g asK), diffT (He.frT g asK) && He.tabsB g tfT (He.frT g asK))
structure SaysK (h : Heap) (K : PySem.W.Frag) : Prop where
  d : He.SaysD faT fnT K
  np : (tfT.map fun p => (He.cT K p).2).Nodup
  er : ∀ p ∈ erT, errB K p.1 p.2 = true
  hd : ∀ p ∈ tfT, PySem.W.codeHdIn K (He.cT K p).1 (He.cT K p).2 = true
  out : ∀ p ∈ tfT, K.lookup (He.cT K p).2 = none
  empty : ∀ p ∈ tfT, h.get? (He.cT K p).2 = some { cls := .none, data := .fields #[] }
theorem saysK_of {h : Heap} (e : obsK h.get? = (He.valD fnT, true)) : SaysK h (He.frT h.get? asK) := by
  have e1 : He.obsD faT fnT (He.frT h.get? asK) = He.valD fnT := congrArg (fun z : He.AlD × Bool => z.1) e
  have e2 : (diffT (He.frT h.get? asK) && He.tabsB h.get? tfT (He.frT h.get? asK)) = true := congrArg (fun z : He.AlD × Bool => z.2) e
  obtain ⟨h1, h2⟩ := He.ba e2
  have key : ∀ p ∈ tfT, PySem.W.codeHdIn (He.frT h.get? asK) (He.cT (He.frT h.get? asK) p).1 (He.cT (He.frT h.get? asK) p).2 = true ∧ ∃ o, h.get? (He.cT (He.frT h.get? asK) p).2 = some o ∧ He.emptyTab o = true := fun p hp => by
    obtain ⟨h3, h4⟩ := He.ba (List.all_eq_true.mp h2 p hp)
    refine ⟨h3, ?_⟩
    cases q : h.get? (He.cT (He.frT h.get? asK) p).2 with
    | none => rw [q] at h4; cases h4
    | some o => rw [q] at h4; exact ⟨o, rfl, h4⟩
  obtain ⟨h5, h6⟩ := He.ba h1
  exact ⟨e1, of_decide_eq_true h5, fun p hp => List.all_eq_true.mp h6 p hp, fun p hp => (key p hp).1, (fun p hp => by
    obtain ⟨_, o, q, z⟩ := key p hp
    exact He.frT_none q z), (fun p hp => by
    obtain ⟨_, o, q, z⟩ := key p hp
    rw [q, He.emptyTab_eq z])⟩
section
variable {h : Heap} {K : PySem.W.Frag}
theorem SaysK.hdC (c : SaysK h K) {p : Addr × Addr} (hp : p ∈ csL K) : PySem.W.codeHdIn K p.1 p.2 = true := by
  obtain ⟨q, hq, e⟩ := List.mem_map.mp hp
  rw [← e]
  exact c.hd q hq
theorem SaysK.outC (c : SaysK h K) {p : Addr × Addr} (hp : p ∈ csL K) : K.lookup p.2 = none := by
  obtain ⟨q, hq, e⟩ := List.mem_map.mp hp
  rw [← e]
  exact c.out q hq
theorem SaysK.emptyC (c : SaysK h K) {p : Addr × Addr} (hp : p ∈ csL K) : h.get? p.2 = some { cls := .none, data := .fields #[] } := by
  obtain ⟨q, hq, e⟩ := List.mem_map.mp hp
  rw [← e]
  exact c.empty q hq
end
def hookK : PySem.W.Hook where
  α := He.AlD × Bool
  obs := fun s => obsK s.heap.get?
  val := fun _ => (He.valD fnT, true)
  says := fun _ h => ∃ K : PySem.W.Frag, K.In h ∧ SaysK h K
  of := fun _ _ e => ⟨_, He.frT_in, saysK_of e⟩
  keeps := fun _ _ _ ⟨K, hK, c⟩ k => ⟨K, PySem.W.Frag.In.keeps hK k, ⟨c.d, c.np, c.er, c.hd, c.out, fun p hp => k _ _ (c.empty p hp)⟩⟩
def obT (s : PySem.W.SharedT) : He.AlD × Bool := obsK (HandSHeadRun.getT s)
theorem obT_eq (s : PySem.W.SharedT) : obT s = hookK.obs s.abs := by
  have e : HandSHeadRun.getT s = s.abs.heap.get? := funext fun a => HandSHeadRun.getT_eq s a
  unfold obT
  rw [e] <;> rfl
namespace HdR
open PySem PySem.W PySem.Calls PyProof.Rows
abbrev R : OpenRow := OpenLaw.row PySem.Challenge.rw_twoworlds_k05_files_refused
abbrev qv : Program := view R.prog [74]
def names : List PySem.Str := (["_wall", "WorldError", "BadWorld", "BadKnown", "NoQuestion", "BadPlan", "BadAnswers", "BadHands", "BadGroup", "NoHand", "BadNumber", "BadRow", "UnlikeQuestions", "is_integer", "is_count", "is_list", "is_name", "is_one_of", "has_just", "first_bad", "check_known", "check_asked", "check_both", "check_lacking", "check_hands", "asked_files", "_tellings", "_places", "least_sets", "most_sets"] : List PySem.Str) ++
  (["told_by", "is_closed", "needless", "thinned", "least_files", "secrets", "needed", "idle", "_without", "_chosen", "_teller", "knows", "least_groups", "outsiders", "may_tell", "is_safe", "_check_both", "_together", "_teller", "Table", "_are_integers", "_first_bad_row", "_law_t_names", "_law_t_rows", "_law_start", "_law_draw", "_law_pick", "_law_same", "_law_frozen", "_law_tried"] : List PySem.Str) ++
  (["_law_engine_refused", "_law_hands_refused", "_law_groups_refused", "SIGNS", "LONGEST", "teller_engine", "teller_hands"] : List PySem.Str)
set_option maxHeartbeats 0 in
theorem run (w : World) : HandSHeadRun.RunEq R qv L2.TB.hookK L2.TB.obT 16000 names w := by
  intro os
  kernel_rfl
end HdR
end L2.TB
/-! _law_tried: what was raised, as data -/
namespace L2.TB
open PySem PySem.Spec PyProof.Rows
abbrev NTd : List Str := ["ask", "found", "e"]
theorem scTd : FnScope NTd ["ask"] (defScope sTried) := ⟨rfl, rfl, rfl, by decide +kernel, rfl, by decide +kernel, by decide +kernel⟩
/-- the clauses: a class's name, the class, the word for it, its field -/
structure Clz where
  x : Str
  C : Addr
  tag : Str
  fld : Str
/-- what _law_tried makes of what was raised: the pair is frozen by sp -/
def EchT (cs : List Clz) (sp : Sp) (Q : VK) : XK := fun cls d H => ∃ (c : Clz) (dd : Addr) (fs : List (Str × V)) (v : V), c ∈ cs ∧ cls = .ref c.C ∧ d = some dd ∧ H dd = some (.xd fs) ∧ fs.lookup c.fld = some v ∧
  ∀ t, H t = none → sp [.ref t] (upd H t (.tup [.str c.tag, v])) Q fun _ _ _ => False
/-- nothing but one of cs is raised, and nothing is told -/
def TTr (cs : List Clz) (sp : Sp) : (XK → Hp → VK → Prop) → Hp → VK → Prop := fun tl H Q => ∀ (E : XK) (R : VK), (∀ cls d H', EchT cs sp Q cls d H' → E cls d H') → tl E H R
/-- the classes are told apart -/
structure ClzOk (K : PySem.W.Frag) (mg : Str → Option Value) (cs : List Clz) : Prop where
  g : ∀ c ∈ cs, mg c.x = some (.ref c.C)
  xf : ∀ c ∈ cs, XfC K c.C ∧ PySem.W.findIn K (.ref c.C) c.fld = some none
  exm : ∀ c ∈ cs, ∀ c' ∈ cs, PySem.W.exmOne K (.ref c.C) (.ref c'.C) = some (decide (c.x = c'.x))
  inj : ∀ c ∈ cs, ∀ c' ∈ cs, c.x = c'.x → c = c'
abbrev clOf (tag fld : Str) (C : Addr) : TA.Cl := (.ref C, some 2, fun a cls d => tAsg (tTup (tCons (tC (.str tag)) (tCons (tXf a cls d C fld (tVar 2)) tNil))) (gName 1))
/-- this law's six -/
def clz6 (CK CQ CH CG CN CB : Addr) : List Clz := [⟨"BadKnown", CK, "known", "index"⟩, ⟨"NoQuestion", CQ, "question", "name"⟩, ⟨"BadHands", CH, "hands", "name"⟩, ⟨"BadGroup", CG, "group", "index"⟩, ⟨"NoHand", CN, "hand", "name"⟩, ⟨"BadNumber", CB, "number", "thing"⟩]
theorem cls_fit {X : Cx} {K : PySem.W.Frag} {mg : Str → Option Value} {cs : List Clz} (O : ClzOk K mg cs) {Wout : WX} {D : Ends} {o0 o1 o2 : Option V} {c : Clz} {dd : Addr} {fs : List (Str × V)} {v : V} {H : Hp} (hc : c ∈ cs) (hd : H dd = some (.xd fs)) (hl : fs.lookup c.fld = some v)
    (go : ∀ t, H t = none → D.nx [o0, some (.ref t), none] (upd H t (.tup [.str c.tag, v]))) :
    ∀ l : List Clz, (∀ c' ∈ l, c' ∈ cs) → c ∈ l → TA.wCls K Wout D (l.map fun c => clOf c.tag c.fld c.C) (.ref c.C) (some dd) [o0, o1, o2] H
  | [], _, h => absurd h (by simp)
  | c' :: r, sub, h => by
    refine ⟨decide (c.x = c'.x), O.exm c hc c' (sub c' (by simp)), fun e a na => ?_, fun e => ?_⟩
    · obtain rfl := O.inj c hc c' (sub c' (by simp)) (of_decide_eq_true e)
      refine ⟨_, rfl, rfl, rfl, dd, fs, v, rfl, hd, hl, (by show 2 ≤ sizeLine; decide), fun t nt => ?_⟩
      exact go t nt
    · refine cls_fit (X := X) O hc hd hl go r (fun c2 h2 => sub c2 (List.mem_cons_of_mem _ h2)) ?_
      rcases List.mem_cons.mp h with z | z
      · rw [z] at e; simp at e
      · exact z
abbrev tdCx (X : Cx) (g : Addr) (cdg : Value) (s : Shared) (H : Hp) : Cx := (cxOf C8.CX0 X.prog X.w X.K X.mg X.base NTd "_law_tried" (defScope sTried) g cdg X.A X.stack s H C8.E0).nox
theorem cl_one {X : Cx} {g : Addr} {cdg : Value} {s : Shared} {H : Hp} {x tag fld : Str} {C : Addr} {np p p1 p2 p3 p4 p5 q : Pos} {j kk : Nat} {hds : List ExceptHandler} {l : List TA.Cl} (gx : Gl (tdCx X g cdg s H) x) (hd : (x == ("__debug__" : Str)) = false) (hm : X.mg x = some (.ref C)) (xf : XfC X.K C)
    (no : PySem.W.findIn X.K (.ref C) fld = some none) (r : TA.Cls (tdCx X g cdg s H) hds l) :
    TA.Cls (tdCx X g cdg s H) (.ExceptHandler (some (.Name x np)) (some "e") [.Assign [.Name "found" p] (.Tuple [.Constant (.str tag) j p1, .Attribute (.Name "e" p2) fld p3] kk p4) p5] q :: hds) (clOf tag fld C :: l) :=
  .cons (k := clOf tag fld C) ⟨rfl, rfl⟩ ⟨gx, hd, .inl hm⟩ (fun a oe cls d pn hz hf => pss_one (ps_set (i := 1) scTd.nd rfl (Or.inl rfl) (pe_tup (pa_cons pe_str (pa_cons (pe_xf (X := tdCx X g cdg s H) xf no hz hf (pv 2)) pa_nil))))) r
section
variable {X : Cx} {g fz : Addr} {cdg : Value} {fdz : FuncData} {q : Str} {k : Nat} {sp : Sp}
theorem tried_gives {CK CQ CH CG CN CB : Addr} (O : ClzOk X.K X.mg (clz6 CK CQ CH CG CN CB))
    (hr : Room (k + 1) X.A) (GF : FnOk X.prog X.w X.K X.mg X.base CX0 k fz fdz ["thing"] sp) (FZ : Fun X.K "_law_frozen" "_law_frozen" sFrozen fz fdz) (gF : X.mg "_law_frozen" = some (.ref fz)) :
    LamX.GivesTo X NTd "_law_tried" (defScope sTried) g cdg (defBody sTried) "ask" q (TTr (clz6 CK CQ CH CG CN CB) sp) := by
  intro f c' s H Q tl act hco h
  have nd := scTd.nd
  have m1 : (⟨"BadKnown", CK, "known", "index"⟩ : Clz) ∈ clz6 CK CQ CH CG CN CB := by simp [clz6]
  have m2 : (⟨"NoQuestion", CQ, "question", "name"⟩ : Clz) ∈ clz6 CK CQ CH CG CN CB := by simp [clz6]
  have m3 : (⟨"BadHands", CH, "hands", "name"⟩ : Clz) ∈ clz6 CK CQ CH CG CN CB := by simp [clz6]
  have m4 : (⟨"BadGroup", CG, "group", "index"⟩ : Clz) ∈ clz6 CK CQ CH CG CN CB := by simp [clz6]
  have m5 : (⟨"NoHand", CN, "hand", "name"⟩ : Clz) ∈ clz6 CK CQ CH CG CN CB := by simp [clz6]
  have m6 : (⟨"BadNumber", CB, "number", "thing"⟩ : Clz) ∈ clz6 CK CQ CH CG CN CB := by simp [clz6]
  have b := FZ.binds (ps := ["thing"]) fun _ _ _ _ _ _ us hl => match us, hl with | [_], _ => rfl
  refine ⟨_, pss_cons (ps_set (i := 1) nd rfl (Or.inl rfl) pe_str)
    (pss_cons (TA.ps_try_cls (Wout := fun _ _ _ _ => False) (l := [clOf "known" "index" CK, clOf "question" "name" CQ, clOf "hands" "name" CH, clOf "group" "index" CG, clOf "hand" "name" CN, clOf "number" "thing" CB])
        (tb := fun W D σ H => σ[0]? = some (some (.ref f)) ∧ H c' = some (LamX.CodeO c' q) ∧ tl (fun cls d H' => ∀ σ' : L2.St, σ'.length = 3 → W cls d σ' H') H fun _ H' => D.nx σ H')
        rfl rfl nd LamX.takes0 (fun W pn xe tk _ => ?_)
        (cl_one rfl (by decide) (O.g _ m1) (O.xf _ m1).1 (O.xf _ m1).2 (cl_one rfl (by decide) (O.g _ m2) (O.xf _ m2).1 (O.xf _ m2).2 (cl_one rfl (by decide) (O.g _ m3) (O.xf _ m3).1 (O.xf _ m3).2
          (cl_one rfl (by decide) (O.g _ m4) (O.xf _ m4).1 (O.xf _ m4).2 (cl_one rfl (by decide) (O.g _ m5) (O.xf _ m5).1 (O.xf _ m5).2 (cl_one rfl (by decide) (O.g _ m6) (O.xf _ m6).1 (O.xf _ m6).2 .nil)))))))
    (pss_one (ps_ret (pe_call GF (hr.deeper _) rfl gF FZ.kp b .nil pass0 (pa_cons (pv 1) pa_nil))))), ?_⟩
  · have tk' : Takes ((tdCx X g cdg s H).tr pn xe) (fun cls d σ' H' => σ'.length = 3 → W cls d σ' H') := fun u s' ⟨a, B, sI, pins, σ, H, cls, d, e, I, nb, up, sky, na, os, ag, w⟩ => tk u s' ⟨a, B, sI, pins, σ, H, cls, d, e, I, nb, up, sky, na, os, ag, w I.len⟩
    have hp := fun p1 p2 => act (fun cls d σ' H' => σ'.length = 3 → W cls d σ' H') pn xe (fun cls d H' => ∀ σ' : L2.St, σ'.length = 3 → W cls d σ' H') p1 p2 tk' (fun cls d σ' H' e => e σ')
    exact pss_one (ps_expr (hp _ _))
  · refine ⟨rfl, hco, h _ _ fun cls d H' e σ' l3 => ?_⟩
    obtain ⟨c, dd, fs, v, hc, rfl, rfl, hd, hl, hz⟩ := e
    match σ', l3 with
    | [o0, o1, o2], _ =>
      show TA.wCls X.K (fun _ _ _ _ => False) _ ((clz6 CK CQ CH CG CN CB).map fun c => clOf c.tag c.fld c.C) _ _ _ _
      refine cls_fit (X := X) O hc hd hl (fun t nt => ?_) (clz6 CK CQ CH CG CN CB) (fun _ z => z) hc
      exact ⟨_, rfl, hz t nt⟩
end
end L2.TB
namespace L2.TB
open PySem PySem.Spec PyProof.Rows
/-! ### the spring of draws -/
structure StrmAt (H : Hp) (l ls : Addr) (cs : List Int) (g k m N : Int) : Prop where
  o : H l = some (.lst [.ref ls, .int g, .int k, .int m])
  c : H ls = some (.lst (cs.map V.int))
  ne : ls ≠ l
  g0 : 0 ≤ g
  k0 : 0 ≤ k
  k1 : k ≤ N
  m0 : 0 ≤ m
  m1 : m < 2147483647
  sz : cs.length ≤ 100
def Strm (H : Hp) (l ls : Addr) (N : Int) : Prop := ∃ cs g k m, StrmAt H l ls cs g k m N
/-- all but the spring is as it was -/
def But (l ls : Addr) (H H' : Hp) : Prop := ∀ b o, b ≠ l → b ≠ ls → H b = some o → H' b = some o
theorem But.refl (l ls : Addr) (H : Hp) : But l ls H H := fun _ _ _ _ e => e
theorem But.trans {l ls : Addr} {H H1 H2 : Hp} (a : But l ls H H1) (b : But l ls H1 H2) : But l ls H H2 := fun c o h1 h2 e => b c o h1 h2 (a c o h1 h2 e)
theorem But.of {l ls : Addr} {H H' : Hp} (a : Same H H') : But l ls H H' := fun c o _ _ e => a c o e
theorem But.upd {l ls a : Addr} {H : Hp} {o : HO} (h : a = l ∨ a = ls) : But l ls H (upd H a o) := fun b u h1 h2 e => by
  have ne : b ≠ a := by rcases h with h | h <;> (subst h; assumption)
  rw [upd_ne ne]; exact e
theorem dp_ints {K : PySem.W.Frag} {H : Hp} : ∀ cs : List Int, DpAll K H (cs.map V.int) (cs.map PyData.int)
  | [] => .nil
  | c :: cs => .cons (.int c) (dp_ints cs)
def spDraw : Sp := fun vs H Q _ => ∃ (l ls : Addr) (many N : Int), vs = [.ref l, .int many] ∧ Strm H l ls N ∧ N ≤ 1000000 ∧ 0 < many ∧ many < 1000 ∧
  ∀ H' r, 0 ≤ r → r < many → Strm H' l ls (N + 1) → But l ls H H' → Q (.int r) H'
theorem scDraw : FnScope ["stream", "many", "cell", "digit", "mixed"] ["stream", "many"] (defScope sDraw) := ⟨rfl, rfl, rfl, by decide +kernel, rfl, by decide +kernel, by decide +kernel⟩
theorem pow_nn (a : Int) (h : 0 ≤ a) : 0 ≤ a ^ (Int.toNat 5) := Int.pow_nonneg h
theorem at0 {a b c d : V} : atI [a, b, c, d] 0 = some a := rfl
theorem at1 {a b c d : V} : atI [a, b, c, d] 1 = some b := rfl
theorem at2 {a b c d : V} : atI [a, b, c, d] 2 = some c := rfl
theorem at3 {a b c d : V} : atI [a, b, c, d] 3 = some d := rfl
theorem draw_end {A B C many : Int} (h : 0 < many) : 0 ≤ A % B % many ∧ A % B % many < many :=
  ⟨Int.emod_nonneg _ (by omega), Int.emod_lt_of_pos _ h⟩
section
variable {P : Program} {w : World} {K : PySem.W.Frag} {mg : Str → Option Value} {base : Heap} {f : Addr} {fd : FuncData}
theorem ok_draw (F : Fun K "_law_draw" "_law_draw" sDraw f fd) (gI : mg "int" = none) : FnOk P w K mg base CX0 1 f fd ["stream", "many"] spDraw := by
  refine F.ok scDraw (fun vs H Q E h => by obtain ⟨l, ls, many, N, e, _⟩ := h; rw [e]; rfl) fun cdv A outer s H vs Q E hr hsp => ?_
  obtain ⟨l, ls, many, N, rfl, ⟨cs, g, k, m, S⟩, hN, h0, h1, hq⟩ := hsp
  have nd := scDraw.nd
  have hu := hu_of hr
  have hu64 := hr.units
  obtain ⟨tl, ptl, htl⟩ : ∃ t, PSs (cxOf CX0 P w K mg base ["stream", "many", "cell", "digit", "mixed"] "_law_draw" (defScope sDraw) f cdv A outer s H E).nox ((defBody sDraw).drop 2) t ∧
      ∀ (H1 : Hp) (c : Option V) (cs : List Int) (g k m : Int), StrmAt H1 l ls cs g k m (N + 1) → But l ls H H1 →
        t { nx := fun _ H' => Q .non H', rt := Q } [some (.ref l), some (.int many), c, none, none] H1 := by
    refine ⟨_, pss_cons (ps_if (pt_cmpR op_gt (pe_ix ix_list (pv 0) pe_int (fun _ _ => rfl)) pe_int (nomark _))
      (pss_cons (ps_set (i := 3) nd rfl (Or.inl rfl) (pe_op op_mod (pe_callTy call_int1 rfl gI boot_int (pa_cons (pe_ix ix_list (pv 0) pe_int (fun _ _ => rfl)) pa_nil)) (pv 1)))
      (pss_cons (ps_asg (pe_op op_fdiv (pe_ix ix_list (pv 0) pe_int (fun _ _ => rfl)) (pv 1)) (pg_sub (pv 0) pe_int set_list))
      (pss_one (ps_ret (pv 3)))))
      pss_nil)
    (pss_cons (ps_set (i := 4) nd rfl (Or.inl rfl) (pe_op op_mod (pe_callTy call_int1 rfl gI boot_int (pa_cons (pe_op op_pow (pe_op op_add (pe_op op_add (pe_ix ix_list (pv 0) pe_int (fun _ _ => rfl)) (pe_op op_mul pe_int (pe_ix ix_list (pv 0) pe_int (fun _ _ => rfl)))) pe_int) pe_int) pa_nil)) pe_int))
    (pss_one (ps_ret (pe_op op_mod (pe_op op_mod (pe_callTy call_int1 rfl gI boot_int (pa_cons (pe_op op_pow (pe_op op_add (pe_op op_add (pe_op op_mul (pv 4) pe_int) (pe_op op_mul pe_int (pe_ix ix_list (pv 0) pe_int (fun _ _ => rfl)))) pe_int) pe_int) pa_nil)) pe_int) (pv 1))))), fun H1 c cs g k m S hB => ?_⟩
    refine ⟨_, rfl, _, _, _, _, rfl, rfl, SqL.of S.o, at1, _, _, rfl, rfl, _, rfl, ite2 (fun e => ?_) (fun e => ?_)⟩
    · refine ⟨_, rfl, _, _, _, _, rfl, rfl, SqL.of S.o, at1, .inl ⟨_, rfl, ?_⟩⟩
      refine ⟨_, rfl, _, _, rfl, rfl, h0, ?_⟩
      refine ⟨_, rfl, _, _, _, _, rfl, rfl, SqL.of S.o, at1, _, rfl, _, _, rfl, rfl, ⟨h0, by omega⟩, ?_⟩
      refine ⟨_, rfl, _, _, _, _, rfl, rfl, S.o, rfl, ?_⟩
      refine ⟨_, rfl, ?_⟩
      refine hq _ _ (Int.emod_nonneg _ (by omega)) (Int.emod_lt_of_pos _ h0) ⟨cs, g / many, k, m, ⟨upd_same, ?_, S.ne, Int.ediv_nonneg S.g0 (by omega), S.k0, S.k1, S.m0, S.m1, S.sz⟩⟩ (hB.trans (But.upd (.inl rfl)))
      rw [upd_ne S.ne]; exact S.c
    · have hk := S.k1
      have hk0 := S.k0
      have hm := S.m0
      have hm1 := S.m1
      refine ⟨_, rfl, _, _, _, _, rfl, rfl, SqL.of S.o, at3, _, rfl, _, _, _, _, rfl, rfl, SqL.of S.o, at2, _, _, rfl, rfl, .inl ⟨by decide, by decide⟩, _, _, rfl, rfl, _, _, rfl, rfl, _, _, rfl, rfl, ⟨by decide, by decide, ?_⟩, ?_⟩
      · omega
      refine .inl ⟨_, rfl, _, _, rfl, rfl, (by show (0 : Int) < 2147483629; decide), ?_⟩
      have e1 := Int.emod_nonneg ((m + 7919 * k + 104729) ^ Int.toNat 5) (show (2147483629 : Int) ≠ 0 by decide)
      have e2 := Int.emod_lt_of_pos ((m + 7919 * k + 104729) ^ Int.toNat 5) (show (0 : Int) < 2147483629 by decide)
      generalize (m + 7919 * k + 104729) ^ Int.toNat 5 % 2147483629 = z at e1 e2 ⊢
      refine ⟨_, rfl, _, _, rfl, rfl, .inr ⟨by decide, by decide⟩, _, rfl, _, _, _, _, rfl, rfl, SqL.of S.o, at2, _, _, rfl, rfl, .inl ⟨by decide, by decide⟩, _, _, rfl, rfl, _, _, rfl, rfl, _, _, rfl, rfl, ⟨by decide, by decide, ?_⟩, ?_⟩
      · omega
      refine .inl ⟨_, rfl, _, _, rfl, rfl, (by show (0 : Int) < 1000000007; decide), _, rfl, _, _, rfl, rfl, h0, ?_⟩
      exact hq _ _ (Int.emod_nonneg _ (by omega)) (Int.emod_lt_of_pos _ h0) ⟨cs, g, k, m, S⟩ hB
  refine ⟨_, pss_cons (ps_asg (pe_op op_add (pe_ix ix_list (pv 0) pe_int (fun _ _ => rfl)) pe_int) (pg_sub (pv 0) pe_int set_list))
    (pss_cons (ps_if (PW.pt (pw_and (pt_cmpR op_eq (pe_ix ix_list (pv 0) pe_int (fun _ _ => rfl)) pe_int (nomark _))
        (pw_and1 (pt_cmpR (op_neD hu64) (pe_ix ix_list (pv 0) pe_int (fun _ _ => rfl)) (pe_lst pa_nil) (nomark _)))))
      (pss_cons (ps_set (i := 2) nd rfl (Or.inl rfl) (pe_bm PySem.F.plainAttrs_list PySem.F.slot_list_pop PySem.F.type_list_pop mt_popAt (pe_ix ix_list (pv 0) pe_int (fun _ _ => rfl)) (pa_cons pe_int pa_nil)))
      (pss_cons (ps_asg (pe_op op_mod (pe_callTy call_int1 rfl gI boot_int (pa_cons (pe_op op_add (pe_op op_add (pe_op op_mul (pe_ix ix_list (pv 0) pe_int (fun _ _ => rfl)) pe_int) (pv 2)) pe_int) pa_nil)) pe_int) (pg_sub (pv 0) pe_int set_list))
      (pss_one (ps_asg (pe_ifExp (pt_cmpR op_ge (pv 2) (pe_op op_pow pe_int pe_int) (nomark _)) (pv 2) pe_int) (pg_sub (pv 0) pe_int set_list)))))
      pss_nil) ptl), ?_⟩
  refine ⟨_, rfl, _, _, _, _, rfl, rfl, SqL.of S.o, at2, _, _, rfl, rfl, _, rfl, _, _, _, _, rfl, rfl, S.o, rfl, ?_⟩
  have S1 : StrmAt (upd H l (.lst [.ref ls, .int g, .int (k + 1), .int m])) l ls cs g (k + 1) m (N + 1) :=
    ⟨upd_same, by rw [upd_ne S.ne]; exact S.c, S.ne, S.g0, by have := S.k0; omega, by have := S.k1; omega, S.m0, S.m1, S.sz⟩
  have B1 : But l ls H (upd H l (.lst [.ref ls, .int g, .int (k + 1), .int m])) := But.upd (.inl rfl)
  refine ⟨_, rfl, _, _, _, _, rfl, rfl, SqL.of S1.o, at1, rfl, _, rfl, ite2 (fun e => ?_) (fun e => ?_)⟩
  · refine ⟨_, rfl, _, _, _, _, rfl, rfl, SqL.of S1.o, at0, Nat.zero_le _, fun q nq => ?_⟩
    have ql : q ≠ l := by
      intro z; rw [z, upd_same] at nq; cases nq
    have qs : q ≠ ls := by
      intro z; rw [z, upd_ne S.ne] at nq; rw [S.c] at nq; cases nq
    have S2 : StrmAt (upd (upd H l (.lst [.ref ls, .int g, .int (k + 1), .int m])) q (.lst [])) l ls cs g (k + 1) m (N + 1) :=
      ⟨by rw [upd_ne (Ne.symm ql)]; exact S1.o, by rw [upd_ne (Ne.symm qs)]; exact S1.c, S.ne, S1.g0, S1.k0, S1.k1, S1.m0, S1.m1, S1.sz⟩
    have B2 : But l ls H (upd (upd H l (.lst [.ref ls, .int g, .int (k + 1), .int m])) q (.lst [])) := B1.trans (But.of fun b o eb => by
      rw [upd_ne (ne_of_none eb nq)]; exact eb)
    refine ⟨.list (cs.map .int), .list [], .lst (SqL.of S2.c) (dp_ints cs), .lst (SqL.of upd_same) .nil, PySem.W.shaped_ints cs, by decide, ?_⟩
    cases cs with
    | nil =>
      refine ⟨_, rfl, iteF ?_⟩
      exact htl _ none [] g (k + 1) m S2 B2
    | cons c cs =>
      refine ⟨_, rfl, iteT ?_⟩
      refine ⟨_, rfl, _, _, _, _, rfl, rfl, SqL.of S2.o, at0, .inl ⟨rfl, _, SqL.of S2.c⟩, ?_⟩
      have ix0 : ixN ((c :: cs).map V.int).length 0 = some 0 := by
        simp [ixN]
      refine ⟨ls, _, 0, 0, .int c, rfl, rfl, S2.c, by decide, by decide, (ixN_seq ix0).1, rfl, ?_⟩
      have S3 : StrmAt (upd (upd (upd H l (.lst [.ref ls, .int g, .int (k + 1), .int m])) q (.lst [])) ls (.lst (cs.map V.int))) l ls cs g (k + 1) m (N + 1) :=
        ⟨by rw [upd_ne (Ne.symm S.ne)]; exact S2.o, upd_same, S.ne, S2.g0, S2.k0, S2.k1, S2.m0, S2.m1, by have := S2.sz; simp only [List.length_cons] at this; omega⟩
      have B3 := B2.trans (But.upd (l := l) (ls := ls) (a := ls) (H := upd (upd H l (.lst [.ref ls, .int g, .int (k + 1), .int m])) q (.lst [])) (o := .lst (cs.map V.int)) (.inr rfl))
      have hm0 := S.m0
      have hm1 := S.m1
      refine ⟨_, rfl, _, _, _, _, rfl, rfl, SqL.of S3.o, at3, _, _, rfl, rfl, .inl ⟨by omega, by omega⟩, _, rfl, _, _, rfl, rfl, _, _, rfl, rfl, .inl ⟨_, rfl, _, _, rfl, rfl, (by show (0 : Int) < 2147483647; decide), ?_⟩⟩
      refine ⟨_, rfl, _, _, _, _, rfl, rfl, S3.o, rfl, ?_⟩
      have S4 : StrmAt (upd (upd (upd (upd H l (.lst [.ref ls, .int g, .int (k + 1), .int m])) q (.lst [])) ls (.lst (cs.map V.int))) l (.lst [.ref ls, .int g, .int (k + 1), .int ((m * 8191 + c + 3) % 2147483647)])) l ls cs g (k + 1) ((m * 8191 + c + 3) % 2147483647) (N + 1) :=
        ⟨upd_same, by rw [upd_ne S.ne]; exact S3.c, S.ne, S3.g0, S3.k0, S3.k1, Int.emod_nonneg _ (by decide), Int.emod_lt_of_pos _ (by decide), S3.sz⟩
      have B4 := B3.trans (But.upd (l := l) (ls := ls) (a := l) (o := .lst [.ref ls, .int g, .int (k + 1), .int ((m * 8191 + c + 3) % 2147483647)]) (.inl rfl))
      refine ⟨_, rfl, _, _, rfl, rfl, ⟨by decide, by decide, by decide⟩, _, _, rfl, rfl, _, rfl, ite2 (fun e4 => ?_) (fun e4 => ?_)⟩
      · refine ⟨_, rfl, _, rfl, _, _, _, _, rfl, rfl, S4.o, rfl, ?_⟩
        have hc : (0 : Int) ≤ c := by
          have z := of_decide_eq_true e4
          have z2 : (0 : Int) ≤ 10 ^ (Int.toNat 18) := Int.pow_nonneg (by decide)
          omega
        exact htl _ (some (.int c)) cs c (k + 1) ((m * 8191 + c + 3) % 2147483647)
          ⟨upd_same, by rw [upd_ne S.ne]; exact S4.c, S.ne, hc, S4.k0, S4.k1, S4.m0, S4.m1, S4.sz⟩ (B4.trans (But.upd (.inl rfl)))
      · refine ⟨_, rfl, _, _, _, _, rfl, rfl, S4.o, rfl, ?_⟩
        exact htl _ (some (.int c)) cs 0 (k + 1) ((m * 8191 + c + 3) % 2147483647)
          ⟨upd_same, by rw [upd_ne S.ne]; exact S4.c, S.ne, by decide, S4.k0, S4.k1, S4.m0, S4.m1, S4.sz⟩ (B4.trans (But.upd (.inl rfl)))
  · refine iteF ?_
    exact htl _ none cs g (k + 1) m S1 B1
def spStart (K : PySem.W.Frag) : Sp := fun vs H Q _ => ∃ (a : Addr) (ns : List Int), vs = [.ref a] ∧ SqL K H a (ns.map V.int) ∧ ns.length ≤ 100 ∧
  ∀ H' l ls, H l = none → Same H H' → Strm H' l ls 0 → H ls = none → Q (.ref l) H'
theorem scStart : FnScope ["script"] ["script"] (defScope sStart) := ⟨rfl, rfl, rfl, by decide +kernel, rfl, by decide +kernel, by decide +kernel⟩
theorem ok_start (F : Fun K "_law_start" "_law_start" sStart f fd) (gL : mg "list" = none) : FnOk P w K mg base CX0 1 f fd ["script"] (spStart K) := by
  refine F.ok scStart (fun vs H Q E h => by obtain ⟨a, ns, e, _⟩ := h; rw [e]; rfl) fun cdv A outer s H vs Q E hr hsp => ?_
  obtain ⟨a, ns, rfl, hS, hn, hq⟩ := hsp
  refine ⟨_, pss_one (ps_ret (pe_lst (pa_cons (pe_callTy call_list_of rfl gL (by decide +kernel) (pa_cons (pv 0) pa_nil)) (pa_cons pe_int (pa_cons pe_int (pa_cons pe_int pa_nil)))))), ?_⟩
  refine ⟨_, rfl, _, _, rfl, .inl hS, fun ls hls => ⟨by rw [sizeLine_eq]; show 4 ≤ _; omega, fun l hl => ?_⟩⟩
  have ne : ls ≠ l := by
    intro z; rw [← z, upd_same] at hl; cases hl
  have hl2 : H l = none := by rw [upd_ne (Ne.symm ne)] at hl; exact hl
  exact hq _ l ls hl2 (fun b o e => by rw [upd_ne (ne_of_none e hl2), upd_ne (ne_of_none e hls)]; exact e)
    ⟨ns, 0, 0, 11, ⟨upd_same, by rw [upd_ne ne, upd_same], ne, by decide, by decide, by decide, by decide, by decide, hn⟩⟩ hls
def spPick (K : PySem.W.Frag) : Sp := fun vs H Q _ => ∃ (l ls c : Addr) (xs : List V) (N : Int), vs = [.ref l, .ref c] ∧ Strm H l ls N ∧ N ≤ 1000000 ∧
  c ≠ l ∧ c ≠ ls ∧ H c = some (.lst xs) ∧ 0 < xs.length ∧ xs.length < 1000 ∧
  ∀ H' x, x ∈ xs → Strm H' l ls (N + 1) → But l ls H H' → Q x H'
theorem scPick : FnScope ["stream", "some"] ["stream", "some"] (defScope sPick) := ⟨rfl, rfl, rfl, by decide +kernel, rfl, by decide +kernel, by decide +kernel⟩
theorem ok_pick {fD : Addr} {fdD : FuncData} (F : Fun K "_law_pick" "_law_pick" sPick f fd) (FD : Fun K "_law_draw" "_law_draw" sDraw fD fdD)
    (gD : mg "_law_draw" = some (.ref fD)) (gI : mg "int" = none) (gN : mg "len" = none) : FnOk P w K mg base CX0 2 f fd ["stream", "some"] (spPick K) := by
  have G : FnOk P w K mg base CX0 1 fD fdD ["stream", "many"] spDraw := ok_draw FD gI
  have b := FD.binds (ps := ["stream", "many"]) fun _ _ _ _ _ _ us hl => match us, hl with | [_, _], _ => rfl
  refine F.ok scPick (fun vs H Q E h => by obtain ⟨l, ls, c, xs, N, e, _⟩ := h; rw [e]; rfl) fun cdv A outer s H vs Q E hr hsp => ?_
  obtain ⟨l, ls, c, xs, N, rfl, hS, hN, n1, n2, hc, h0, h1, hq⟩ := hsp
  refine ⟨_, pss_one (ps_ret (pe_ix ix_list (pv 1) (pe_call G hr rfl gD FD.kp b .nil pass0 (pa_cons (pv 0) (pa_cons (pe_callB call_len rfl gN boot_len (pa_cons (pv 1) pa_nil)) pa_nil))) (fun _ _ => rfl))), ?_⟩
  refine ⟨_, rfl, _, rfl, _, rfl, _, xs.length, rfl, .inl ⟨_, SqL.of hc, rfl⟩, ?_⟩
  refine ⟨l, ls, _, N, rfl, hS, hN, by omega, by omega, fun H' r r0 r1 S' B' => ?_⟩
  have hr2 : r.toNat < xs.length := by omega
  refine ⟨_, _, _, xs[r.toNat], rfl, rfl, SqL.of (B' c _ n1 n2 hc), ?_, hq H' _ (List.getElem_mem _) S' B'⟩
  have e : ((r.toNat : Nat) : Int) = r := by omega
  have z := atI_nat (xs := xs) (j := r.toNat) (v := xs[r.toNat]) (by simp)
  rw [e] at z
  exact z
end
end L2.TB
namespace L2.TB
open PySem PySem.Spec PyProof.Rows
theorem same_new {H : Hp} {p : Addr} {o : HO} (n : H p = none) : Same H (upd H p o) := fun c u z => by rw [upd_ne (ne_of_none z n)]; exact z
theorem Strm.same {H H' : Hp} {l ls : Addr} {N : Int} (h : Strm H l ls N) (s : Same H H') : Strm H' l ls N := by
  obtain ⟨cs, g, k, m, S⟩ := h
  exact ⟨cs, g, k, m, s _ _ S.o, s _ _ S.c, S.ne, S.g0, S.k0, S.k1, S.m0, S.m1, S.sz⟩
theorem Strm.some {H : Hp} {l ls : Addr} {N : Int} (h : Strm H l ls N) : (∃ o, H l = some o) ∧ ∃ o, H ls = some o := by
  obtain ⟨cs, g, k, m, S⟩ := h
  exact ⟨⟨_, S.o⟩, ⟨_, S.c⟩⟩
/-- what was not there is not the spring -/
theorem Strm.apart {H H' : Hp} {l ls p : Addr} {N : Int} (h : Strm H l ls N) (s : Same H H') (n : H' p = none) : p ≠ l ∧ p ≠ ls := by
  obtain ⟨⟨o, e⟩, ⟨o', e'⟩⟩ := h.some
  exact ⟨(fun z => by rw [z, s _ _ e] at n; cases n), (fun z => by rw [z, s _ _ e'] at n; cases n)⟩
def spPickS : Sp := fun vs H Q _ => ∃ (l ls : Addr) (x : Str) (N : Int), vs = [.ref l, .str x] ∧ Strm H l ls N ∧ N ≤ 1000000 ∧ 0 < x.cps.size ∧ x.cps.size < 1000 ∧
  ∀ H' c, c ∈ x.cps.toList → Strm H' l ls (N + 1) → But l ls H H' → Q (.str ⟨#[c]⟩) H'
theorem pop_perm : ∀ (l : List V) (k : Nat) (y : V), l[k]? = some y → (y :: l.eraseIdx k).Perm l
  | [], k, y, h => by simp at h
  | a :: l, 0, y, h => by
    obtain rfl : a = y := by simpa using h
    exact List.Perm.refl _
  | a :: l, k + 1, y, h => by
    have z := pop_perm l k y (by simpa using h)
    exact (List.Perm.swap a y _).trans (z.cons a)
section
variable {P : Program} {w : World} {K : PySem.W.Frag} {mg : Str → Option Value} {base : Heap} {f fD fP fM : Addr} {fd fdD fdP fdM : FuncData}
theorem ok_pickS (F : Fun K "_law_pick" "_law_pick" sPick f fd) (FD : Fun K "_law_draw" "_law_draw" sDraw fD fdD)
    (gD : mg "_law_draw" = some (.ref fD)) (gI : mg "int" = none) (gN : mg "len" = none) : FnOk P w K mg base CX0 2 f fd ["stream", "some"] spPickS := by
  have G : FnOk P w K mg base CX0 1 fD fdD ["stream", "many"] spDraw := ok_draw FD gI
  have b := FD.binds (ps := ["stream", "many"]) fun _ _ _ _ _ _ us hl => match us, hl with | [_, _], _ => rfl
  refine F.ok scPick (fun vs H Q E h => by obtain ⟨l, ls, x, N, e, _⟩ := h; rw [e]; rfl) fun cdv A outer s H vs Q E hr hsp => ?_
  obtain ⟨l, ls, x, N, rfl, hS, hN, h0, h1, hq⟩ := hsp
  refine ⟨_, pss_one (ps_ret (pe_ix ix_str (pv 1) (pe_call G hr rfl gD FD.kp b .nil pass0 (pa_cons (pv 0) (pa_cons (pe_callB call_len rfl gN boot_len (pa_cons (pv 1) pa_nil)) pa_nil))) (fun _ _ => rfl))), ?_⟩
  have hz : x.length ≤ sizeLine := by rw [sizeLine_eq]; show x.cps.size ≤ _; omega
  have hl : ((x.length : Nat) : Int) = (x.cps.size : Int) := rfl
  refine ⟨_, rfl, _, rfl, _, rfl, _, x.length, rfl, ⟨hz, rfl⟩, ?_⟩
  refine ⟨l, ls, _, N, rfl, hS, hN, by omega, by omega, fun H' r r0 r1 S' B' => ?_⟩
  have hr2 : r.toNat < x.cps.toList.length := by rw [Array.length_toList]; omega
  refine ⟨x, r, x.cps.toList[r.toNat], rfl, rfl, hz, ?_, hq H' _ (List.getElem_mem _) S' B'⟩
  have e : ((r.toNat : Nat) : Int) = r := by omega
  have z := atI_nat (xs := x.cps.toList) (j := r.toNat) (v := x.cps.toList[r.toNat]) (by simp)
  rw [e] at z
  exact z
end
end L2.TB
namespace L2.TB
open PySem PySem.Spec PyProof.Rows
theorem Strm.mono {H : Hp} {l ls : Addr} {N M : Int} (h : Strm H l ls N) (le : N ≤ M) : Strm H l ls M := by
  obtain ⟨cs, g, k, m, S⟩ := h
  exact ⟨cs, g, k, m, S.o, S.c, S.ne, S.g0, S.k0, by have := S.k1; omega, S.m0, S.m1, S.sz⟩
theorem cut_to (xs : List V) (r : Int) (h0 : 0 ≤ r) (h1 : r < xs.length + 1) : cutV xs none (some r) = xs.take r.toNat := by
  have e1 : HT.sIx xs.length 0 none = 0 := rfl
  have e2 : HT.sIx xs.length xs.length (some r) = r.toNat := by
    unfold HT.sIx
    simp only []
    rw [if_neg (show ¬ r < 0 by omega)]
    omega
  unfold cutV
  rw [e1, e2]; simp
end L2.TB
namespace L2.TB
open PySem PySem.Spec PyProof.Rows
def signsL : List Nat := (Str.ofString "abcdefghijklmnopqrstuvwxyz0123456789.").cps.toList
/-- a name that is_name lets pass -/
def NmOk (x : Str) : Prop := 1 ≤ x.cps.toList.length ∧ x.cps.toList.length ≤ 40 ∧ ∀ c ∈ x.cps.toList, c ∈ signsL
def wordL : List Nat := (Str.ofString "abcxyz019").cps.toList
def letL : List Nat := (Str.ofString "abcdefghijklmnopqrstuvwxyz").cps.toList
theorem word_sub : ∀ c ∈ wordL, c ∈ signsL := by decide +kernel
theorem let_sub : ∀ c ∈ letL, c ∈ signsL := by decide +kernel
theorem join_flat : ∀ cs : List Nat, TL.joinL [] (cs.map fun c => [c]) = cs
  | [] => rfl
  | [c] => rfl
  | c :: d :: r => by
    show [c] ++ ([] ++ TL.joinL [] ((d :: r).map fun c => [c])) = _
    rw [join_flat (d :: r)]; rfl
theorem join_cps (cs : List Nat) : (Txt.join (Str.ofString "") (cs.map fun c => (⟨#[c]⟩ : Str))).cps.toList = cs := by
  rw [TL.join_eq]
  have e := TL.tl_join (Str.ofString "") (cs.map fun c => (⟨#[c]⟩ : Str))
  have e2 : (cs.map fun c => (⟨#[c]⟩ : Str)).map TL.tl = cs.map fun c => [c] := by rw [List.map_map]; rfl
  have e3 : TL.tl (Str.ofString "") = [] := by decide +kernel
  rw [e2, e3, join_flat] at e
  exact e
/-- the spare names: a letter and q -/
def spare (c : Nat) : Str := (⟨#[c]⟩ : Str) ++ Str.ofString "q"
theorem spare_ok : ∀ c ∈ letL, NmOk (spare c) := by
  unfold NmOk
  decide +kernel
theorem spare_nd : (letL.map spare).Nodup := by decide +kernel
theorem str_inj (a b : Str) : eqV (.str a) (.str b) = decide (a = b) := by
  show (a == b) = _
  by_cases h : a = b
  · subst h; simp
  · rw [decide_eq_false h]; simpa using h
theorem inV_strs (x : Str) : ∀ xs : List Str, inV (.str x) (xs.map V.str) = decide (x ∈ xs)
  | [] => by simp [inV]
  | a :: xs => by
    have e := inV_strs x xs
    unfold inV at e ⊢
    rw [List.map_cons, List.any_cons, e, str_inj]
    by_cases h : a = x
    · subst h; simp
    · by_cases h2 : x ∈ xs
      · simp [h2]
      · simp [h, h2, Ne.symm h]
theorem flat_strs (xs : List Str) : (xs.map V.str).all flatV = true := by
  rw [List.all_map]; exact List.all_eq_true.mpr fun _ _ => rfl
/-- some spare name is not among the found ones -/
theorem spare_left (w : Str) (found : List Str) (h : found.length < 26) : ((w :: letL.map spare).filter fun x => decide (x ∉ found)) ≠ [] := by
  intro e
  have sub : ∀ x ∈ letL.map spare, x ∈ found := fun x hx => by
    by_cases h2 : x ∈ found
    · exact h2
    · have z : x ∈ (w :: letL.map spare).filter fun x => decide (x ∉ found) := List.mem_filter.mpr ⟨List.mem_cons_of_mem _ hx, by simp [h2]⟩
      rw [e] at z; cases z
  have le := List.Nodup.length_le_of_subset spare_nd (fun x hx => sub x hx)
  have e26 : (letL.map spare).length = 26 := by decide +kernel
  omega
def spNames : Sp := fun vs H Q _ => ∃ (l ls : Addr) (many N : Int), vs = [.ref l, .int many] ∧ Strm H l ls N ∧ N ≤ 900000 ∧ 0 ≤ many ∧ many ≤ 20 ∧
  ∀ H' q (ns : List Str), (ns.length : Int) = many → ns.Nodup → (∀ x ∈ ns, NmOk x) → H q = none → H' q = some (.lst (ns.map V.str)) → Strm H' l ls (N + 5 * many) → But l ls H H' → Q (.ref q) H'
abbrev NN : List Str := ["stream", "many", "found", "k", "word", "spares", "sign", "letter", "one"]
theorem scNames : FnScope NN ["stream", "many"] (defScope sNames) := ⟨rfl, rfl, rfl, by decide +kernel, rfl, by decide +kernel, by decide +kernel⟩
section
variable {P : Program} {w : World} {K : PySem.W.Frag} {mg : Str → Option Value} {base : Heap} {f fD fP fM : Addr} {fd fdD fdP fdM : FuncData}
theorem ok_names (F : Fun K "_law_t_names" "_law_t_names" sNames f fd) (FP : Fun K "_law_pick" "_law_pick" sPick fP fdP) (gP : mg "_law_pick" = some (.ref fP)) (FD : Fun K "_law_draw" "_law_draw" sDraw fD fdD)
    (gD : mg "_law_draw" = some (.ref fD)) (gI : mg "int" = none) (gN : mg "len" = none) (gR : mg "range" = none) : FnOk P w K mg base CX0 3 f fd ["stream", "many"] spNames := by
  have G : FnOk P w K mg base CX0 1 fD fdD ["stream", "many"] spDraw := ok_draw FD gI
  have b := FD.binds (ps := ["stream", "many"]) fun _ _ _ _ _ _ us hl => match us, hl with | [_, _], _ => rfl
  have GP : FnOk P w K mg base CX0 2 fP fdP ["stream", "some"] spPickS := ok_pickS FP FD gD gI gN
  have bP := FP.binds (ps := ["stream", "some"]) fun _ _ _ _ _ _ us hl => match us, hl with | [_, _], _ => rfl
  refine F.ok scNames (fun vs H Q E h => by obtain ⟨l, ls, many, N, e, _⟩ := h; rw [e]; rfl) fun cdv A outer s H vs Q E hr hsp => ?_
  obtain ⟨l, ls, many, N, rfl, hS, hN, h0, h1, hq⟩ := hsp
  have nd := scNames.nd
  refine ⟨_, pss_cons (ps_set (i := 2) nd rfl (Or.inr rfl) (pe_lst pa_nil))
    (pss_cons (ps_for PassesOwn.never rfl (pi_range1 rfl gR (pa_cons (pv 1) pa_nil)) (pg_name (i := 3) nd rfl (Or.inl rfl))
      (pss_cons (ps_set (i := 4) nd rfl (Or.inl rfl) (pe_join pe_str (pe_lc (own := [("sign", 6)]) (tt := tYes) rfl nd (pi_range1 rfl gR (pa_cons (pe_op op_add pe_int (pe_call G (hr.mono (by decide)) rfl gD FD.kp b .nil pass0 (pa_cons (pv 0) (pa_cons pe_int pa_nil)))) pa_nil))
          (blkOk_by (N := NN) (sc := defScope sNames) (by decide +kernel)) (fun _ _ _ _ _ => pg_name (i := 6) nd rfl (Or.inl rfl)) (fun _ _ _ _ _ => pts_nil) (fun _ _ _ _ _ => pe_call GP hr rfl gP FP.kp bP .nil pass0 (pa_cons (pv 0) (pa_cons pe_str pa_nil))))))
      (pss_cons (ps_set (i := 5) nd rfl (Or.inl rfl) (pe_op op_cat (pe_lst (pa_cons (pv 4) pa_nil)) (pe_lc (own := [("letter", 7)]) (tt := tYes) rfl nd (pi_str pe_str) (blkOk_by (N := NN) (sc := defScope sNames) (by decide +kernel))
          (fun _ _ _ _ _ => pg_name (i := 7) nd rfl (Or.inl rfl)) (fun _ _ _ _ _ => pts_nil) (fun _ _ _ _ _ => pe_op op_add_str (pv 7) pe_str))))
      (pss_one (ps_expr (pe_bm PySem.F.plainAttrs_list PySem.F.slot_list_append PySem.F.type_list_append mt_append (pv 2) (pa_cons (pe_ix ix_list (pe_lc (own := [("one", 8)]) (tt := tTest (tOp (rIn K true) (tVar 8) (tVar 2))) rfl nd (pi_list (pv 5)) (blkOk_by (N := NN) (sc := defScope sNames) (by decide +kernel))
          (fun _ _ _ _ _ => pg_name (i := 8) nd rfl (Or.inl rfl)) (fun _ _ _ _ _ => pts_one (pt_cmpR op_notIn_seq (pv 8) (pv 2) rfl)) (fun _ _ _ _ _ => pv 8)) pe_int (fun _ _ => rfl)) pa_nil)))))))
    (pss_one (ps_ret (pv 2)))), ?_⟩
  refine ⟨Nat.zero_le _, fun q nq => ?_⟩
  have aq := hS.apart (Same.refl _) nq
  refine ⟨_, rfl, many, rfl, by omega, by omega, for_range (n := many.toNat) (fun i σ H' => ∃ ns : List Str, H' q = some (.lst (ns.map V.str)) ∧ ns.length = i ∧ ns.Nodup ∧ (∀ x ∈ ns, NmOk x) ∧ Strm H' l ls (N + 5 * i) ∧ But l ls H H' ∧
    ∃ s3 s4 s5 s6 s7 s8, σ = [some (.ref l), some (.int many), some (.ref q), s3, s4, s5, s6, s7, s8])
    ⟨[], upd_same, rfl, .nil, fun x hx => by simp at hx, by simpa using hS.same (same_new nq), But.of (same_new nq), _, _, _, _, _, _, rfl⟩ ?_ ?_⟩
  · rintro i σ H1 hi ⟨ns, oq, ln, nn, nok, S1, B1, s3, s4, s5, s6, s7, s8, rfl⟩
    have hi2 : (i : Int) < 20 := by omega
    -- the word
    refine ⟨⟨_, rfl⟩, _, rfl, l, ls, 3, _, rfl, S1, by omega, by decide, by decide, fun H2 r r0 r1 S2 B2 => ?_⟩
    refine ⟨_, _, rfl, rfl, 1 + r, rfl, by omega, by omega, fun D nD => ?_⟩
    have aD := S2.apart (Same.refl _) nD
    refine lc_range (n := (1 + r).toNat) (fun j H' => ∃ cs : List Nat, H' D = some (.lst (cs.map fun c => V.str ⟨#[c]⟩)) ∧ cs.length = j ∧ (∀ c ∈ cs, c ∈ wordL) ∧ Strm H' l ls (N + 5 * i + 1 + j) ∧ But l ls H2 H')
      ⟨[], upd_same, rfl, fun c hc => by simp at hc, by simpa using S2.same (same_new nD), But.of (same_new nD)⟩ ?_ ?_
    · rintro j H3 hj ⟨cs, oD, lc, cok, S3, B3⟩
      refine ⟨rfl, ?_⟩
      refine ⟨_, rfl, l, ls, _, _, rfl, S3, by omega, by decide +kernel, by decide +kernel, fun H4 c hc S4 B4 => ?_⟩
      have oD4 := B4 _ _ aD.1 aD.2 oD
      refine ⟨_, oD4, (by rw [sizeLine_eq, List.length_map]; omega), cs ++ [c], by rw [upd_same]; simp, by simp [lc], ?_, ?_, ?_⟩
      · intro d hd
        rcases List.mem_append.mp hd with h | h
        · exact cok d h
        · obtain rfl : d = c := by simpa using h
          exact hc
      · obtain ⟨cs', g, k, m, S⟩ := S4
        exact Strm.mono ⟨cs', g, k, m, by rw [upd_ne (Ne.symm aD.1)]; exact S.o, by rw [upd_ne (Ne.symm aD.2)]; exact S.c, S.ne, S.g0, S.k0, S.k1, S.m0, S.m1, S.sz⟩ (by omega)
      · intro b o h1 h2 e
        have nb : b ≠ D := ne_of_none e nD
        rw [upd_ne nb]
        exact B4 _ _ h1 h2 (B3 _ _ h1 h2 e)
    · rintro H3 ⟨cs, oD, lc, cok, S3, B3⟩
      have lc3 : 1 ≤ cs.length ∧ cs.length ≤ 3 := by omega
      have em : (cs.map fun c => V.str ⟨#[c]⟩) = (cs.map fun c => (⟨#[c]⟩ : Str)).map V.str := by rw [List.map_map]; rfl
      rw [em] at oD
      have sums : ∀ l : List Nat, ((l.map fun c => (⟨#[c]⟩ : Str)).map (·.length)).sum = l.length := fun l => by
        induction l with
        | nil => rfl
        | cons a l ih => rw [List.map_cons, List.map_cons, List.sum_cons, ih, List.length_cons]; show 1 + _ = _; omega
      refine ⟨_, D, _, rfl, rfl, .inl (SqL.of oD), ?_, ?_⟩
      · rw [sums, List.length_map]; show cs.length + cs.length * 0 ≤ _; omega
      have hw : (Txt.join (Str.ofString "") (cs.map fun c => (⟨#[c]⟩ : Str))).cps.toList = cs := join_cps cs
      generalize Txt.join (Str.ofString "") (cs.map fun c => (⟨#[c]⟩ : Str)) = wd at hw
      have wok : NmOk wd := by
        unfold NmOk
        rw [hw]
        exact ⟨lc3.1, by omega, fun c hc => word_sub c (cok c hc)⟩
      have B13 := B2.trans B3
      have oq3 := B13 _ _ aq.1 aq.2 oq
      -- the spare names
      refine ⟨_, rfl, (by rw [sizeLine_eq]; show 1 ≤ _; omega), fun a1 n1 => ?_⟩
      have k1 := same_new (o := .lst [.str wd]) n1
      have e26 : (Str.ofString "abcdefghijklmnopqrstuvwxyz").cps.size = 26 := by decide +kernel
      have l26 : letL.length = 26 := by decide +kernel
      refine ⟨_, rfl, fun D2 nD2 => ⟨fun j m H' => m = 26 - j ∧ j ≤ 26 ∧ H' D2 = some (.lst ((letL.take j).map fun c => V.str (spare c))) ∧ Same (upd H3 a1 (.lst [.str wd])) H',
        ⟨26, rfl, by decide, upd_same, same_new nD2⟩, ?_⟩⟩
      rintro j m H4 ⟨rfl, hj, oD2, sm4⟩
      by_cases lt : j < 26
      · refine .inr ⟨(by show j < _; rw [e26]; exact lt), fun H' => H' D2 = some (.lst ((letL.take (j + 1)).map fun c => V.str (spare c))) ∧ Same (upd H3 a1 (.lst [.str wd])) H', fun H' h => ⟨26 - (j + 1), by omega, rfl, lt, h⟩, ?_⟩
        rintro v H' ⟨rfl, c, hc, rfl⟩
        have hc2 : letL[j]? = some c := by
          unfold letL
          rw [Array.getElem?_toList]; exact hc
        refine ⟨rfl, ?_⟩
        refine ⟨_, rfl, _, _, rfl, rfl, (by rw [sizeLine_eq]; show 1 + 1 ≤ _; omega), _, oD2, (by rw [sizeLine_eq, List.length_map, List.length_take]; omega), ?_, fun b o e => by rw [upd_ne (ne_of_none e nD2)]; exact sm4 b o e⟩
        rw [upd_same, List.take_succ, hc2]
        simp [spare]
      · have j26 : j = 26 := by omega
        refine .inl ⟨(by show _ ≤ j; rw [e26]; omega), ?_⟩
        have et : letL.take j = letL := List.take_of_length_le (by omega)
        rw [et] at oD2
        refine ⟨a1, D2, _, _, rfl, rfl, sm4 _ _ upd_same, oD2, (by rw [sizeLine_eq, List.length_map, l26]; show 1 + 26 ≤ _; omega), fun p np => ?_⟩
        have esp : [V.str wd] ++ letL.map (fun c => V.str (spare c)) = (wd :: letL.map spare).map V.str := by simp [List.map_map]
        rw [esp]
        have spl : (wd :: letL.map spare).length = 27 := by rw [List.length_cons, List.length_map, l26]
        have spok : ∀ x ∈ (wd :: letL.map spare), NmOk x := fun x hx => by
          rcases List.mem_cons.mp hx with h | h
          · rw [h]; exact wok
          · obtain ⟨c, hc, rfl⟩ := List.mem_map.mp h
            exact spare_ok c hc
        have hne := spare_left wd ns (by omega)
        generalize wd :: letL.map spare = sp at spl spok hne
        have k5 := same_new (o := .lst (sp.map V.str)) np
        have k35 := (k1.trans sm4).trans k5
        refine ⟨_, rfl, .inl ⟨rfl, _, SqL.of (k35 _ _ oq3)⟩, _, rfl, p, rfl, ⟨_, SqL.of upd_same⟩, fun D3 nD3 => ?_⟩
        refine lc_list (xs := sp.map V.str) (fun j H' => H' D3 = some (.lst (((sp.take j).filter fun x => decide (x ∉ ns)).map V.str)) ∧ Same (upd H4 p (.lst (sp.map V.str))) H')
          ⟨by rw [upd_same]; rfl, same_new nD3⟩ (fun j H' _ h => SqL.of (h.2 _ _ upd_same)) ?_ ?_
        · rintro j v H6 ev ⟨oD3, sm6⟩
          rw [List.getElem?_map] at ev
          obtain ⟨x, ex, rfl⟩ := Option.map_eq_some_iff.mp ev
          have et2 : sp.take (j + 1) = sp.take j ++ [x] := by rw [List.take_succ, ex]; rfl
          refine ⟨rfl, ?_⟩
          refine ⟨_, rfl, _, rfl, q, ns.map V.str, rfl, .inl (SqL.of (sm6 _ _ (k35 _ _ oq3))), rfl, flat_strs ns, _, rfl, ?_⟩
          rw [inV_strs]
          by_cases hx : x ∈ ns
          · rw [decide_eq_true hx]
            refine iteF ?_
            refine ⟨?_, sm6⟩
            rw [et2, List.filter_append]
            simpa [hx] using oD3
          · rw [decide_eq_false hx]
            refine iteT ?_
            refine ⟨_, rfl, _, oD3, ?_, ?_, fun b o e => by rw [upd_ne (ne_of_none e nD3)]; exact sm6 b o e⟩
            · have z := List.length_filter_le (fun x => decide (x ∉ ns)) (sp.take j)
              rw [List.length_take] at z
              rw [sizeLine_eq, List.length_map]; omega
            · rw [upd_same, et2, List.filter_append]
              simp [hx]
        · rintro H6 ⟨oD3, sm6⟩
          have ef : sp.take (sp.map V.str).length = sp := List.take_of_length_le (by rw [List.length_map]; omega)
          rw [ef] at oD3
          have oq6 := sm6 _ _ (k35 _ _ oq3)
          cases efl : sp.filter fun x => decide (x ∉ ns) with
          | nil => exact absurd efl hne
          | cons y rest =>
            rw [efl] at oD3
            have hy : y ∈ sp.filter fun x => decide (x ∉ ns) := by rw [efl]; exact List.mem_cons_self
            obtain ⟨hy1, hy2⟩ := List.mem_filter.mp hy
            have hy3 : y ∉ ns := by simpa using hy2
            refine ⟨D3, _, 0, .str y, rfl, rfl, SqL.of oD3, atI_nat (j := 0) (by simp), ?_⟩
            refine ⟨q, ns.map V.str, .str y, rfl, rfl, oq6, (by rw [sizeLine_eq, List.length_map]; omega), ns ++ [y], by rw [upd_same]; simp, by simp [ln], ?_, ?_, ?_, ?_, _, _, _, _, _, _, rfl⟩
            · rw [List.nodup_append]
              exact ⟨nn, by simp, fun a ha b hb => by
                obtain rfl : b = y := by simpa using hb
                exact fun z => hy3 (z ▸ ha)⟩
            · intro x hx
              rcases List.mem_append.mp hx with h | h
              · exact nok x h
              · obtain rfl : x = y := by simpa using h
                exact spok _ hy1
            · obtain ⟨cs', g, k, m, S⟩ := (S3.same k35).same sm6
              exact Strm.mono ⟨cs', g, k, m, by rw [upd_ne (Ne.symm aq.1)]; exact S.o, by rw [upd_ne (Ne.symm aq.2)]; exact S.c, S.ne, S.g0, S.k0, S.k1, S.m0, S.m1, S.sz⟩ (by omega)
            · intro b o h1 h2 e
              have nb : b ≠ q := ne_of_none e nq
              rw [upd_ne nb]
              exact sm6 _ _ (k35 _ _ (B13 _ _ h1 h2 (B1 _ _ h1 h2 e)))
  · rintro σ H1 ⟨ns, oq, ln, nn, nok, S1, B1, s3, s4, s5, s6, s7, s8, rfl⟩
    have em : ((many.toNat : Nat) : Int) = many := by omega
    rw [em] at S1
    exact ⟨_, rfl, hq H1 q ns (by omega) nn nok nq oq S1 B1⟩
end
end L2.TB
namespace L2.TB
open PySem PySem.Spec PyProof.Rows
theorem paired_snoc {α β : Type} {F : α → β → Prop} {x : α} {y : β} (h : F x y) : ∀ {xs : List α} {ys : List β}, Paired F xs ys → Paired F (xs ++ [x]) (ys ++ [y])
  | _, _, .nil => .cons h .nil
  | _, _, .cons r t => .cons r (paired_snoc h t)
theorem paired_map {α β γ : Type} {F : α → γ → Prop} {g : β → γ} : ∀ {xs : List α} {ys : List β}, Paired (fun x y => F x (g y)) xs ys → Paired F xs (ys.map g)
  | _, _, .nil => .nil
  | _, _, .cons r t => .cons r (paired_map t)
/-- the pairs of a row: names and ints -/
def dk (ns : List Str) (vs : List Int) : List (Key × V) := (ns.zip vs).map fun p => (Sum.inr p.1, V.int p.2)
theorem merge_new : ∀ (more acc : List (Key × V)), ((acc ++ more).map (·.1)).Nodup → mergeK acc more = acc ++ more
  | [], acc, _ => by simp [mergeK]
  | p :: more, acc, h => by
    have hn : valV acc p.1 = none := by
      cases e : valV acc p.1 with
      | none => rfl
      | some v =>
        exfalso
        have z : (valV acc p.1).isSome = true := by rw [e]; rfl
        rw [← valV_any, List.any_eq_true] at z
        obtain ⟨q, hq, hq2⟩ := z
        have hq3 : q.1 = p.1 := of_decide_eq_true hq2
        rw [List.map_append, List.nodup_append] at h
        exact h.2.2 q.1 (List.mem_map_of_mem hq) p.1 (List.mem_map_of_mem List.mem_cons_self) hq3
    show mergeK (putK acc p.1 p.2) more = _
    rw [putK_new p.2 hn, merge_new more _ (by rw [List.append_assoc]; exact h), List.append_assoc]
    rfl
theorem merge_nd {kvs : List (Key × V)} (h : (kvs.map (·.1)).Nodup) : mergeK [] kvs = kvs := by
  rw [merge_new kvs [] (by simpa using h), List.nil_append]
theorem dk_keys {ns : List Str} {vs : List Int} (h : ns.length = vs.length) : (dk ns vs).map (·.1) = ns.map Sum.inr := by
  unfold dk
  rw [List.map_map]
  have e : ((fun x => x.1) ∘ fun p : Str × Int => ((Sum.inr p.1 : Key), V.int p.2)) = (fun p : Str × Int => (Sum.inr p.1 : Key)) := rfl
  rw [e]
  have e2 : (ns.zip vs).map (fun p : Str × Int => (Sum.inr p.1 : Key)) = ((ns.zip vs).map Prod.fst).map Sum.inr := by rw [List.map_map]; rfl
  rw [e2, List.map_fst_zip (by omega)]
theorem dk_nd {ns : List Str} {vs : List Int} (h : ns.length = vs.length) (nd : ns.Nodup) : ((dk ns vs).map (·.1)).Nodup := by
  rw [dk_keys h]
  exact List.Pairwise.map Sum.inr (fun a b h e => h (Sum.inr.inj e)) nd
/-- rows as they are drawn: at as dicts with the names ns and the ints of tbl -/
def RowsAt (H : Hp) (l ls : Addr) (ns : List Str) : List Addr → List (List Int) → Prop :=
  Paired fun a vs => H a = some (.dK (dk ns vs)) ∧ vs.length = ns.length ∧ a ≠ l ∧ a ≠ ls
theorem RowsAt.but {H H' : Hp} {l ls : Addr} {ns : List Str} {as : List Addr} {tbl : List (List Int)} (r : RowsAt H l ls ns as tbl) (b : But l ls H H') : RowsAt H' l ls ns as tbl :=
  Paired.mapP r fun a vs h => ⟨b _ _ h.2.2.1 h.2.2.2 h.1, h.2⟩
def spRows : Sp := fun vs H Q _ => ∃ (l ls : Addr) (many rows values N : Int), vs = [.ref l, .int many, .int rows, .int values] ∧ Strm H l ls N ∧ N ≤ 500000 ∧ 0 < many ∧ many ≤ 10 ∧ 0 < rows ∧ rows ≤ 20 ∧ 0 < values ∧ values ≤ 100 ∧
  ∀ H' q as ns tbl, ((ns : List Str).length : Int) ≤ many → ns ≠ [] → ns.Nodup → (∀ x ∈ ns, NmOk x) → (tbl : List (List Int)).length ≤ 20 → tbl ≠ [] → H q = none → q ≠ l → q ≠ ls → H' q = some (.lst (as.map V.ref)) → RowsAt H' l ls ns as tbl →
    Strm H' l ls (N + 1000) → But l ls H H' → Q (.ref q) H'
abbrev NR : List Str := ["stream", "many", "rows", "values", "names", "found", "k", "name"]
theorem scRows : FnScope NR ["stream", "many", "rows", "values"] (defScope sRows) := ⟨rfl, rfl, rfl, by decide +kernel, rfl, by decide +kernel, by decide +kernel⟩
section
variable {P : Program} {w : World} {K : PySem.W.Frag} {mg : Str → Option Value} {base : Heap} {f fD fP fN : Addr} {fd fdD fdP fdN : FuncData}
theorem ok_rows (F : Fun K "_law_t_rows" "_law_t_rows" sRows f fd) (FN : Fun K "_law_t_names" "_law_t_names" sNames fN fdN) (gNm : mg "_law_t_names" = some (.ref fN)) (FP : Fun K "_law_pick" "_law_pick" sPick fP fdP) (gP : mg "_law_pick" = some (.ref fP)) (FD : Fun K "_law_draw" "_law_draw" sDraw fD fdD)
    (gD : mg "_law_draw" = some (.ref fD)) (gI : mg "int" = none) (gN : mg "len" = none) (gR : mg "range" = none) (gDi : mg "dict" = none) : FnOk P w K mg base CX0 4 f fd ["stream", "many", "rows", "values"] spRows := by
  have G : FnOk P w K mg base CX0 1 fD fdD ["stream", "many"] spDraw := ok_draw FD gI
  have b := FD.binds (ps := ["stream", "many"]) fun _ _ _ _ _ _ us hl => match us, hl with | [_, _], _ => rfl
  have GN : FnOk P w K mg base CX0 3 fN fdN ["stream", "many"] spNames := ok_names FN FP gP FD gD gI gN gR
  have bN := FN.binds (ps := ["stream", "many"]) fun _ _ _ _ _ _ us hl => match us, hl with | [_, _], _ => rfl
  refine F.ok scRows (fun vs H Q E h => by obtain ⟨l, ls, a, b, c, N, e, _⟩ := h; rw [e]; rfl) fun cdv A outer s H vs Q E hr hsp => ?_
  obtain ⟨l, ls, many, rws, vals, N, rfl, hS, hN, m0, m1, w0, w1, v0, v1, hq⟩ := hsp
  have nd := scRows.nd
  refine ⟨_, pss_cons (ps_par (i := 4) (j := 5) rfl nd rfl rfl (by decide) rfl rfl (pa_cons (pe_call GN hr rfl gNm FN.kp bN .nil pass0 (pa_cons (pv 0) (pa_cons (pe_op op_add pe_int (pe_call G (hr.mono (by decide)) rfl gD FD.kp b .nil pass0 (pa_cons (pv 0) (pa_cons (pv 1) pa_nil)))) pa_nil))) (pa_cons (pe_lst pa_nil) pa_nil)) (by rfl))
    (pss_cons (ps_for PassesOwn.never rfl (pi_range1 rfl gR (pa_cons (pe_op op_add pe_int (pe_call G (hr.mono (by decide)) rfl gD FD.kp b .nil pass0 (pa_cons (pv 0) (pa_cons (pv 2) pa_nil)))) pa_nil)) (pg_name (i := 6) nd rfl (Or.inl rfl))
      (pss_one (ps_expr (pe_bm PySem.F.plainAttrs_list PySem.F.slot_list_append PySem.F.type_list_append mt_append (pv 5) (pa_cons (pe_callTy (call_dictP rfl) rfl gDi (by decide +kernel) (pa_cons (pe_lc (own := [("name", 7)]) (tt := tYes) rfl nd (pi_list (pv 4)) (blkOk_by (N := NR) (sc := defScope sRows) (by decide +kernel))
        (fun _ _ _ _ _ => pg_name (i := 7) nd rfl (Or.inl rfl)) (fun _ _ _ _ _ => pts_nil) (fun _ _ _ _ _ => pe_tup (pa_cons (pv 7) (pa_cons (pe_op op_sub (pe_call G (hr.mono (by decide)) rfl gD FD.kp b .nil pass0 (pa_cons (pv 0) (pa_cons (pv 3) pa_nil))) pe_int) pa_nil)))) pa_nil)) pa_nil)))))
    (pss_one (ps_ret (pv 5)))), ?_⟩
  refine ⟨_, rfl, _, rfl, _, rfl, l, ls, many, N, rfl, hS, by omega, by omega, by omega, fun H1 r r0 r1 S1 B1 => ?_⟩
  refine ⟨_, _, rfl, rfl, l, ls, 1 + r, N + 1, rfl, S1, by omega, by omega, by omega, fun H2 c ns lns nds oks nc oc S2 B2 => ?_⟩
  have ac := S1.apart (Same.refl _) nc
  have nl : 1 ≤ ns.length ∧ ns.length ≤ 10 := by omega
  refine ⟨Nat.zero_le _, fun q nq => ?_⟩
  have aq := S2.apart (Same.refl _) nq
  have S2' : Strm H2 l ls (N + 60) := S2.mono (by omega)
  have B12 := B1.trans B2
  have cq : c ≠ q := fun z => by rw [z, nq] at oc; cases oc
  refine ⟨_, _, rfl, ?_⟩
  refine ⟨_, rfl, _, rfl, l, ls, rws, _, rfl, S2'.same (same_new nq), by omega, w0, by omega, fun H3 r' r0' r1' S3 B3 => ?_⟩
  have oc3 := B3 _ _ ac.1 ac.2 (same_new nq _ _ oc)
  have oq3 := B3 _ _ aq.1 aq.2 (upd_same (H := H2) (a := q) (o := .lst []))
  have B03 : But l ls H H3 := (B12.trans (But.of (same_new nq))).trans B3
  refine ⟨_, _, rfl, rfl, 1 + r', rfl, by omega, by omega, for_range (n := (1 + r').toNat) (fun i σ H' => (∃ as tbl, H' q = some (.lst ((as : List Addr).map V.ref)) ∧ RowsAt H' l ls ns as tbl ∧ tbl.length = i) ∧ H' c = some (.lst (ns.map V.str)) ∧ Strm H' l ls (N + 70 + 12 * i) ∧ But l ls H H' ∧
    ∃ s6 s7, σ = [some (.ref l), some (.int many), some (.int rws), some (.int vals), some (.ref c), some (.ref q), s6, s7]) ⟨⟨[], [], oq3, .nil, rfl⟩, oc3, S3.mono (by omega), B03, _, _, rfl⟩ ?_ ?_⟩
  · rintro i σ H4 hi ⟨⟨as, tbl, oq4, R4, lt4⟩, oc4, S4, B4, s6, s7, rfl⟩
    have hi2 : (i : Int) < 20 := by omega
    refine ⟨_, rfl, .inl ⟨rfl, _, SqL.of oq4⟩, _, rfl, c, rfl, ⟨_, SqL.of oc4⟩, fun D nD => ?_⟩
    have aD := S4.apart (Same.refl _) nD
    have Dq : D ≠ q := fun z => by rw [z, oq4] at nD; cases nD
    refine lc_list (xs := ns.map V.str) (fun j H' => ∃ ps vs, H' D = some (.lst ((ps : List Addr).map V.ref)) ∧ Paired (fun p (kv : Str × Int) => H' p = some (.tup [.str kv.1, .int kv.2]) ∧ p ≠ l ∧ p ≠ ls) ps ((ns.take j).zip vs) ∧ vs.length = j ∧
      Strm H' l ls (N + 70 + 12 * i + j) ∧ But l ls H4 H') ⟨[], [], upd_same, .nil, rfl, by simpa using S4.same (same_new nD), But.of (same_new nD)⟩ (fun j H' _ h => SqL.of (h.choose_spec.choose_spec.2.2.2.2 _ _ ac.1 ac.2 oc4)) ?_ ?_
    · rintro j v H5 ev ⟨ps, vs, oD, pr, lv, S5, B5⟩
      rw [List.getElem?_map] at ev
      obtain ⟨x, ex, rfl⟩ := Option.map_eq_some_iff.mp ev
      have hj : j < ns.length := (List.getElem?_eq_some_iff.mp ex).1
      have et : ns.take (j + 1) = ns.take j ++ [x] := by rw [List.take_succ, ex]; rfl
      refine ⟨rfl, ?_⟩
      refine ⟨_, rfl, _, rfl, _, rfl, l, ls, vals, _, rfl, S5, by omega, v0, by omega, fun H6 z z0 z1 S6 B6 => ?_⟩
      refine ⟨_, _, rfl, rfl, (by rw [sizeLine_eq]; show 2 ≤ _; omega), fun p np => ?_⟩
      have ap := S6.apart (Same.refl _) np
      have k6 := same_new (o := .tup [.str x, .int (z - 1)]) np
      have oD6 := B6 _ _ aD.1 aD.2 oD
      have pD : p ≠ D := fun y => by rw [y, oD6] at np; cases np
      have lps : ps.length = j := by
        have e := Paired.length pr
        rw [List.length_zip, List.length_take] at e
        omega
      refine ⟨_, k6 _ _ oD6, (by rw [sizeLine_eq, List.length_map]; omega), ps ++ [p], vs ++ [z - 1], by rw [upd_same]; simp, ?_, by simp [lv], ?_, ?_⟩
      · rw [et, List.zip_append (by rw [List.length_take]; omega)]
        refine paired_snoc ⟨by rw [upd_ne pD, upd_same], ap⟩ (Paired.mapP pr fun a kv h => ⟨?_, h.2⟩)
        have na : a ≠ D := fun y => by rw [y, oD] at h; cases h.1
        rw [upd_ne na]
        exact k6 _ _ (B6 _ _ h.2.1 h.2.2 h.1)
      · obtain ⟨cs', g, k, m, S⟩ := S6.same k6
        exact Strm.mono ⟨cs', g, k, m, by rw [upd_ne (Ne.symm aD.1)]; exact S.o, by rw [upd_ne (Ne.symm aD.2)]; exact S.c, S.ne, S.g0, S.k0, S.k1, S.m0, S.m1, S.sz⟩ (by omega)
      · intro b' o h1 h2 e
        have nb : b' ≠ D := ne_of_none e nD
        rw [upd_ne nb]
        exact k6 _ _ (B6 _ _ h1 h2 (B5 _ _ h1 h2 e))
    · rintro H5 ⟨ps, vs, oD, pr, lv, S5, B5⟩
      have etk : ns.take (ns.map V.str).length = ns := List.take_of_length_le (by rw [List.length_map]; omega)
      rw [etk] at pr
      have lv2 : vs.length = ns.length := by rw [lv, List.length_map]
      refine ⟨D, ps, dk ns vs, rfl, SqL.of oD, paired_map (Paired.mapP pr fun p kv h => SqT.of h.1), fun p np => ?_⟩
      rw [merge_nd (dk_nd lv2.symm nds)]
      have ap := S5.apart (Same.refl _) np
      have k5 := same_new (o := .dK (dk ns vs)) np
      have oq5 := k5 _ _ (B5 _ _ aq.1 aq.2 oq4)
      have las : as.length = i := by rw [Paired.length R4, lt4]
      have pq : p ≠ q := fun y => by rw [y, B5 _ _ aq.1 aq.2 oq4] at np; cases np
      have B6 : But l ls (upd H5 p (.dK (dk ns vs))) (upd (upd H5 p (.dK (dk ns vs))) q (.lst (as.map V.ref ++ [.ref p]))) → True := fun _ => trivial
      refine ⟨q, as.map V.ref, .ref p, rfl, rfl, oq5, (by rw [sizeLine_eq, List.length_map]; omega), ⟨as ++ [p], tbl ++ [vs], by rw [upd_same]; simp, ?_, by simp [lt4]⟩, ?_, ?_, ?_, _, _, rfl⟩
      · refine paired_snoc ⟨by rw [upd_ne pq, upd_same], lv2, ap⟩ (Paired.mapP R4 fun a vs' h => ⟨?_, h.2⟩)
        have na : a ≠ q := fun y => by rw [y, oq4] at h; cases h.1
        rw [upd_ne na]
        exact k5 _ _ (B5 _ _ h.2.2.1 h.2.2.2 h.1)
      · rw [upd_ne cq]
        exact k5 _ _ (B5 _ _ ac.1 ac.2 oc4)
      · obtain ⟨cs', g, k, m, S⟩ := S5.same k5
        have lx : (ns.map V.str).length ≤ 10 := by rw [List.length_map]; omega
        exact Strm.mono ⟨cs', g, k, m, by rw [upd_ne (Ne.symm aq.1)]; exact S.o, by rw [upd_ne (Ne.symm aq.2)]; exact S.c, S.ne, S.g0, S.k0, S.k1, S.m0, S.m1, S.sz⟩ (by omega)
      · intro b' o h1 h2 e
        have nb : b' ≠ q := fun y => by
          have z := B12 _ _ h1 h2 e
          rw [y, nq] at z; cases z
        rw [upd_ne nb]
        exact k5 _ _ (B5 _ _ h1 h2 (B4 _ _ h1 h2 e))
  · rintro σ H4 ⟨⟨as, tbl, oq4, R4, lt4⟩, oc4, S4, B4, s6, s7, rfl⟩
    have nq0 : H q = none := by
      cases e : H q with
      | none => rfl
      | some o => have z := B12 _ _ aq.1 aq.2 e; rw [nq] at z; cases z
    have nn : ns ≠ [] := fun z => by rw [z] at nl; simp at nl
    have tn : tbl ≠ [] := fun z => by rw [z] at lt4; simp at lt4; omega
    exact ⟨_, rfl, hq H4 q as ns tbl (by omega) nn nds oks (by omega) tn nq0 aq.1 aq.2 oq4 R4 (S4.mono (by omega)) B4⟩
end
end L2.TB
namespace L2.TB
open PySem
open PySem.Spec PyProof.Rows
/-! for i, x in enumerate(thing), thing a list or a tuple -/
abbrev tupIter (t : Addr) : Obj := { cls := .type "tuple_iterator", data := .fields #[.ref t, .int 0 0] }
abbrev enumRec (q : Addr) : Obj := { cls := .type "enumerate", data := .fields #[.none, .bool false, .ref q, rawInt 0, .none, .none] }
section
variable {P : Program} {w : World}
/-- what enumerate's maker does with a tuple -/
theorem made_enum (t : Addr) (ys : Array Value) : Meets (Builtin.«enumerate.__new__» ⟨[.type "enumerate", .ref t], []⟩) fun _ done z =>
    z.heap.IsTuple t ys ∧ done (.ok (.ret (.ref (z.heap.push (tupIter t)).objs.size))) { z with heap := (z.heap.push (tupIter t)).push (enumRec z.heap.objs.size) } :=
  .of_wp fun _ _ _ _ z hz => by
    obtain ⟨h0, gs, ds, tk, os⟩ := z
    obtain ⟨isT, fin⟩ := hz
    have sub := sub_enumerate
    have step : ∀ {A' : Around} {E' : Value → Shared → Prop} {Q' : Value → Shared → Prop} {P' : Program} {w' : World}, Q' (.ref h0.objs.size) ⟨h0.push (tupIter t), gs, ds, tk, os⟩ → wpAny (model P' w') A' (pyIter (.ref t)) Q' E' ⟨h0, gs, ds, tk, os⟩ :=
      fun more => wpAny_pyIter_tuple (s := ⟨h0, gs, ds, tk, os⟩) isT more
    wp_walk using step
    refine wpAny_stack_any (fun _ => wpAny_pure ?_)
    split
    · rename_i c _ _ _ _ _
      rcases (c == Value.type "enumerate") with _ | _ <;> (wp_walk using step; exact ⟨_, rfl, fin⟩)
    · wp_walk using step
      exact ⟨_, rfl, fin⟩
/-- the call -/
theorem enum_of_tuple {A : Around} {z : Shared} {E Q : Value → Shared → Prop} {t : Addr} {ys : Array Value} (isT : z.heap.IsTuple t ys)
    (more : IsEnum ((z.heap.push (tupIter t)).push (enumRec z.heap.objs.size)) (z.heap.objs.size + 1) z.heap.objs.size 0 .none →
      Q (.ref (z.heap.objs.size + 1)) { z with heap := (z.heap.push (tupIter t)).push (enumRec z.heap.objs.size) }) : wpAny (model P w) A (call (.type "enumerate") [.ref t]) Q E z := by
  refine callType_new F.called_enumerate (by decide) (F.typeCall_enumerate_1 _) (F.newCall_enumerate_1 _) (fun b => F.args_object_init_2 b _) F.entry_enumerate_new (made_enum t ys) ⟨isT, ?_⟩
  have size1 : (z.heap.push (tupIter t)).objs.size = z.heap.objs.size + 1 := Heap.size_push ..
  have rec1 := Heap.get?_push_size (z.heap.push (tupIter t)) (o := enumRec z.heap.objs.size) rfl
  rw [size1] at rec1
  show _ ∧ _
  rw [size1]
  exact ⟨⟨_, rec1, rfl⟩, more rec1⟩
end
/-- the items of the tuple at t, each in a new pair with its number -/
def IteT (K : PySem.W.Frag) (t : Addr) : It where
  go i H := ∃ (ys : List V) (y : V), SqT K H t ys ∧ ys[i]? = some y
  yld i H v H' := ∃ T y, v = .ref T ∧ H T = none ∧ H' = upd H T (.tup [.int (i : Nat), y]) ∧ ∀ ys, SqT K H t ys → ys[i]? = some y
  stop i H := ∃ ys : List V, SqT K H t ys ∧ ys.length ≤ i
/-- three records of three classes stand at three places -/
theorem three {h : Heap} {t q r : Addr} {ys : Array Value} {i : Nat} {c : Int} {old : Value} (isT : h.IsTuple t ys) (isQ : h.IsTupleIter q t i) (isR : IsEnum h r q c old) : t ≠ q ∧ r ≠ t := by
  obtain ⟨ot, gt, ct, _⟩ := isT
  obtain ⟨oq, gq, cq, _⟩ := isQ
  have ct : ot.cls = Value.type "tuple" := ct
  have cq : oq.cls = Value.type "tuple_iterator" := cq
  constructor
  · rintro rfl
    rw [gt] at gq
    injection gq with same
    rw [← same, ct] at cq
    exact absurd cq (by decide)
  · rintro rfl
    have gr := isR
    unfold IsEnum at gr
    rw [gt] at gr
    injection gr with same
    rw [same] at ct
    exact absurd (show Value.type "enumerate" = Value.type "tuple" from ct) (by decide)
theorem two_of {b r q : Addr} {p : Addr → Prop} (hr : p r) (hq : p q) (hb : b ∈ [r, q]) : p b := by
  rcases List.mem_cons.mp hb with rfl | hb
  · exact hr
  · obtain rfl := List.mem_singleton.mp hb
    exact hq
theorem turn_enumT {P : Program} {w : World} {K : PySem.W.Frag} {elts : List Expr} {kk : Nat} {tpos : Pos} (t r q : Addr) :
    Turn P w K (.Tuple elts kk tpos) (IteT K t) [r, q] r (fun i h => r ≠ q ∧ h.IsTupleIter q t i ∧ ∃ old, IsEnum h r q ((i : Nat) : Int) old) := by
  refine ⟨List.mem_cons_self, fun i h st b hb => ?_, fun i h h' st same => ?_, ?_, ?_, fun A i z Q E st more => ?_⟩
  · obtain ⟨_, ⟨oq, gq, _, dq⟩, old, gr⟩ := st
    exact two_of (p := fun b => ∃ o, h.get? b = some o ∧ ∀ v, o.data ≠ .cell v) ⟨_, gr, fun _ e => nomatch e⟩ ⟨oq, gq, fun _ e => by rw [dq] at e; exact nomatch e⟩ hb
  · obtain ⟨ne, gq, old, gr⟩ := st
    exact ⟨ne, gq.at fun o e => same q (List.mem_cons_of_mem _ List.mem_cons_self) o e, old, same r List.mem_cons_self _ gr⟩
  · rintro X rfl rfl rfl calm i pins z σ H E I room ⟨ne, gq, old, gr⟩ ⟨ys, y, isY, nth⟩
    obtain ⟨vs, rel, isT, _⟩ := I.tuple isY
    obtain ⟨v, nthV, relV⟩ := rel.get nth
    have isT : z.heap.IsTuple t vs.toArray := isT
    obtain ⟨tq, rt⟩ := three isT gq gr
    have lr : r < z.heap.objs.size := Heap.lt_size gr
    have lq : q < z.heap.objs.size := gq.elim fun _ e => Heap.lt_size e.1
    have inside : i < vs.toArray.size := by
      have := (List.getElem?_eq_some_iff.mp nthV).1
      simpa using this
    have draws := Draws.tuple (prog := X.prog) (w := X.w) (A := X.A.in1) (I.ok.hd calm) q t tq vs.toArray
    refine wpAny_pyNext_enum_itemC draws gr ⟨gq, isT⟩ inside ne (fun m => two_of (p := fun b => r = b → False) ne rt m rfl) fun v' h1 tk hv out stQ newT _ kept1 => ?_
    obtain rfl : v' = v := by
      have hv : vs.toArray[i]? = some v' := hv
      rw [List.getElem?_toArray, nthV] at hv
      exact (Option.some.inj hv).symm
    refine ⟨_, rfl, wpAny_letOwnedTupleGo_enum (s := { z with heap := h1, toks := tk + 1 }) out fun h2 back same2 => ?_⟩
    have at2 : ∀ b o, b ∉ [r, q] → z.heap.get? b = some o → h2.get? b = some o := fun b o away e =>
      (same2.2 b fun k => away (k ▸ List.mem_cons_self)).trans (kept1 b o (fun k => away (k ▸ List.mem_cons_self)) (fun k => away (k ▸ List.mem_cons_of_mem _ List.mem_cons_self)) e)
    have pair : ObjOk X.prog X.w (upd H z.heap.objs.size (.tup [.int (i : Nat), y])) h2 z.heap.objs.size (.tup [.int (i : Nat), y]) :=
      ⟨show 2 ≤ sizeLine by decide, [.int i tk, v'], .cons ⟨tk, rfl⟩ (.cons relV .nil), _, (same2.2 _ (Nat.ne_of_gt lr)).trans newT, rfl, _, rfl⟩
    refine ⟨.ref z.heap.objs.size, _, I.turnedNew (t' := tk + 1) at2 room (Nat.le_refl _) pair, rfl, ⟨_, y, rfl, I.hok.fresh (Nat.le_refl _), rfl, fun ys' is' => ?_⟩, ⟨ne, ?_, v', ?_⟩, fun b hb => ?_⟩
    · rw [I.tuple_inj is' isY]; exact nth
    · exact stQ.1.at fun o e => (same2.2 q ne.symm).trans e
    · rw [show ((i + 1 : Nat) : Int) = (i : Int) + 1 from by omega]; exact back
    · have lb : b < z.heap.objs.size := two_of (p := fun b => b < z.heap.objs.size) lr lq hb
      rw [upd_ne (Nat.ne_of_lt lb)]
      exact (room b hb).1
  · rintro X rfl rfl rfl calm i pins z σ H E I room ⟨ne, gq, old, gr⟩ ⟨ys, isY, past⟩
    obtain ⟨vs, rel, isT, _⟩ := I.tuple isY
    have isT : z.heap.IsTuple t vs.toArray := isT
    obtain ⟨k0, k1, k2, k3, k4, k5⟩ := room q (List.mem_cons_of_mem _ List.mem_cons_self)
    have isE : z.TypeIs (.ref r) "enumerate" := ⟨_, gr, rfl⟩
    have len := rel.length
    have past : vs.toArray[i]? = none := by rw [List.getElem?_toArray, List.getElem?_eq_none_iff]; omega
    unfold pyNext
    refine wpAny_bind (wpAny_attempt (wpAny_callSpecial?_slot (name := Str.ofString "__next__") isE F.slot_enumerate_next (wpAny_call_entry F.slot_enumerate_next isE F.entry_enumerate_next ?_ (F.args_enumerate_next_1 _))))
    show wpAny _ _ (field (.ref r) 2 >>= _) _ _ z
    refine wpAny_bind (wpAny_field gr rfl (x := .ref q) rfl (wpAny_bind (wpAny_nextOf_tuple_end (I.ok.hd calm) gq isT past fun h1 x but ⟨ox, gx, cx⟩ => ?_)))
    exact wpAny_bind (wpAny_isInstance (T := "StopIteration") (b := true) ⟨ox, gx, cx⟩ isSubtype_stop (wpAny_pure ⟨rfl, I.turned (t' := z.toks) (fun b o away e => but b o away e) k0 k1 k3 k4 k5⟩))
  · obtain ⟨_, _, old, gr⟩ := st
    exact wpAny_pyIter_enum gr more
/-- the reading of enumerate over a list or over a tuple -/
def iEnumS (K : PySem.W.Frag) (ta : TA) : TI := fun σ H R => ta σ H fun vs H1 => ∃ a xs, vs = [.ref a] ∧ ((SqL K H1 a xs ∧ R (Ite K a) H1) ∨ (SqT K H1 a xs ∧ R (IteT K a) H1))
theorem pi_enumS {X : Cx} {e : Expr} {ta : TA} {p pos tpos : Pos} {elts : List Expr} {kk : Nat} (hg : Gl X "enumerate") (hm : X.mg "enumerate" = none) (ha : PA X [e] ta) (hs : starEach [e] X.env = [(false, eval e X.env)] := by rfl) :
    PI X (.Tuple elts kk tpos) (.Call (.Name "enumerate" p) [e] [] pos) (iEnumS X.K ta) := by
  refine PI.mk fun pins z σ H R I reading => Call_ (ld_blt I hg hm boot_enumerate (PyProof.Rows.callWith_type1 (thn (ha.run pos pins z σ H _ I reading) fun us z1 hu => ?_) hs rfl))
  obtain ⟨vs, H1, I1, rel, a, xs, rfl, cases2⟩ := hu
  match us, rel with
  | [u], .cons ru .nil =>
    obtain rfl : u = Value.ref a := ru
    have fresh : ∀ b ∈ [z1.heap.objs.size + 1, z1.heap.objs.size], FpOk X pins H1 b := fun b hb =>
      have far : z1.heap.objs.size ≤ b := two_of (p := fun b => z1.heap.objs.size ≤ b) (Nat.le_succ _) (Nat.le_refl _) hb
      I1.fpOk far (I1.hok.fresh far)
    rcases cases2 with ⟨sq, q⟩ | ⟨sq, q⟩
    · obtain ⟨its, rv, isL, _⟩ := I1.list sq
      exact call_enumerate_list isL.isList fun h' gE gI _ kept => wpAny_pyIter_enum gE ⟨_, _, _, _, H1, rfl, I1.kept (t' := z1.toks) kept, turn_enum a _ _, ⟨⟨.none, gE⟩, gI, Nat.succ_ne_self _⟩, fresh, q⟩
    · obtain ⟨its, rv, isT, _⟩ := I1.tuple sq
      have isT : z1.heap.IsTuple a its.toArray := isT
      refine enum_of_tuple isT fun gE => wpAny_pyIter_enum gE ⟨_, _, _, _, H1, rfl, I1.kept (t' := z1.toks) fun b o e => ?_, turn_enumT a _ _, ⟨Nat.succ_ne_self _, ?_, .none, gE⟩, fresh, q⟩
      · exact Heap.get?_push_of_some _ (Heap.get?_push_of_some _ e)
      · exact ⟨_, Heap.get?_push_of_some _ (Heap.get?_push_size _ rfl), rfl, rfl⟩
end L2.TB
namespace L2.TB
open PySem PySem.Spec PyProof.Rows
/-! the program's looks at what it is passed -/
theorem boot_int' : bootBuiltins "int" = some (.type "int") := by decide +kernel
theorem boot_bool' : bootBuiltins "bool" = some (.type "bool") := by decide +kernel
theorem boot_str' : bootBuiltins "str" = some (.type "str") := by decide +kernel
theorem boot_list' : bootBuiltins "list" = some (.type "list") := by decide +kernel
theorem boot_tuple' : bootBuiltins "tuple" = some (.type "tuple") := by decide +kernel
theorem boot_dict' : bootBuiltins "dict" = some (.type "dict") := by decide +kernel
theorem boot_isi : bootBuiltins "isinstance" = some (.builtin "isinstance") := by decide +kernel
/-- the list or the tuple at a -/
def SqA (K : PySem.W.Frag) (H : Hp) (a : Addr) (xs : List V) : Prop := H a = some (.lst xs) ∨ H a = some (.tup xs)
theorem SqA.seq {K : PySem.W.Frag} {H : Hp} {a : Addr} {xs : List V} (h : SqA K H a xs) : SqL K H a xs ∨ SqT K H a xs := h.imp SqL.of SqT.of
theorem SqA.same {K : PySem.W.Frag} {H H' : Hp} {a : Addr} {xs : List V} (h : SqA K H a xs) (s : Same H H') : SqA K H' a xs := h.imp (s _ _) (s _ _)
theorem kit_two_l {K : PySem.W.Frag} : PySem.W.kitAny K (.type "list") [.type "list", .type "tuple"] = some true := by
  unfold PySem.W.kitAny
  rw [kit_ty (K := K) (a := "list") (b := "list") (r := true) (by decide +kernel)]
theorem kit_two_t {K : PySem.W.Frag} : PySem.W.kitAny K (.type "tuple") [.type "list", .type "tuple"] = some true := by
  unfold PySem.W.kitAny
  rw [kit_ty (K := K) (a := "tuple") (b := "list") (r := false) (by decide +kernel)]
  dsimp only
  unfold PySem.W.kitAny
  rw [kit_ty (K := K) (a := "tuple") (b := "tuple") (r := true) (by decide +kernel)]
def spIsInt : Sp := fun vs H Q _ => ∃ k : Int, vs = [.int k] ∧ Q (.bl true) H
def spIsList (K : PySem.W.Frag) : Sp := fun vs H Q _ => ∃ (a : Addr) (xs : List V), vs = [.ref a] ∧ SqA K H a xs ∧ ∀ H', Same H H' → Q (.bl true) H'
def spIsOne (K : PySem.W.Frag) : Sp := fun vs H Q _ => ∃ (c : Addr) (ns : List Str) (x : Str), vs = [.ref c, .str x] ∧ SqL K H c (ns.map V.str) ∧ Q (.bl (decide (x ∈ ns))) H
/-- no bad one -/
def spFirst (K : PySem.W.Frag) : Sp := fun vs H Q _ => ∃ (c a : Addr) (ns known : List Str), vs = [.ref c, .ref a] ∧ H c = some (.lst (ns.map V.str)) ∧ SqA K H a (known.map V.str) ∧ known.Nodup ∧ (∀ x ∈ known, x ∈ ns) ∧ known.length < 1000 ∧ ∀ H', Same H H' → Q .non H'
theorem scIsInt : FnScope ["thing"] ["thing"] (defScope sIsInt) := ⟨rfl, rfl, rfl, by decide +kernel, rfl, by decide +kernel, by decide +kernel⟩
theorem scIsList : FnScope ["thing"] ["thing"] (defScope sIsList) := ⟨rfl, rfl, rfl, by decide +kernel, rfl, by decide +kernel, by decide +kernel⟩
theorem scIsOne : FnScope ["names", "thing"] ["names", "thing"] (defScope sIsOne) := ⟨rfl, rfl, rfl, by decide +kernel, rfl, by decide +kernel, by decide +kernel⟩
abbrev NF : List Str := ["names", "things", "seen", "index", "thing"]
theorem scFirst : FnScope NF ["names", "things"] (defScope sFirst) := ⟨rfl, rfl, rfl, by decide +kernel, rfl, by decide +kernel, by decide +kernel⟩
section
variable {P : Program} {w : World} {K : PySem.W.Frag} {mg : Str → Option Value} {base : Heap} {f fL fO : Addr} {fd fdL fdO : FuncData}
theorem ok_isInt (F : Fun K "is_integer" "is_integer" sIsInt f fd) (gI : mg "isinstance" = none) (gInt : mg "int" = none) (gB : mg "bool" = none) : FnOk P w K mg base CX0 1 f fd ["thing"] spIsInt := by
  refine F.ok scIsInt (fun vs H Q E h => by obtain ⟨k, e, _⟩ := h; rw [e]; rfl) fun cdv A outer s H vs Q E hr hsp => ?_
  obtain ⟨k, rfl, hq⟩ := hsp
  refine ⟨_, pss_one (ps_ret (pe_and (pe_callB (r := rIsi K) call_isi rfl gI boot_isi (pa_cons (pv 0) (pa_cons (pe_bltn (v := .ty "int") rfl gInt boot_int' rfl) pa_nil)))
    (pe_one (pe_not (pe_callB (r := rIsi K) call_isi rfl gI boot_isi (pa_cons (pv 0) (pa_cons (pe_bltn (v := .ty "bool") rfl gB boot_bool' rfl) pa_nil))))))), ?_⟩
  exact ⟨_, rfl, _, _, _, _, true, rfl, .ty _, .base (.int k), kit_ty (by decide +kernel), true, rfl, _, rfl, _, _, _, _, false, rfl, .ty _, .base (.int k), kit_ty (by decide +kernel), false, rfl, hq⟩
theorem ok_isList (F : Fun K "is_list" "is_list" sIsList f fd) (gI : mg "isinstance" = none) (gL : mg "list" = none) (gT : mg "tuple" = none) : FnOk P w K mg base CX0 1 f fd ["thing"] (spIsList K) := by
  refine F.ok scIsList (fun vs H Q E h => by obtain ⟨a, xs, e, _⟩ := h; rw [e]; rfl) fun cdv A outer s H vs Q E hr hsp => ?_
  obtain ⟨a, xs, rfl, hS, hq⟩ := hsp
  refine ⟨_, pss_one (ps_ret (pe_callB (r := rIsiT K) call_isiT rfl gI boot_isi (pa_cons (pv 0) (pa_cons (pe_tup (pa_cons (pe_bltn (v := .ty "list") rfl gL boot_list' rfl) (pa_cons (pe_bltn (v := .ty "tuple") rfl gT boot_tuple' rfl) pa_nil))) pa_nil)))), ?_⟩
  refine ⟨_, rfl, (by show 2 ≤ sizeLine; decide), fun t nt => ?_⟩
  have kt := same_new (o := .tup [.ty "list", .ty "tuple"]) nt
  rcases hS.same kt with e | e
  · exact ⟨_, _, _, _, _, true, rfl, upd_same, .cons (.ty _) (.cons (.ty _) .nil), .base (.lst e), kit_two_l, hq _ kt⟩
  · exact ⟨_, _, _, _, _, true, rfl, upd_same, .cons (.ty _) (.cons (.ty _) .nil), .base (.tup e), kit_two_t, hq _ kt⟩
theorem ok_isOne (F : Fun K "is_one_of" "is_one_of" sIsOne f fd) (gI : mg "isinstance" = none) (gS : mg "str" = none) : FnOk P w K mg base CX0 1 f fd ["names", "thing"] (spIsOne K) := by
  refine F.ok scIsOne (fun vs H Q E h => by obtain ⟨c, ns, x, e, _⟩ := h; rw [e]; rfl) fun cdv A outer s H vs Q E hr hsp => ?_
  obtain ⟨c, ns, x, rfl, hS, hq⟩ := hsp
  refine ⟨_, pss_one (ps_ret (pe_and (pe_callB (r := rIsi K) call_isi rfl gI boot_isi (pa_cons (pv 1) (pa_cons (pe_bltn (v := .ty "str") rfl gS boot_str' rfl) pa_nil)))
    (pe_one (pe_cmpR op_in_seq (pv 1) (pv 0) rfl)))), ?_⟩
  refine ⟨_, rfl, _, _, _, _, true, rfl, .ty _, .base (.str x), kit_ty (by decide +kernel), true, rfl, _, rfl, _, rfl, c, _, rfl, .inl hS, rfl, flat_strs ns, ?_⟩
  rw [inV_strs]
  exact hq
/-- the dict of what was seen -/
def seenD (xs : List Str) : List (Key × V) := xs.map fun x => (Sum.inr x, V.bl true)
theorem seen_none {xs : List Str} {x : Str} (h : x ∉ xs) : valV (seenD xs) (Sum.inr x) = none := by
  cases e : valV (seenD xs) (Sum.inr x) with
  | none => rfl
  | some v =>
    exfalso
    have z : (valV (seenD xs) (Sum.inr x)).isSome = true := by rw [e]; rfl
    rw [← valV_any, List.any_eq_true] at z
    obtain ⟨q, hq, hq2⟩ := z
    obtain ⟨y, hy, rfl⟩ := List.mem_map.mp hq
    have hq3 : (Sum.inr y : Key) = Sum.inr x := of_decide_eq_true hq2
    exact h (Sum.inr.inj hq3 ▸ hy)
theorem seen_put {xs : List Str} {x : Str} (h : x ∉ xs) : putK (seenD xs) (Sum.inr x) (.bl true) = seenD (xs ++ [x]) := by
  rw [putK_new (.bl true) (seen_none h)]
  simp [seenD]
/-- what the for loop asks of its turns -/
def ForW (J : It) (g : TG) (tb : TS) (D : Ends) (σ : St) (H : Hp) : Prop := ∃ W : Nat → Nat → St → Hp → Prop, (∃ m, W 0 m σ H) ∧ ∀ i m σ H, W i m σ H →
  (J.stop i H ∧ D.nx σ H) ∨ (J.go i H ∧ ∃ N : St → Hp → Prop, (∀ σ' H', N σ' H' → ∃ m', m' < m ∧ W (i + 1) m' σ' H') ∧ ∀ x H', J.yld i H x H' → g x σ H' fun σ2 H2 => tb { D with nx := N, ct := N, bk := D.nx } σ2 H2)
theorem enum_seq {K : PySem.W.Frag} {a : Addr} {xs : List V} {o : HO} {g : TG} {tb : TS} {D : Ends} {σ : St} {H : Hp} (ko : o = .lst xs ∨ o = .tup xs) (Pv : Nat → St → Hp → Prop) (h0 : Pv 0 σ H) (hl : ∀ i σ H, i ≤ xs.length → Pv i σ H → H a = some o)
    (hs : ∀ i x σ H T, xs[i]? = some x → Pv i σ H → H T = none → g (.ref T) σ (upd H T (.tup [.int (i : Nat), x])) fun σ2 H2 => tb { D with nx := Pv (i + 1), ct := Pv (i + 1), bk := D.nx } σ2 H2) (hd : ∀ σ H, Pv xs.length σ H → D.nx σ H) :
    ∃ b ys, [V.ref a] = [V.ref b] ∧ ((SqL K H b ys ∧ ForW (Ite K b) g tb D σ H) ∨ (SqT K H b ys ∧ ForW (IteT K b) g tb D σ H)) := by
  have fin : ∀ J : It, (∀ i H, i < xs.length → H a = some o → J.go i H) → (∀ i H, i = xs.length → H a = some o → J.stop i H) → (∀ i H v H', i < xs.length → H a = some o → J.yld i H v H' → ∃ T x, v = .ref T ∧ H T = none ∧ H' = upd H T (.tup [.int (i : Nat), x]) ∧ xs[i]? = some x) → ForW J g tb D σ H := by
    intro J go stop yld
    refine ⟨fun i m σ H => m = xs.length - i ∧ i ≤ xs.length ∧ Pv i σ H, ⟨_, rfl, Nat.zero_le _, h0⟩, ?_⟩
    rintro i m σ H ⟨rfl, le, p⟩
    have q := hl i σ H le p
    by_cases lt : i < xs.length
    · refine .inr ⟨go i H lt q, Pv (i + 1), fun σ' H' p' => ⟨xs.length - (i + 1), by omega, rfl, lt, p'⟩, fun v H' y => ?_⟩
      obtain ⟨T, x, rfl, nT, rfl, ex⟩ := yld i H v H' lt q y
      exact hs i x σ H T ex p nT
    · obtain rfl : i = xs.length := by omega
      exact .inl ⟨stop _ H rfl q, hd σ H p⟩
  have q0 := hl 0 σ H (Nat.zero_le _) h0
  rcases ko with rfl | rfl
  · exact ⟨a, xs, rfl, .inl ⟨SqL.of q0, fin _ (fun i H lt q => ⟨xs, xs[i], SqL.of q, by simp [lt]⟩) (fun i H e' q => ⟨xs, SqL.of q, by omega⟩)
      (fun i H v H' lt q ⟨T, x, e1, e2, e3, e4⟩ => ⟨T, x, e1, e2, e3, e4 xs (SqL.of q)⟩)⟩⟩
  · exact ⟨a, xs, rfl, .inr ⟨SqT.of q0, fin _ (fun i H lt q => ⟨xs, xs[i], SqT.of q, by simp [lt]⟩) (fun i H e' q => ⟨xs, SqT.of q, by omega⟩)
      (fun i H v H' lt q ⟨T, x, e1, e2, e3, e4⟩ => ⟨T, x, e1, e2, e3, e4 xs (SqT.of q)⟩)⟩⟩
theorem ok_first (F : Fun K "first_bad" "first_bad" sFirst f fd) (FL : Fun K "is_list" "is_list" sIsList fL fdL) (gIL : mg "is_list" = some (.ref fL)) (FO : Fun K "is_one_of" "is_one_of" sIsOne fO fdO) (gIO : mg "is_one_of" = some (.ref fO))
    (gI : mg "isinstance" = none) (gL : mg "list" = none) (gT : mg "tuple" = none) (gS : mg "str" = none) (gE : mg "enumerate" = none) : FnOk P w K mg base CX0 2 f fd ["names", "things"] (spFirst K) := by
  have GL : FnOk P w K mg base CX0 1 fL fdL ["thing"] (spIsList K) := ok_isList FL gI gL gT
  have bL := FL.binds (ps := ["thing"]) fun _ _ _ _ _ _ us hl => match us, hl with | [_], _ => rfl
  have GO : FnOk P w K mg base CX0 1 fO fdO ["names", "thing"] (spIsOne K) := ok_isOne FO gI gS
  have bO := FO.binds (ps := ["names", "thing"]) fun _ _ _ _ _ _ us hl => match us, hl with | [_, _], _ => rfl
  refine F.ok scFirst (fun vs H Q E h => by obtain ⟨c, a, ns, known, e, _⟩ := h; rw [e]; rfl) fun cdv A outer s H vs Q E hr hsp => ?_
  obtain ⟨c, a, ns, known, rfl, hc, hS, nd1, sub, short, hq⟩ := hsp
  have nd := scFirst.nd
  have hu := hu_of hr
  refine ⟨_, pss_cons (ps_if (pt_not (pt_val (pe_call GL hr rfl gIL FL.kp bL .nil pass0 (pa_cons (pv 1) pa_nil)))) (pss_one ps_never) pss_nil)
    (pss_cons (ps_set (i := 2) nd rfl (Or.inl rfl) pe_dnewK)
    (pss_cons (ps_for PassesOwn.never rfl (pi_enumS rfl gE (pa_cons (pv 1) pa_nil)) (pg_tup rfl (pgs_cons (pg_name (i := 3) nd rfl (Or.inl rfl)) (pgs_cons (pg_name (i := 4) nd rfl (Or.inl rfl)) pgs_nil)))
      (pss_cons (ps_if (PW.pt (pw_or (pt_not (pt_val (pe_call GO hr rfl gIO FO.kp bO .nil pass0 (pa_cons (pv 0) (pa_cons (pv 4) pa_nil))))) (pw_or1 (pt_cmp (pc_din hu (pv 4) (pv 2)))))) (pss_one ps_never) pss_nil)
      (pss_one (ps_dput hu (pv 2) (pv 4) pe_bl rfl))))
    (pss_one (ps_ret pe_non)))), ?_⟩
  refine ⟨_, rfl, a, _, rfl, hS, fun H1 k1 => ⟨_, rfl, iteF fun d nd2 => ?_⟩⟩
  have kd := same_new (o := .dK []) nd2
  obtain ⟨o, ho, ko⟩ : ∃ o, H1 a = some o ∧ (o = .lst (known.map V.str) ∨ o = .tup (known.map V.str)) := by
    rcases hS.same k1 with e | e
    · exact ⟨_, e, .inl rfl⟩
    · exact ⟨_, e, .inr rfl⟩
  refine ⟨_, rfl, enum_seq ko (fun i σ H' => H' d = some (.dK (seenD (known.take i))) ∧ Same H1 H' ∧ ∃ s3 s4, σ = [some (.ref c), some (.ref a), some (.ref d), s3, s4])
    ⟨upd_same, kd, _, _, rfl⟩ (fun i σ H' _ h => h.2.1 _ _ ho) ?_ ?_⟩
  · rintro i v σ H2 T ev ⟨od, s2, s3, s4, rfl⟩ nT
    rw [List.getElem?_map] at ev
    obtain ⟨x, ex, rfl⟩ := Option.map_eq_some_iff.mp ev
    have hi : i < known.length := (List.getElem?_eq_some_iff.mp ex).1
    have kT := same_new (o := .tup [.int (i : Nat), .str x]) nT
    refine ⟨T, _, rfl, SqT.of upd_same, rfl, ?_⟩
    have e1 : known.take (i + 1) = known.take i ++ [x] := by rw [List.take_succ, ex]; rfl
    have notin : x ∉ known.take i := fun m => by
      have z := nd1
      rw [← List.take_append_drop (i + 1) known, e1, List.append_assoc, List.nodup_append] at z
      exact z.2.2 x m x (by simp) rfl
    have xin : x ∈ ns := sub x (List.mem_of_getElem? ex)
    refine ⟨_, _, rfl, _, _, rfl, rfl, ?_⟩
    refine ⟨_, rfl, _, rfl, c, ns, x, rfl, SqL.of (kT _ _ (s2 _ _ (k1 _ _ hc))), _, rfl, ?_⟩
    rw [decide_eq_true xin]
    refine iteF ⟨_, rfl, _, rfl, d, _, rfl, DGet.k (k := Sum.inr x) (kT _ _ od), ?_⟩
    rw [seen_none notin]
    refine ⟨_, rfl, iteF ?_⟩
    have small : (seenD (known.take i)).length < sizeLine := by
      rw [sizeLine_eq]
      unfold seenD
      rw [List.length_map, List.length_take]; omega
    refine ⟨_, rfl, _, rfl, d, _, rfl, DPut.k (k := Sum.inr x) (kT _ _ od) small, ?_, ?_, _, _, rfl⟩
    · rw [upd_same, seen_put notin, ← e1]
    · intro b u e
      have nb : b ≠ d := ne_of_none e nd2
      rw [upd_ne nb]
      exact kT _ _ (s2 _ _ e)
  · rintro σ H2 ⟨od, s2, s3, s4, rfl⟩
    exact hq _ (k1.trans s2)
end
end L2.TB
namespace L2.TB
open PySem PySem.Spec PyProof.Rows
/-! the checks, where nothing is wrong -/
def spCkA (K : PySem.W.Frag) : Sp := fun vs H Q _ => ∃ (c : Addr) (ns : List Str) (x : Str), vs = [.ref c, .str x] ∧ SqL K H c (ns.map V.str) ∧ x ∈ ns ∧ Q .non H
def spCkB (K : PySem.W.Frag) : Sp := fun vs H Q _ => ∃ (c a : Addr) (ns known : List Str) (x : Str), vs = [.ref c, .ref a, .str x] ∧ H c = some (.lst (ns.map V.str)) ∧ SqA K H a (known.map V.str) ∧ known.Nodup ∧ (∀ x ∈ known, x ∈ ns) ∧ known.length < 1000 ∧ x ∈ ns ∧ ∀ H', Same H H' → Q .non H'
theorem scCkK : FnScope ["names", "known", "index"] ["names", "known"] (defScope sCkK) := ⟨rfl, rfl, rfl, by decide +kernel, rfl, by decide +kernel, by decide +kernel⟩
theorem scCkA : FnScope ["names", "asked"] ["names", "asked"] (defScope sCkA) := ⟨rfl, rfl, rfl, by decide +kernel, rfl, by decide +kernel, by decide +kernel⟩
theorem scCkB : FnScope ["names", "known", "asked"] ["names", "known", "asked"] (defScope sCkB) := ⟨rfl, rfl, rfl, by decide +kernel, rfl, by decide +kernel, by decide +kernel⟩
/-- what the checks need of the module -/
structure Chk (K : PySem.W.Frag) (mg : Str → Option Value) (aF aL aO aK aA aB : Addr) : Prop where
  F : ∃ fd, Fun K "first_bad" "first_bad" sFirst aF fd
  L : ∃ fd, Fun K "is_list" "is_list" sIsList aL fd
  O : ∃ fd, Fun K "is_one_of" "is_one_of" sIsOne aO fd
  CK : ∃ fd, Fun K "check_known" "check_known" sCkK aK fd
  CA : ∃ fd, Fun K "check_asked" "check_asked" sCkA aA fd
  CB : ∃ fd, Fun K "check_both" "check_both" sCkB aB fd
  gF : mg "first_bad" = some (.ref aF)
  gL : mg "is_list" = some (.ref aL)
  gO : mg "is_one_of" = some (.ref aO)
  gCK : mg "check_known" = some (.ref aK)
  gCA : mg "check_asked" = some (.ref aA)
  gCB : mg "check_both" = some (.ref aB)
  nI : mg "isinstance" = none
  nL : mg "list" = none
  nT : mg "tuple" = none
  nS : mg "str" = none
  nE : mg "enumerate" = none
section
variable {P : Program} {w : World} {K : PySem.W.Frag} {mg : Str → Option Value} {base : Heap} {aF aL aO aK aA aB : Addr} {fd : FuncData}
theorem ok_ckK (C : Chk K mg aF aL aO aK aA aB) (F : Fun K "check_known" "check_known" sCkK aK fd) : FnOk P w K mg base CX0 3 aK fd ["names", "known"] (spFirst K) := by
  obtain ⟨fdF, FF⟩ := C.F
  obtain ⟨fdL, FL⟩ := C.L
  obtain ⟨fdO, FO⟩ := C.O
  have G : FnOk P w K mg base CX0 2 aF fdF ["names", "things"] (spFirst K) := ok_first FF FL C.gL FO C.gO C.nI C.nL C.nT C.nS C.nE
  have b := FF.binds (ps := ["names", "things"]) fun _ _ _ _ _ _ us hl => match us, hl with | [_, _], _ => rfl
  refine F.ok scCkK (fun vs H Q E h => by obtain ⟨c, a, ns, known, e, _⟩ := h; rw [e]; rfl) fun cdv A outer s H vs Q E hr hsp => ?_
  obtain ⟨c, a, ns, known, rfl, hc, hS, nd1, sub, short, hq⟩ := hsp
  have nd := scCkK.nd
  refine ⟨_, pss_cons (ps_set (i := 2) nd rfl (Or.inl rfl) (pe_call G hr rfl C.gF FF.kp b .nil pass0 (pa_cons (pv 0) (pa_cons (pv 1) pa_nil))))
    (pss_one (ps_if (pt_cmp (pc_notN (pv 2))) (pss_one ps_never) pss_nil)), ?_⟩
  refine ⟨_, rfl, _, rfl, c, a, ns, known, rfl, hc, hS, nd1, sub, short, fun H1 k1 => ?_⟩
  exact ⟨_, rfl, _, rfl, iteF (hq H1 k1)⟩
theorem ok_ckA (C : Chk K mg aF aL aO aK aA aB) (F : Fun K "check_asked" "check_asked" sCkA aA fd) : FnOk P w K mg base CX0 2 aA fd ["names", "asked"] (spCkA K) := by
  obtain ⟨fdO, FO⟩ := C.O
  have G : FnOk P w K mg base CX0 1 aO fdO ["names", "thing"] (spIsOne K) := ok_isOne FO C.nI C.nS
  have b := FO.binds (ps := ["names", "thing"]) fun _ _ _ _ _ _ us hl => match us, hl with | [_, _], _ => rfl
  refine F.ok scCkA (fun vs H Q E h => by obtain ⟨c, ns, x, e, _⟩ := h; rw [e]; rfl) fun cdv A outer s H vs Q E hr hsp => ?_
  obtain ⟨c, ns, x, rfl, hc, xin, hq⟩ := hsp
  refine ⟨_, pss_one (ps_if (pt_not (pt_val (pe_call G hr rfl C.gO FO.kp b .nil pass0 (pa_cons (pv 0) (pa_cons (pv 1) pa_nil))))) (pss_one ps_never) pss_nil), ?_⟩
  refine ⟨_, rfl, _, rfl, c, ns, x, rfl, hc, _, rfl, ?_⟩
  rw [decide_eq_true xin]
  exact iteF hq
theorem ok_ckB (C : Chk K mg aF aL aO aK aA aB) (F : Fun K "check_both" "check_both" sCkB aB fd) : FnOk P w K mg base CX0 4 aB fd ["names", "known", "asked"] (spCkB K) := by
  obtain ⟨fdK, FK⟩ := C.CK
  obtain ⟨fdA, FA⟩ := C.CA
  have GK := ok_ckK (P := P) (w := w) (base := base) C FK
  have bK := FK.binds (ps := ["names", "known"]) fun _ _ _ _ _ _ us hl => match us, hl with | [_, _], _ => rfl
  have GA := ok_ckA (P := P) (w := w) (base := base) C FA
  have bA := FA.binds (ps := ["names", "asked"]) fun _ _ _ _ _ _ us hl => match us, hl with | [_, _], _ => rfl
  refine F.ok scCkB (fun vs H Q E h => by obtain ⟨c, a, ns, known, x, e, _⟩ := h; rw [e]; rfl) fun cdv A outer s H vs Q E hr hsp => ?_
  obtain ⟨c, a, ns, known, x, rfl, hc, hS, nd1, sub, short, xin, hq⟩ := hsp
  refine ⟨_, pss_cons (ps_expr (pe_call GK hr rfl C.gCK FK.kp bK .nil pass0 (pa_cons (pv 0) (pa_cons (pv 1) pa_nil))))
    (pss_one (ps_expr (pe_call GA (hr.mono (by decide)) rfl C.gCA FA.kp bA .nil pass0 (pa_cons (pv 0) (pa_cons (pv 2) pa_nil))))), ?_⟩
  refine ⟨_, rfl, _, rfl, c, a, ns, known, rfl, hc, hS, nd1, sub, short, fun H1 k1 => ?_⟩
  exact ⟨_, rfl, _, rfl, c, ns, x, rfl, SqL.of (k1 _ _ hc), xin, hq H1 k1⟩
end
end L2.TB
namespace L2.TB
open PySem PySem.Spec PyProof.Rows
/-! what is walked is a list or a tuple -/
def iSeq (K : PySem.W.Frag) (tl : TE) : TI := fun σ H R => tl σ H fun x H1 => ∃ a xs, x = .ref a ∧ ((SqL K H1 a xs ∧ R (Itl K a) H1) ∨ (SqT K H1 a xs ∧ R (Itt K a) H1))
theorem pi_seq {X : Cx} {tg l : Expr} {tl : TE} (hl : PE X l tl) : PI X tg l (iSeq X.K tl) := by
  refine PI.mk fun pins z σ H R I reading => thn (hl.run pins z σ H _ I reading) fun v z1 ⟨x, H1, I1, rel, a, xs, ex, both⟩ => ?_
  subst ex
  obtain rfl : v = Value.ref a := rel
  have one : ∀ (o : Obj), FpOk X pins H1 z1.heap.objs.size := fun _ => I1.fpOk (Nat.le_refl _) (I1.hok.fresh (Nat.le_refl _))
  have fresh : ∀ b ∈ [z1.heap.objs.size], FpOk X pins H1 b := fun b hb => by
    obtain rfl := List.mem_singleton.mp hb
    exact I1.fpOk (Nat.le_refl _) (I1.hok.fresh (Nat.le_refl _))
  rcases both with ⟨sq, q⟩ | ⟨sq, q⟩
  · obtain ⟨its, rv, isL, _⟩ := I1.list sq
    exact wpAny_pyIter_list isL.isList ⟨_, _, _, _, H1, rfl, I1.kept (t' := z1.toks) (fun b o e => Heap.get?_push_of_some _ e), turn_list a _, ⟨_, Heap.get?_push_size _ rfl, rfl, rfl⟩, fresh, q⟩
  · obtain ⟨its, rv, isT, _⟩ := I1.tuple sq
    exact wpAny_pyIter_tuple (show z1.heap.IsTuple a its.toArray from isT) ⟨_, _, _, _, H1, rfl, I1.kept (t' := z1.toks) (fun b o e => Heap.get?_push_of_some _ e), turn_tuple a _, ⟨_, Heap.get?_push_size _ rfl, rfl, rfl⟩, fresh, q⟩
/-- a for loop over it -/
theorem for_seq {K : PySem.W.Frag} {a : Addr} {xs : List V} {o : HO} {g : TG} {tb : TS} {D : Ends} {σ : St} {H : Hp} (ko : o = .lst xs ∨ o = .tup xs) (Pv : Nat → St → Hp → Prop) (h0 : Pv 0 σ H) (hl : ∀ i σ H, i ≤ xs.length → Pv i σ H → H a = some o)
    (hs : ∀ i x σ H, xs[i]? = some x → Pv i σ H → g x σ H fun σ2 H2 => tb { D with nx := Pv (i + 1), ct := Pv (i + 1), bk := D.nx } σ2 H2) (hd : ∀ σ H, Pv xs.length σ H → D.nx σ H) :
    ∃ b ys, V.ref a = V.ref b ∧ ((SqL K H b ys ∧ ForW (Itl K b) g tb D σ H) ∨ (SqT K H b ys ∧ ForW (Itt K b) g tb D σ H)) := by
  have q0 := hl 0 σ H (Nat.zero_le _) h0
  rcases ko with rfl | rfl
  · exact ⟨a, xs, rfl, .inl ⟨SqL.of q0, for_list Pv h0 (fun i σ H le p => SqL.of (hl i σ H le p)) hs hd⟩⟩
  · exact ⟨a, xs, rfl, .inr ⟨SqT.of q0, for_tup Pv h0 (fun i σ H le p => SqT.of (hl i σ H le p)) hs hd⟩⟩
/-- what a list comprehension asks of its turns -/
def LcW (J : It) (g : TG) (tt : TT) (te : TE) (vs : List Nat) (σ : St) (H1 : Hp) (Q : Addr → Hp → Prop) : Prop := ∀ D, H1 D = none → ∃ W : Nat → Nat → Hp → Prop, (∃ m, W 0 m (upd H1 D (.lst []))) ∧ ∀ i m H, W i m H →
  (J.stop i H ∧ Q D H) ∨ (J.go i H ∧ ∃ Nx : Hp → Prop, (∀ H', Nx H' → ∃ m', m' < m ∧ W (i + 1) m' H') ∧ ∀ x H', J.yld i H x H' → g x (wipe σ vs) H' fun σ2 H2 => wipe σ2 vs = wipe σ vs ∧ tt σ2 H2 fun b H3 =>
    if b = true then te σ2 H3 fun y H4 => ∃ acc, H4 D = some (.lst acc) ∧ acc.length < sizeLine ∧ Nx (upd H4 D (.lst (acc ++ [y]))) else Nx H3)
/-- a turn of a comprehension: keep tells whether x is kept, fv x is what is made of it; nothing that was there is changed -/
def LcTurn (g : TG) (tt : TT) (te : TE) (vs : List Nat) (σ : St) (xs : List V) (keep : V → Bool) (fv : V → V) (H1 : Hp) : Prop :=
  ∀ (i : Nat) (x : V) (H : Hp) (C : V → Hp → Prop) (N : Hp → Prop), xs[i]? = some x → Same H1 H → (keep x = true → ∀ H4, Same H H4 → C (fv x) H4) → (keep x = false → ∀ H4, Same H H4 → N H4) →
    g x (wipe σ vs) H fun σ2 H2 => wipe σ2 vs = wipe σ vs ∧ tt σ2 H2 fun b H3 => if b = true then te σ2 H3 C else N H3
theorem filter_snoc (keep : V → Bool) (fv : V → V) {xs : List V} {i : Nat} {x : V} (ex : xs[i]? = some x) :
    ((xs.take (i + 1)).filter keep).map fv = ((xs.take i).filter keep).map fv ++ (if keep x = true then [fv x] else []) := by
  have e1 : xs.take (i + 1) = xs.take i ++ [x] := by rw [List.take_succ, ex]; rfl
  rw [e1, List.filter_append, List.map_append]
  congr 1
  cases h : keep x <;> simp [h]
theorem lc_seq {K : PySem.W.Frag} {a : Addr} {xs : List V} {o : HO} {g : TG} {tt : TT} {te : TE} {vs : List Nat} {σ : St} {H1 : Hp} {Q : Addr → Hp → Prop} (ko : o = .lst xs ∨ o = .tup xs) (ho : H1 a = some o) (short : xs.length < 1000000) (keep : V → Bool) (fv : V → V)
    (turn : LcTurn g tt te vs σ xs keep fv H1) (fin : ∀ H D, H1 D = none → H D = some (.lst ((xs.filter keep).map fv)) → Same H1 H → Q D H) :
    ∃ b ys, V.ref a = V.ref b ∧ ((SqL K H1 b ys ∧ LcW (Itl K b) g tt te vs σ H1 Q) ∨ (SqT K H1 b ys ∧ LcW (Itt K b) g tt te vs σ H1 Q)) := by
  have go : ∀ D, H1 D = none → ∀ (i : Nat) (x : V) (H : Hp), xs[i]? = some x → (H D = some (.lst (((xs.take i).filter keep).map fv)) ∧ Same H1 H) → g x (wipe σ vs) H fun σ2 H2 => wipe σ2 vs = wipe σ vs ∧ tt σ2 H2 fun b H3 =>
      if b = true then te σ2 H3 fun y H4 => ∃ acc, H4 D = some (.lst acc) ∧ acc.length < sizeLine ∧ ((upd H4 D (.lst (acc ++ [y]))) D = some (.lst (((xs.take (i + 1)).filter keep).map fv)) ∧ Same H1 (upd H4 D (.lst (acc ++ [y])))) else (H3 D = some (.lst (((xs.take (i + 1)).filter keep).map fv)) ∧ Same H1 H3) := by
    rintro D nD i x H ex ⟨oD, s1⟩
    refine turn i x H _ _ ex s1 (fun k H4 s4 => ⟨_, s4 _ _ oD, ?_, ?_, ?_⟩) (fun k H4 s4 => ⟨?_, s1.trans s4⟩)
    · rw [sizeLine_eq, List.length_map]
      have := List.length_filter_le keep (xs.take i)
      rw [List.length_take] at this
      omega
    · rw [upd_same, filter_snoc keep fv ex, if_pos k]
    · intro b u e
      have nb : b ≠ D := ne_of_none e nD
      rw [upd_ne nb]
      exact s4 _ _ (s1 _ _ e)
    · rw [filter_snoc keep fv ex, k]
      simpa using s4 _ _ oD
  have all : xs.take xs.length = xs := List.take_length
  rcases ko with rfl | rfl
  · exact ⟨a, xs, rfl, .inl ⟨SqL.of ho, fun D nD => lc_list (xs := xs) (fun i H => H D = some (.lst (((xs.take i).filter keep).map fv)) ∧ Same H1 H) ⟨upd_same, same_new nD⟩ (fun i H _ p => SqL.of (p.2 _ _ ho)) (fun i x H ex p => go D nD i x H ex p)
      (fun H p => fin H D nD (by rw [all] at p; exact p.1) p.2)⟩⟩
  · exact ⟨a, xs, rfl, .inr ⟨SqT.of ho, fun D nD => lc_tup (xs := xs) (fun i H => H D = some (.lst (((xs.take i).filter keep).map fv)) ∧ Same H1 H) ⟨upd_same, same_new nD⟩ (fun i H _ p => SqT.of (p.2 _ _ ho)) (fun i x H ex p => go D nD i x H ex p)
      (fun H p => fin H D nD (by rw [all] at p; exact p.1) p.2)⟩⟩
end L2.TB
namespace L2.TB
open PySem PySem.Spec PyProof.Rows
/-! the table and its methods -/
def tabF (qa ra : Addr) : List (Str × V) := [("_questions", .ref qa), ("_rows", .ref ra)]
theorem tabF_q (qa ra : Addr) : (tabF qa ra).lookup ("_questions" : Str) = some (V.ref qa) := rfl
theorem tabF_r (qa ra : Addr) : (tabF qa ra).lookup ("_rows" : Str) = some (V.ref ra) := rfl
/-- the rows of the list at ra -/
def TRows (H : Hp) (ra : Addr) (n : Nat) (tbl : List (List Int)) : Prop := ∃ ps : List Addr, H ra = some (.lst (ps.map V.ref)) ∧ Paired (fun p vs => H p = some (.tup (vs.map V.int)) ∧ vs.length = n) ps tbl
structure TabAt (H : Hp) (C a : Addr) (ns : List Str) (tbl : List (List Int)) : Prop where
  ex : ∃ dx qa ra, H a = some (.ins C dx (tabF qa ra)) ∧ H qa = some (.lst (ns.map V.str)) ∧ TRows H ra ns.length tbl
theorem TRows.same {H H' : Hp} {ra : Addr} {n : Nat} {tbl : List (List Int)} (t : TRows H ra n tbl) (s : Same H H') : TRows H' ra n tbl := by
  obtain ⟨ps, o, r⟩ := t
  exact ⟨ps, s _ _ o, Paired.mapP r fun p vs h => ⟨s _ _ h.1, h.2⟩⟩
theorem TabAt.same {H H' : Hp} {C a : Addr} {ns : List Str} {tbl : List (List Int)} (t : TabAt H C a ns tbl) (s : Same H H') : TabAt H' C a ns tbl := by
  obtain ⟨dx, qa, ra, h1, h2, h3⟩ := t.ex
  exact ⟨dx, qa, ra, s _ _ h1, s _ _ h2, h3.same s⟩
structure TabC (K : PySem.W.Frag) (C : Addr) : Prop where
  cl : Cls K C
  nQ : NoAttr K C "_questions"
  nR : NoAttr K C "_rows"
def spQs (K : PySem.W.Frag) (C : Addr) : Sp := fun vs H Q _ => ∃ (a : Addr) (ns : List Str) (tbl : List (List Int)), vs = [.ref a] ∧ TabAt H C a ns tbl ∧ ∀ H' q, H q = none → H' q = some (.lst (ns.map V.str)) → Same H H' → Q (.ref q) H'
def idx (ns : List Str) (x : Str) : Nat := ns.idxOf x
def spPlaces (K : PySem.W.Frag) (C : Addr) : Sp := fun vs H Q _ => ∃ (a b : Addr) (ns known : List Str) (tbl : List (List Int)), vs = [.ref a, .ref b] ∧ TabAt H C a ns tbl ∧ SqA K H b (known.map V.str) ∧ (∀ x ∈ known, x ∈ ns) ∧ known.length < 1000 ∧
  ∀ H' q, H q = none → H' q = some (.lst (known.map fun x => V.int (idx ns x : Nat))) → Same H H' → Q (.ref q) H'
theorem scQs : FnScope ["self"] ["self"] (defScope sQs) := ⟨rfl, rfl, rfl, by decide +kernel, rfl, by decide +kernel, by decide +kernel⟩
abbrev NP : List Str := ["self", "names", "name"]
theorem scPlaces : FnScope NP ["self", "names"] (defScope sPlaces) := ⟨rfl, rfl, rfl, by decide +kernel, rfl, by decide +kernel, by decide +kernel⟩
theorem idx_at {ns : List Str} {x : Str} (h : x ∈ ns) : (ns.map V.str)[idx ns x]? = some (.str x) ∧ ∀ (m : Nat) (z : V), m < idx ns x → (ns.map V.str)[m]? = some z → eqV z (.str x) = false := by
  have lt : idx ns x < ns.length := List.idxOf_lt_length_of_mem h
  refine ⟨?_, fun m z lm ez => ?_⟩
  · rw [List.getElem?_map, List.getElem?_eq_getElem lt]
    have e : ns[idx ns x] = x := List.getElem_idxOf lt
    rw [e]; rfl
  · rw [List.getElem?_map] at ez
    obtain ⟨y, ey, rfl⟩ := Option.map_eq_some_iff.mp ez
    rw [str_inj]
    refine decide_eq_false fun q => ?_
    subst q
    have : idx ns y ≤ m := by
      obtain ⟨hm, em⟩ := List.getElem?_eq_some_iff.mp ey
      by_cases c : m < idx ns y
      · have z := List.not_of_lt_findIdx (p := fun a => a == y) (xs := ns) (i := m) c
        rw [em] at z
        simp at z
      · omega
    omega
section
variable {P : Program} {w : World} {K : PySem.W.Frag} {mg : Str → Option Value} {base : Heap} {f C : Addr} {fd : FuncData}
theorem ok_qs (F : Fun K "questions" "Table.questions" sQs f fd) (T : TabC K C) (gL : mg "list" = none) : FnOk P w K mg base CX0 1 f fd ["self"] (spQs K C) := by
  refine F.ok scQs (fun vs H Q E h => by obtain ⟨a, ns, tbl, e, _⟩ := h; rw [e]; rfl) fun cdv A outer s H vs Q E hr hsp => ?_
  obtain ⟨a, ns, tbl, rfl, ⟨dx, qa, ra, ha, hqa, hra⟩, hq⟩ := hsp
  refine ⟨_, pss_one (ps_ret (pe_callTy call_list_of rfl gL (by decide +kernel) (pa_cons (pe_fld (pv 0) rfl) pa_nil))), ?_⟩
  exact ⟨_, rfl, _, _, _, _, _, rfl, ha, T.cl, T.nQ, tabF_q _ _, _, _, rfl, .inl (SqL.of hqa), fun q nq => hq _ q nq upd_same (same_new nq)⟩
theorem ok_places (F : Fun K "_places" "Table._places" sPlaces f fd) (T : TabC K C) : FnOk P w K mg base CX0 1 f fd ["self", "names"] (spPlaces K C) := by
  refine F.ok scPlaces (fun vs H Q E h => by obtain ⟨a, b, ns, known, tbl, e, _⟩ := h; rw [e]; rfl) fun cdv A outer s H vs Q E hr hsp => ?_
  obtain ⟨a, b, ns, known, tbl, rfl, ⟨dx, qa, ra, ha, hqa, hra⟩, hb, sub, short, hq⟩ := hsp
  have nd := scPlaces.nd
  refine ⟨_, pss_one (ps_ret (pe_lc (own := [("name", 2)]) (tt := tYes) (te := tBM K "list" (rIndex K) (tFld K (tVar 0) "_questions") (tCons (tVar 2) tNil)) rfl nd (pi_seq (pv 1)) (blkOk_by (N := NP) (sc := defScope sPlaces) (by decide +kernel))
    (fun _ _ _ _ _ => pg_name (i := 2) nd rfl (Or.inl rfl)) (fun _ _ _ _ _ => pts_nil) (fun _ _ _ _ _ => pe_bm PySem.F.plainAttrs_list PySem.F.slot_list_index PySem.F.type_list_index mt_index (pe_fld (pv 0) rfl) (pa_cons (pv 2) pa_nil)))), ?_⟩
  obtain ⟨o, ho, ko⟩ : ∃ o, H b = some o ∧ (o = .lst (known.map V.str) ∨ o = .tup (known.map V.str)) := by
    rcases hb with e | e
    · exact ⟨_, e, .inl rfl⟩
    · exact ⟨_, e, .inr rfl⟩
  refine ⟨_, rfl, lc_seq ko ho (by rw [List.length_map]; omega) (fun _ => true) (fun v => match v with | .str x => .int (idx ns x : Nat) | _ => .non) ?_ ?_⟩
  · rintro i v H2 D N ev s2 yes no
    rw [List.getElem?_map] at ev
    obtain ⟨x, ex, rfl⟩ := Option.map_eq_some_iff.mp ev
    have xin : x ∈ ns := sub x (List.mem_of_getElem? ex)
    obtain ⟨i1, i2⟩ := idx_at xin
    refine ⟨rfl, ?_⟩
    refine ⟨_, rfl, _, _, _, _, _, rfl, s2 _ _ ha, T.cl, T.nQ, tabF_q _ _, .inl ⟨rfl, _, SqL.of (s2 _ _ hqa)⟩, _, rfl, ?_⟩
    exact ⟨qa, _, .str x, idx ns x, .str x, rfl, rfl, SqL.of (s2 _ _ hqa), rfl, flat_strs ns, i1, by rw [str_inj]; simp, i2, yes rfl H2 (Same.refl _)⟩
  · intro H2 q nq oq s2
    refine hq H2 q nq ?_ s2
    rw [oq, List.filter_eq_self.mpr (fun _ _ => rfl), List.map_map]
    rfl
end
end L2.TB
namespace L2.TB
open PySem PySem.Spec PyProof.Rows
/-! two rows that part -/
/-- the answer of a row -/
def av (ns : List Str) (vs : List Int) (x : Str) : Int := vs.getD (idx ns x) 0
def keyR (ns known : List Str) (vs : List Int) : List Int := known.map (av ns vs)
def keyK (ks : List Int) : List Key := ks.map Sum.inl
theorem keyK_kV (ks : List Int) : (keyK ks).map kV = ks.map V.int := by
  unfold keyK; rw [List.map_map]; rfl
theorem keyK_inj {a b : List Int} (h : keyK a = keyK b) : a = b := by
  unfold keyK at h
  exact (List.map_inj_right (fun x y e => Sum.inl.inj e)).mp h
/-- known tells asked, over these rows -/
def Tells (ns : List Str) (tbl : List (List Int)) (known : List Str) (x : Str) : Prop := ∀ u ∈ tbl, ∀ v ∈ tbl, keyR ns known u = keyR ns known v → av ns u x = av ns v x
instance (ns tbl known x) : Decidable (Tells ns tbl known x) := by unfold Tells; exact inferInstance
def spParting (K : PySem.W.Frag) (C : Addr) : Sp := fun vs H Q _ => ∃ (a b : Addr) (ns known : List Str) (x : Str) (tbl : List (List Int)), vs = [.ref a, .ref b, .str x] ∧ TabAt H C a ns tbl ∧ SqA K H b (known.map V.str) ∧ (∀ x ∈ known, x ∈ ns) ∧ known.length < 1000 ∧ x ∈ ns ∧ tbl.length < 1000 ∧
  (Tells ns tbl known x → ∀ H', Same H H' → Q .non H') ∧
  (¬ Tells ns tbl known x → ∀ H' t p q u v, H t = none → H' t = some (.tup [.ref p, .ref q]) → u ∈ tbl → v ∈ tbl → H' p = some (.tup (u.map V.int)) → H' q = some (.tup (v.map V.int)) → keyR ns known u = keyR ns known v → av ns u x ≠ av ns v x → Same H H' → Q (.ref t) H')
abbrev NPa : List Str := ["self", "known", "asked", "places", "place", "first", "row", "key", "k"]
theorem scParting : FnScope NPa ["self", "known", "asked"] (defScope sParting) := ⟨rfl, rfl, rfl, by decide +kernel, rfl, by decide +kernel, by decide +kernel⟩
/-- what the dict of first rows knows behind i rows -/
structure First (ns known : List Str) (x : Str) (ps : List Addr) (tbl : List (List Int)) (i : Nat) (kvs : List (List Key × V)) : Prop where
  has : ∀ (j : Nat) (v : List Int), j < i → tbl[j]? = some v → ∃ (j0 : Nat) (u : List Int), tbl[j0]? = some u ∧ ∃ p : Addr, ps[j0]? = some p ∧ valV kvs (keyK (keyR ns known v)) = some (.ref p) ∧ keyR ns known u = keyR ns known v ∧ av ns u x = av ns v x
  from_ : ∀ (k : List Key) (y : V), valV kvs k = some y → ∃ (j : Nat) (u : List Int) (p : Addr), tbl[j]? = some u ∧ ps[j]? = some p ∧ y = .ref p ∧ k = keyK (keyR ns known u)
  len : kvs.length ≤ i
theorem av_at {ns : List Str} {vs : List Int} {x : Str} (h : x ∈ ns) (hl : vs.length = ns.length) : atI (vs.map V.int) ((idx ns x : Nat) : Int) = some (.int (av ns vs x)) := by
  have lt : idx ns x < ns.length := List.idxOf_lt_length_of_mem h
  refine atI_nat ?_
  rw [List.getElem?_map, List.getElem?_eq_getElem (by omega)]
  unfold av
  rw [List.getD_eq_getElem?_getD, List.getElem?_eq_getElem (by omega)]
  rfl
theorem paired_get {α β : Type} {F : α → β → Prop} {as : List α} {bs : List β} (p : Paired F as bs) : ∀ {i : Nat} {a : α}, as[i]? = some a → ∃ b, bs[i]? = some b ∧ F a b := by
  induction p with
  | nil => intro i a h; simp at h
  | cons h t ih =>
    intro i a e
    cases i with
    | zero =>
      obtain rfl := Option.some.inj e
      exact ⟨_, rfl, h⟩
    | succ i => exact ih (i := i) e
section
variable {P : Program} {w : World} {K : PySem.W.Frag} {mg : Str → Option Value} {base : Heap} {f C fP : Addr} {fd fdP : FuncData}
theorem ok_parting (F : Fun K "_parting_rows" "Table._parting_rows" sParting f fd) (FP : Fun K "_places" "Table._places" sPlaces fP fdP) (mP : Meth K C "_places" fP) (T : TabC K C) (gT : mg "tuple" = none) : FnOk P w K mg base CX0 2 f fd ["self", "known", "asked"] (spParting K C) := by
  have G : FnOk P w K mg base CX0 1 fP fdP ["self", "names"] (spPlaces K C) := ok_places FP T
  have b := FP.binds (ps := ["self", "names"]) fun _ _ _ _ _ _ us hl => match us, hl with | [_, _], _ => rfl
  refine F.ok scParting (fun vs H Q E h => by obtain ⟨a, b, ns, known, x, tbl, e, _⟩ := h; rw [e]; rfl) fun cdv A outer s H vs Q E hr hsp => ?_
  obtain ⟨a, bk, ns, known, x, tbl, rfl, hT, hb, sub, short, xin, shortT, yes, no⟩ := hsp
  have nd := scParting.nd
  have hu := hu_of hr
  refine ⟨_, pss_cons (ps_set (i := 3) nd rfl (Or.inl rfl) (pe_meth (pv 0) T.cl mP G hr b .nil pass0 (pa_cons (pv 1) pa_nil)))
    (pss_cons (ps_set (i := 4) nd rfl (Or.inl rfl) (pe_bm PySem.F.plainAttrs_list PySem.F.slot_list_index PySem.F.type_list_index mt_index (pe_fld (pv 0) rfl) (pa_cons (pv 2) pa_nil)))
    (pss_cons (ps_set (i := 5) nd rfl (Or.inl rfl) pe_dnewT)
    (pss_cons (ps_for PassesOwn.never rfl (pi_seq (pe_fld (pv 0) rfl)) (pg_name (i := 6) nd rfl (Or.inr rfl))
      (pss_cons (ps_set (i := 7) nd rfl (Or.inl rfl) (pe_callTy call_tuple_of rfl gT boot_tuple' (pa_cons (pe_lc (own := [("k", 8)]) (tt := tYes) rfl nd (pi_seq (pv 3)) (blkOk_by (N := NPa) (sc := defScope sParting) (by decide +kernel))
          (fun _ _ _ _ _ => pg_name (i := 8) nd rfl (Or.inl rfl)) (fun _ _ _ _ _ => pts_nil) (fun _ _ _ _ _ => pe_ix (r := rIxT K) ix_tup (pv 6) (pv 8) (fun _ _ => rfl))) pa_nil)))
      (pss_one (ps_if (pt_cmp (pc_dnotin hu (pv 7) (pv 5))) (pss_one (ps_dput hu (pv 5) (pv 7) (pv 6) rfl))
        (pss_one (ps_if (pt_cmpR op_ne (pe_ix ix_tup (pe_dget hu (pv 5) (pv 7) (fun _ _ => rfl)) (pv 4) (fun _ _ => rfl)) (pe_ix ix_tup (pv 6) (pv 4) (fun _ _ => rfl)) (nomark _))
          (pss_one (ps_ret (pe_tup (pa_cons (pe_dget hu (pv 5) (pv 7) (fun _ _ => rfl)) (pa_cons (pv 6) pa_nil))))) pss_nil))))))
    (pss_one (ps_ret pe_non))))), ?_⟩
  obtain ⟨dx, qa, ra, ha, hqa, hra⟩ := hT.ex
  refine ⟨_, rfl, a, dx, _, rfl, ha, rfl, _, rfl, a, bk, ns, known, tbl, rfl, hT, hb, sub, short, fun H1 pl npl opl s1 => ?_⟩
  obtain ⟨i1, i2⟩ := idx_at xin
  refine ⟨_, rfl, _, _, _, _, _, rfl, s1 _ _ ha, T.cl, T.nQ, tabF_q _ _, .inl ⟨rfl, _, SqL.of (s1 _ _ hqa)⟩, _, rfl, qa, _, .str x, idx ns x, .str x, rfl, rfl, SqL.of (s1 _ _ hqa), rfl, flat_strs ns, i1, by rw [str_inj]; simp, i2, ?_⟩
  intro d nd1
  have sd := same_new (o := .dT []) nd1
  obtain ⟨ps, ora, prs⟩ := hra.same s1
  have lps : ps.length = tbl.length := Paired.length prs
  refine ⟨_, rfl, _, _, _, _, _, rfl, sd _ _ (s1 _ _ ha), T.cl, T.nR, tabF_r _ _, for_seq (.inl rfl) (fun i σ H' => H' ra = some (.lst (ps.map V.ref)) ∧ Same H1 H' ∧ ∃ kvs s6 s7 s8, σ = [some (.ref a), some (.ref bk), some (.str x), some (.ref pl), some (.int (idx ns x : Nat)), some (.ref d), s6, s7, s8] ∧ H' d = some (.dT kvs) ∧ First ns known x ps tbl i kvs)
    ⟨sd _ _ ora, sd, [], _, _, _, rfl, upd_same, ⟨fun j v z => absurd z (Nat.not_lt_zero _), fun k y e => by simp [valV] at e, Nat.zero_le _⟩⟩ (fun i σ H' _ h => h.1) ?_ ?_⟩
  · rintro i vp σ H2 evp ⟨ora2, s2, kvs, s6, s7, s8, rfl, od, FS⟩
    rw [List.getElem?_map] at evp
    obtain ⟨p, ep, rfl⟩ := Option.map_eq_some_iff.mp evp
    obtain ⟨v, ev, op, lv⟩ := paired_get prs ep
    have op2 := s2 _ _ op
    have vin : v ∈ tbl := List.mem_of_getElem? ev
    have hi : i < tbl.length := (List.getElem?_eq_some_iff.mp ev).1
    -- the key
    refine ⟨_, rfl, lc_seq (.inl rfl) (s2 _ _ opl) (by rw [List.length_map]; omega) (fun _ => true) (fun y => match y with | .int n => .int (v.getD n.toNat 0) | _ => .non) ?_ ?_⟩
    · rintro j y H3 Cn Nn ey s3 yes3 no3
      rw [List.getElem?_map] at ey
      obtain ⟨z, ez, rfl⟩ := Option.map_eq_some_iff.mp ey
      have zin : z ∈ ns := sub z (List.mem_of_getElem? ez)
      refine ⟨rfl, ?_⟩
      exact ⟨_, rfl, _, rfl, p, _, _, _, rfl, rfl, SqT.of (s3 _ _ op2), av_at zin lv, yes3 rfl H3 (Same.refl _)⟩
    · intro H3 l nl ol s3
      have ekey : ((known.map fun x => V.int (idx ns x : Nat)).filter fun _ => true).map (fun y => match y with | V.int n => V.int (v.getD n.toNat 0) | _ => V.non) = (keyK (keyR ns known v)).map kV := by
        rw [keyK_kV, List.filter_eq_self.mpr (fun _ _ => rfl), List.map_map]
        unfold keyR
        rw [List.map_map]
        rfl
      rw [ekey] at ol
      refine ⟨l, _, rfl, .inl ⟨SqL.of ol, fun kt nkt => ?_⟩⟩
      have sk := same_new (o := .tup ((keyK (keyR ns known v)).map kV)) nkt
      have ok3 : upd H3 kt (.tup ((keyK (keyR ns known v)).map kV)) kt = some (.tup ((keyK (keyR ns known v)).map kV)) := upd_same
      generalize upd H3 kt (.tup ((keyK (keyR ns known v)).map kV)) = H4 at sk ok3
      have s24 := s3.trans sk
      have od4 := s24 _ _ od
      have op4 := s24 _ _ op2
      have ndk : ∀ {u o}, H1 u = some o → u ≠ d := fun e => ne_of_none e nd1
      refine ⟨_, rfl, _, rfl, d, _, rfl, DGet.t od4 ok3, _, rfl, ?_⟩
      cases ek : valV kvs (keyK (keyR ns known v)) with
      | none =>
        refine iteT ?_
        refine ⟨_, rfl, _, rfl, _, rfl, d, _, rfl, DPut.t od4 ok3 (by rw [sizeLine_eq]; have := FS.len; omega), ?_, ?_, putK kvs (keyK (keyR ns known v)) (.ref p), _, _, _, rfl, upd_same, ?_⟩
        · rw [upd_ne (ndk ora)]; exact s24 _ _ ora2
        · intro b' u' e
          rw [upd_ne (ndk e)]; exact s24 _ _ (s2 _ _ e)
        · refine ⟨fun j v' hj ev' => ?_, fun k y e => ?_, ?_⟩
          · by_cases hji : j = i
            · subst hji
              rw [ev] at ev'
              obtain rfl := Option.some.inj ev'
              exact ⟨j, v, ev, p, ep, by rw [valV_put, if_pos rfl], rfl, rfl⟩
            · obtain ⟨j0, u, eu, p0, ep0, e0, k0, a0⟩ := FS.has j v' (by omega) ev'
              refine ⟨j0, u, eu, p0, ep0, ?_, k0, a0⟩
              rw [valV_put, if_neg, e0]
              intro z
              rw [z, ek] at e0; cases e0
          · rw [valV_put] at e
            by_cases hk : k = keyK (keyR ns known v)
            · rw [if_pos hk] at e
              obtain rfl := Option.some.inj e
              exact ⟨i, v, p, ev, ep, rfl, hk⟩
            · rw [if_neg hk] at e
              exact FS.from_ k y e
          · rw [putK_new _ ek, List.length_append]
            have := FS.len
            show kvs.length + 1 ≤ _
            omega
      | some y =>
        refine iteF ?_
        obtain ⟨j0, u, p0, eu, ep0, rfl, ek0⟩ := FS.from_ _ _ ek
        have ek1 : keyR ns known u = keyR ns known v := (keyK_inj ek0).symm
        obtain ⟨u', eu', op0, lu⟩ := paired_get prs ep0
        rw [eu] at eu'
        obtain rfl := Option.some.inj eu'
        have op04 := s24 _ _ (s2 _ _ op0)
        have uin : u ∈ tbl := List.mem_of_getElem? eu
        have dg : DGet H4 d (.ref kt) (some (.ref p0)) := ek ▸ DGet.t od4 ok3
        refine ⟨_, rfl, _, rfl, d, _, rfl, dg, _, rfl, p0, _, _, _, rfl, rfl, SqT.of op04, av_at xin lu, _, rfl, _, rfl, p, _, _, _, rfl, rfl, SqT.of op4, av_at xin lv, rfl, _, rfl, ite2 (fun e => ?_) (fun e => ?_)⟩
        · refine ⟨_, rfl, _, rfl, d, _, rfl, dg, _, rfl, (by show 2 ≤ sizeLine; decide), fun t nt => ?_⟩
          have st := same_new (o := .tup [.ref p0, .ref p]) nt
          have s14 : Same H1 H4 := s2.trans s24
          have nt0 : H t = none := (s1.trans s14).free nt
          refine no (fun T => ?_) _ t p0 p u v nt0 upd_same uin vin (st _ _ op04) (st _ _ op4) ek1 ?_ ((s1.trans s14).trans st)
          · rw [T u uin v vin ek1, decide_eq_true rfl] at e
            cases e
          · intro z
            rw [z, decide_eq_true rfl] at e
            cases e
        · refine ⟨s24 _ _ ora2, s2.trans s24, kvs, _, _, _, rfl, od4, ?_⟩
          refine ⟨fun j v' hj ev' => ?_, FS.from_, Nat.le_succ_of_le FS.len⟩
          by_cases hji : j = i
          · subst hji
            rw [ev] at ev'
            obtain rfl := Option.some.inj ev'
            refine ⟨j0, u, eu, p0, ep0, ek, ek1, ?_⟩
            by_cases z : av ns u x = av ns v x
            · exact z
            · have z2 : ¬ V.int (av ns u x) = V.int (av ns v x) := fun y => z (V.int.inj y)
              rw [decide_eq_false z2] at e
              exact absurd rfl e
          · exact FS.has j v' (by omega) ev'
  · rintro σ H2 ⟨ora2, s2, kvs, s6, s7, s8, rfl, od, FS⟩
    refine yes (fun u hu v hv e => ?_) _ (s1.trans s2)
    obtain ⟨j, hj, eu⟩ := List.getElem_of_mem hu
    obtain ⟨j', hj', ev⟩ := List.getElem_of_mem hv
    have lt : ∀ n, n < tbl.length → n < (ps.map V.ref).length := fun n h => by rw [List.length_map]; omega
    obtain ⟨j0, u0, eu0, p0, ep0, w0, k0, a0⟩ := FS.has j u (lt _ hj) (by rw [List.getElem?_eq_getElem hj, eu])
    obtain ⟨j1, u1, eu1, p1, ep1, w1, k1, a1⟩ := FS.has j' v (lt _ hj') (by rw [List.getElem?_eq_getElem hj', ev])
    rw [e, w1] at w0
    have ep : p1 = p0 := V.ref.inj (Option.some.inj w0)
    subst ep
    obtain ⟨x0, ex0, o0, _⟩ := paired_get prs ep0
    obtain ⟨x1, ex1, o1, _⟩ := paired_get prs ep1
    rw [eu0] at ex0
    rw [eu1] at ex1
    obtain rfl := Option.some.inj ex0
    obtain rfl := Option.some.inj ex1
    rw [o0] at o1
    have same : u0.map V.int = u1.map V.int := HO.tup.inj (Option.some.inj o1)
    have same2 : u0 = u1 := (List.map_inj_right (fun x y e => V.int.inj e)).mp same
    rw [← a0, ← a1, same2]
end
end L2.TB
namespace L2.TB
open PySem PySem.Spec PyProof.Rows
/-! what is told -/
/-- the places of the table's methods -/
structure TabM (K : PySem.W.Frag) (C fQ fI fPl fPr : Addr) : Prop extends TabC K C where
  Q : ∃ fd, Fun K "questions" "Table.questions" sQs fQ fd
  I : ∃ fd, Fun K "is_told" "Table.is_told" sIsTold fI fd
  L : ∃ fd, Fun K "_places" "Table._places" sPlaces fPl fd
  R : ∃ fd, Fun K "_parting_rows" "Table._parting_rows" sParting fPr fd
  mQ : Meth K C "questions" fQ
  mI : Meth K C "is_told" fI
  mL : Meth K C "_places" fPl
  mR : Meth K C "_parting_rows" fPr
/-- a table and known ones of it -/
structure Asked (K : PySem.W.Frag) (H : Hp) (C a b : Addr) (ns known : List Str) (tbl : List (List Int)) : Prop where
  t : TabAt H C a ns tbl
  k : SqA K H b (known.map V.str)
  nd : known.Nodup
  sub : ∀ x ∈ known, x ∈ ns
  s1 : ns.length < 1000
  s2 : tbl.length < 1000
  ndn : ns.Nodup
theorem Asked.short {K : PySem.W.Frag} {H : Hp} {C a b : Addr} {ns known : List Str} {tbl : List (List Int)} (h : Asked K H C a b ns known tbl) : known.length < 1000 := by
  have := List.Nodup.length_le_of_subset h.nd (fun x hx => h.sub x hx)
  have := h.s1
  omega
theorem Asked.same {K : PySem.W.Frag} {H H' : Hp} {C a b : Addr} {ns known : List Str} {tbl : List (List Int)} (h : Asked K H C a b ns known tbl) (s : Same H H') : Asked K H' C a b ns known tbl :=
  ⟨h.t.same s, h.k.same s, h.nd, h.sub, h.s1, h.s2, h.ndn⟩
def spIsTold (K : PySem.W.Frag) (C : Addr) : Sp := fun vs H Q _ => ∃ (a b : Addr) (ns known : List Str) (x : Str) (tbl : List (List Int)), vs = [.ref a, .ref b, .str x] ∧ Asked K H C a b ns known tbl ∧ x ∈ ns ∧ ∀ H', Same H H' → Q (.bl (decide (Tells ns tbl known x))) H'
def toldL (ns : List Str) (tbl : List (List Int)) (known : List Str) : List Str := ns.filter fun x => decide (Tells ns tbl known x)
theorem scIsTold : FnScope ["self", "known", "asked"] ["self", "known", "asked"] (defScope sIsTold) := ⟨rfl, rfl, rfl, by decide +kernel, rfl, by decide +kernel, by decide +kernel⟩
def isStr (f : Str → Bool) : V → Bool
  | .str x => f x
  | _ => false
theorem filter_strs (f : Str → Bool) (xs : List Str) : ((xs.map V.str).filter (isStr f)).map id = (xs.filter f).map V.str := by
  rw [List.map_id, List.filter_map]; rfl
section
variable {P : Program} {w : World} {K : PySem.W.Frag} {mg : Str → Option Value} {base : Heap} {f C fQ fI fPl fPr aF aL aO aK aA aB : Addr} {fd : FuncData}
theorem ok_isTold (F : Fun K "is_told" "Table.is_told" sIsTold f fd) (T : TabM K C fQ fI fPl fPr) (Ck : Chk K mg aF aL aO aK aA aB) : FnOk P w K mg base CX0 5 f fd ["self", "known", "asked"] (spIsTold K C) := by
  obtain ⟨fdB, FB⟩ := Ck.CB
  have GB := ok_ckB (P := P) (w := w) (base := base) Ck FB
  have bB := FB.binds (ps := ["names", "known", "asked"]) fun _ _ _ _ _ _ us hl => match us, hl with | [_, _, _], _ => rfl
  obtain ⟨fdL, FL⟩ := T.L
  obtain ⟨fdR, FR⟩ := T.R
  have GR := ok_parting (P := P) (w := w) (mg := mg) (base := base) FR FL T.mL T.toTabC Ck.nT
  have bR := FR.binds (ps := ["self", "known", "asked"]) fun _ _ _ _ _ _ us hl => match us, hl with | [_, _, _], _ => rfl
  refine F.ok scIsTold (fun vs H Q E h => by obtain ⟨a, b, ns, known, x, tbl, e, _⟩ := h; rw [e]; rfl) fun cdv A outer s H vs Q E hr hsp => ?_
  obtain ⟨a, b, ns, known, x, tbl, rfl, ask, xin, hq⟩ := hsp
  refine ⟨_, pss_cons (ps_expr (pe_call GB hr rfl Ck.gCB FB.kp bB .nil pass0 (pa_cons (pe_fld (pv 0) rfl) (pa_cons (pv 1) (pa_cons (pv 2) pa_nil)))))
    (pss_one (ps_ret (pe_cmp (pc_isN (pe_meth (pv 0) T.cl T.mR GR (hr.mono (by decide)) bR .nil pass0 (pa_cons (pv 1) (pa_cons (pv 2) pa_nil))))))), ?_⟩
  obtain ⟨dx, qa, ra, ha, hqa, hra⟩ := ask.t.ex
  refine ⟨_, rfl, _, _, _, _, _, rfl, ha, T.cl, T.nQ, tabF_q _ _, _, rfl, _, rfl, qa, b, ns, known, x, rfl, hqa, ask.k, ask.nd, ask.sub, ask.short, xin, fun H1 s1 => ?_⟩
  refine ⟨_, rfl, a, dx, _, rfl, s1 _ _ ha, rfl, _, rfl, _, rfl, a, b, ns, known, x, tbl, rfl, ask.t.same s1, ask.k.same s1, ask.sub, ask.short, xin, ask.s2, fun yes H' s' => ?_, fun no H' t p q u v _ _ _ _ _ _ _ _ s' => ?_⟩
  · have z := hq H' (s1.trans s')
    rw [decide_eq_true yes] at z
    exact z
  · have z := hq H' (s1.trans s')
    rw [decide_eq_false no] at z
    exact z
end
end L2.TB
namespace L2.TB
open PySem PySem.Spec PyProof.Rows
theorem boot_all' : bootBuiltins "all" = some (.builtin "all") := by decide +kernel
/-- a comprehension without a test over anything: ys is what it makes -/
theorem lc_gen {J : It} {g : TG} {tt : TT} {te : TE} {vs : List Nat} {σ : St} {H1 : Hp} {Q : Addr → Hp → Prop} (ys : List V) (short : ys.length < 1000000) (go : ∀ i H, Same H1 H → i < ys.length → J.go i H) (stop : ∀ H, Same H1 H → J.stop ys.length H)
    (turn : ∀ (i : Nat) (x y : V) (H H' : Hp) (C : V → Hp → Prop) (N : Hp → Prop), ys[i]? = some y → Same H1 H → J.yld i H x H' → (∀ H4, Same H H4 → C y H4) → g x (wipe σ vs) H' fun σ2 H2 => wipe σ2 vs = wipe σ vs ∧ tt σ2 H2 fun b H3 => if b = true then te σ2 H3 C else N H3)
    (fin : ∀ H D, H1 D = none → H D = some (.lst ys) → Same H1 H → Q D H) : LcW J g tt te vs σ H1 Q := by
  intro D nD
  refine ⟨fun i m H => m = ys.length - i ∧ i ≤ ys.length ∧ H D = some (.lst (ys.take i)) ∧ Same H1 H, ⟨_, rfl, Nat.zero_le _, upd_same, same_new nD⟩, ?_⟩
  rintro i m H ⟨rfl, le, oD, s1⟩
  by_cases lt : i < ys.length
  · refine .inr ⟨go i H s1 lt, fun H' => H' D = some (.lst (ys.take (i + 1))) ∧ Same H1 H', fun H' h => ⟨ys.length - (i + 1), by omega, rfl, lt, h⟩, fun x H' yl => ?_⟩
    have ey : ys[i]? = some ys[i] := List.getElem?_eq_getElem lt
    refine turn i x ys[i] H H' _ _ ey s1 yl fun H4 s4 => ⟨_, s4 _ _ oD, ?_, ?_, ?_⟩
    · rw [sizeLine_eq, List.length_take]; omega
    · rw [upd_same, List.take_succ, ey]; rfl
    · intro b u e
      rw [upd_ne (ne_of_none e nD)]
      exact s4 _ _ (s1 _ _ e)
  · obtain rfl : i = ys.length := by omega
    rw [List.take_length] at oD
    exact .inl ⟨stop H s1, fin H D nD oD s1⟩
def bools (n : Nat) : List V := List.replicate n (V.bl true)
theorem bools_map (n : Nat) : bools n = (List.replicate n true).map V.bl := by unfold bools; rw [List.map_replicate]
theorem bools_at {n i : Nat} {y : V} (h : (bools n)[i]? = some y) : y = .bl true ∧ i < n := by
  unfold bools at h
  rw [List.getElem?_replicate] at h
  split at h
  · exact ⟨(Option.some.inj h).symm, by assumption⟩
  · cases h
theorem bools_len (n : Nat) : (bools n).length = n := List.length_replicate
theorem all_true (n : Nat) : (List.replicate n true).all id = true := by simp
def spIsName : Sp := fun vs H Q _ => ∃ x : Str, vs = [.str x] ∧ NmOk x ∧ ∀ H', Same H H' → Q (.bl true) H'
abbrev NIn : List Str := ["thing", "sign"]
theorem scIsName : FnScope NIn ["thing"] (defScope sIsName) := ⟨rfl, rfl, rfl, by decide +kernel, rfl, by decide +kernel, by decide +kernel⟩
/-- a dict has just these names, all true -/
def spHasJust : Sp := fun vs H Q _ => ∃ (d c : Addr) (kvs : List (Key × V)) (ns : List Str), vs = [.ref d, .ref c] ∧ H d = some (.dK kvs) ∧ H c = some (.lst (ns.map V.str)) ∧ kvs.map (·.1) = ns.map Sum.inr ∧ ns.length < 1000 ∧ ∀ H', Same H H' → Q (.bl true) H'
abbrev NHj : List Str := ["thing", "names", "name"]
theorem scHasJust : FnScope NHj ["thing", "names"] (defScope sHasJust) := ⟨rfl, rfl, rfl, by decide +kernel, rfl, by decide +kernel, by decide +kernel⟩
section
variable {P : Program} {w : World} {K : PySem.W.Frag} {mg : Str → Option Value} {base : Heap} {f : Addr} {fd : FuncData}
theorem ok_isName (F : Fun K "is_name" "is_name" sIsName f fd) (gI : mg "isinstance" = none) (gS : mg "str" = none) (gN : mg "len" = none) (gA : mg "all" = none) (gL : ∃ t, mg "LONGEST" = some (.int 40 t)) (gSg : ∃ t, mg "SIGNS" = some (.str (Str.ofString "abcdefghijklmnopqrstuvwxyz0123456789.") t)) :
    FnOk P w K mg base CX0 1 f fd ["thing"] spIsName := by
  obtain ⟨tL, gL⟩ := gL
  obtain ⟨tS, gSg⟩ := gSg
  refine F.ok scIsName (fun vs H Q E h => by obtain ⟨x, e, _⟩ := h; rw [e]; rfl) fun cdv A outer s H vs Q E hr hsp => ?_
  obtain ⟨x, rfl, ok, hq⟩ := hsp
  obtain ⟨l1, l2, chars⟩ := ok
  have nd := scIsName.nd
  refine ⟨_, pss_cons (ps_if (PW.pt (pw_or (pt_not (pt_val (pe_callB (r := rIsi K) call_isi rfl gI boot_isi (pa_cons (pv 0) (pa_cons (pe_bltn (v := .ty "str") rfl gS boot_str' rfl) pa_nil)))))
      (pw_or1 (pt_not (pt_chain op_le op_le pe_int (pe_callB call_len_str rfl gN boot_len (pa_cons (pv 0) pa_nil)) (pe_glob (v := .int 40) rfl gL ⟨_, rfl⟩)))))) (pss_one ps_never) pss_nil)
    (pss_one (ps_ret (pe_callB (cr_all rfl) rfl gA boot_all' (pa_cons (pe_lc (own := [("sign", 1)]) (tt := tYes) rfl nd (pi_str (pv 0)) (blkOk_by (N := NIn) (sc := defScope sIsName) (by decide +kernel)) (fun _ _ _ _ _ => pg_name (i := 1) nd rfl (Or.inl rfl)) (fun _ _ _ _ _ => pts_nil)
      (fun _ _ _ _ _ => pe_cmpR op_in_sign (pv 1) (pe_glob (v := .str (Str.ofString "abcdefghijklmnopqrstuvwxyz0123456789.")) rfl gSg ⟨_, rfl⟩) rfl)) pa_nil)))), ?_⟩
  have lz : x.length = x.cps.toList.length := (Array.length_toList (xs := x.cps)).symm
  refine ⟨_, rfl, _, _, _, _, true, rfl, .ty _, .base (.str x), kit_ty (by decide +kernel), _, rfl, iteF ?_⟩
  refine ⟨_, rfl, x, rfl, (by rw [sizeLine_eq]; omega), _, _, rfl, rfl, _, rfl, ?_⟩
  rw [decide_eq_true (by omega : (1 : Int) ≤ (x.length : Nat))]
  refine iteT ⟨_, _, rfl, rfl, _, rfl, ?_⟩
  rw [decide_eq_true (by omega : ((x.length : Nat) : Int) ≤ 40)]
  refine iteF ?_
  refine ⟨_, rfl, x, rfl, lc_gen (bools x.cps.toList.length) (by rw [bools_len]; omega) (fun i H' _ lt => ?_) (fun H' _ => ?_) ?_ ?_⟩
  · rw [bools_len, Array.length_toList] at lt; exact lt
  · rw [bools_len, Array.length_toList]; exact Nat.le_refl _
  · rintro i v y H2 H3 Cn Nn ey s2 ⟨rfl, c, ec, rfl⟩ yes
    obtain ⟨rfl, lt⟩ := bools_at ey
    have cin : c ∈ signsL := chars c (List.mem_of_getElem? (by rw [Array.getElem?_toList]; exact ec))
    refine ⟨rfl, ?_⟩
    refine ⟨_, rfl, c, _, rfl, rfl, ?_⟩
    have z := yes H3 (Same.refl _)
    have e : decide (c ∈ (Str.ofString "abcdefghijklmnopqrstuvwxyz0123456789.").cps.toList) = true := decide_eq_true cin
    rw [e]
    exact z
  · intro H2 D nD oD s2
    rw [bools_map] at oD
    refine ⟨D, _, rfl, SqL.of oD, ?_⟩
    rw [all_true]
    exact hq H2 s2
end
end L2.TB
namespace L2.TB
open PySem PySem.Spec PyProof.Rows
theorem has_key {kvs : List (Key × V)} {ns : List Str} {x : Str} (h : kvs.map (·.1) = ns.map Sum.inr) (xin : x ∈ ns) : ∃ v, valV kvs (Sum.inr x) = some v := by
  have z : (Sum.inr x : Key) ∈ kvs.map (·.1) := by rw [h]; exact List.mem_map_of_mem xin
  obtain ⟨e, he, ee⟩ := List.mem_map.mp z
  have a : (kvs.any fun kv => decide (kv.1 = Sum.inr x)) = true := List.any_eq_true.mpr ⟨e, he, decide_eq_true ee⟩
  rw [valV_any] at a
  exact Option.isSome_iff_exists.mp a
theorem const_map (xs : List Str) : ((xs.map V.str).filter fun _ => true).map (fun _ => V.bl true) = bools xs.length := by
  rw [List.filter_eq_self.mpr (fun _ _ => rfl), List.map_map]
  unfold bools
  induction xs with
  | nil => rfl
  | cons a l ih => rw [List.map_cons, ih, List.length_cons, List.replicate_succ]; rfl
theorem dec_int2 (a b : Int) : decide (V.int a = V.int b) = decide (a = b) := by
  by_cases h : a = b
  · rw [h]; simp
  · rw [decide_eq_false h, decide_eq_false]
    exact fun z => h (V.int.inj z)
/-- dict rows of ints at as -/
def DRows (H : Hp) (ns : List Str) : List Addr → List (List Int) → Prop := Paired fun a vs => H a = some (.dK (dk ns vs)) ∧ vs.length = ns.length
theorem DRows.same {H H' : Hp} {ns : List Str} {as : List Addr} {tbl : List (List Int)} (r : DRows H ns as tbl) (s : Same H H') : DRows H' ns as tbl := Paired.mapP r fun a vs h => ⟨s _ _ h.1, h.2⟩
def spBadRow : Sp := fun vs H Q _ => ∃ (r : Addr) (as : List Addr) (ns : List Str) (tbl : List (List Int)), vs = [.ref r] ∧ H r = some (.lst (as.map V.ref)) ∧ DRows H ns as tbl ∧ tbl ≠ [] ∧ tbl.length < 1000 ∧ ns ≠ [] ∧ ns.Nodup ∧ (∀ x ∈ ns, NmOk x) ∧ ns.length < 1000 ∧ ∀ H', Same H H' → Q .non H'
abbrev NB : List Str := ["rows", "index", "row", "name"]
theorem scBadRow : FnScope NB ["rows"] (defScope sBadRow) := ⟨rfl, rfl, rfl, by decide +kernel, rfl, by decide +kernel, by decide +kernel⟩
theorem lock_off {H H' : Hp} {d : Addr} {u : HO} {od : Obj} (hd : H d = some u) (s : Same (upd H d (.frz od u)) H') : H' d = some (.frz od u) ∧ Same H (upd H' d u) := by
  refine ⟨s _ _ upd_same, fun b o e => ?_⟩
  by_cases hb : b = d
  · rw [hb, upd_same, ← hd, ← hb]; exact e
  · rw [upd_ne hb]
    exact s _ _ (by rw [upd_ne hb]; exact e)
theorem dk_at {ns : List Str} {vs : List Int} {i : Nat} {k : Key} {v : V} (h : (dk ns vs)[i]? = some (k, v)) (nd : ns.Nodup) (hl : ns.length = vs.length) : ∃ x n, k = Sum.inr x ∧ v = .int n ∧ ns[i]? = some x ∧ valV (dk ns vs) (Sum.inr x) = some (.int n) := by
  unfold dk at h ⊢
  rw [List.getElem?_map] at h
  obtain ⟨p, ep, e⟩ := Option.map_eq_some_iff.mp h
  cases e
  have ez : (ns.zip vs)[i]? = some p := ep
  rw [List.getElem?_zip_eq_some] at ez
  refine ⟨p.1, p.2, rfl, rfl, ez.1, ?_⟩
  have nk : (((ns.zip vs).map fun p : Str × Int => ((Sum.inr p.1 : Key), V.int p.2)).map (·.1)).Nodup := dk_nd hl nd
  have mem : ((Sum.inr p.1 : Key), V.int p.2) ∈ (ns.zip vs).map fun p : Str × Int => ((Sum.inr p.1 : Key), V.int p.2) := List.mem_map_of_mem (List.mem_of_getElem? ep)
  generalize (ns.zip vs).map (fun p : Str × Int => ((Sum.inr p.1 : Key), V.int p.2)) = kvs at nk mem
  clear h ez ep
  induction kvs with
  | nil => cases mem
  | cons q kvs ih =>
    unfold valV
    rw [List.find?_cons]
    by_cases hq : q.1 = Sum.inr p.1
    · rw [decide_eq_true hq]
      rcases List.mem_cons.mp mem with z | z
      · rw [← z]; rfl
      · exfalso
        rw [List.map_cons, List.nodup_cons] at nk
        exact nk.1 (hq ▸ List.mem_map_of_mem (f := (·.1)) z)
    · rw [decide_eq_false hq]
      rcases List.mem_cons.mp mem with z | z
      · exact absurd (by rw [← z]) hq
      · rw [List.map_cons, List.nodup_cons] at nk
        exact ih nk.2 z
section
variable {P : Program} {w : World} {K : PySem.W.Frag} {mg : Str → Option Value} {base : Heap} {f fL fI fN fH : Addr} {fd fdL fdI fdN fdH : FuncData}
theorem ok_hasJust (F : Fun K "has_just" "has_just" sHasJust f fd) (gI : mg "isinstance" = none) (gD : mg "dict" = none) (gN : mg "len" = none) (gA : mg "all" = none) : FnOk P w K mg base CX0 1 f fd ["thing", "names"] spHasJust := by
  refine F.ok scHasJust (fun vs H Q E h => by obtain ⟨d, c, kvs, ns, e, _⟩ := h; rw [e]; rfl) fun cdv A outer s H vs Q E hr hsp => ?_
  obtain ⟨d, c, kvs, ns, rfl, hd, hc, hk, short, hq⟩ := hsp
  have nd := scHasJust.nd
  have hu := hu_of hr
  refine ⟨_, pss_one (ps_ret (pe_and (pe_callB (r := rIsi K) call_isi rfl gI boot_isi (pa_cons (pv 0) (pa_cons (pe_bltn (v := .ty "dict") rfl gD boot_dict' rfl) pa_nil))) (pe_and (pe_cmpR op_eq (pe_callB call_lenD rfl gN boot_len (pa_cons (pv 0) pa_nil)) (pe_callB call_len_seq rfl gN boot_len (pa_cons (pv 1) pa_nil)) (nomark _))
    (pe_one (pe_callB (cr_all rfl) rfl gA boot_all' (pa_cons (pe_lc (own := [("name", 2)]) (tt := tYes) rfl nd (pi_seq (pv 1)) (blkOk_by (N := NHj) (sc := defScope sHasJust) (by decide +kernel)) (fun _ _ _ _ _ => pg_name (i := 2) nd rfl (Or.inl rfl)) (fun _ _ _ _ _ => pts_nil)
      (fun _ _ _ _ _ => pe_cmp (pc_din hu (pv 2) (pv 0)))) pa_nil)))))), ?_⟩
  have lk : kvs.length = ns.length := by
    have z := congrArg List.length hk
    rw [List.length_map, List.length_map] at z
    exact z
  refine ⟨_, rfl, _, _, _, _, true, rfl, .ty _, .base (.dK hd), kit_ty (by decide +kernel), _, rfl, iteT ?_⟩
  refine ⟨_, rfl, d, kvs, rfl, hd, _, rfl, c, _, rfl, .inl (SqL.of hc), rfl, _, rfl, ?_⟩
  rw [dec_int2, List.length_map, lk, decide_eq_true rfl]
  refine iteT ⟨_, rfl, lc_seq (.inl rfl) hc (by rw [List.length_map]; omega) (fun _ => true) (fun _ => .bl true) ?_ ?_⟩
  · rintro i v H2 Cn Nn ev s2 yes no
    rw [List.getElem?_map] at ev
    obtain ⟨x, ex, rfl⟩ := Option.map_eq_some_iff.mp ev
    obtain ⟨y, ey⟩ := has_key hk (List.mem_of_getElem? ex)
    refine ⟨rfl, ?_⟩
    refine ⟨_, rfl, _, rfl, d, _, rfl, DGet.k (k := Sum.inr x) (s2 _ _ hd), ?_⟩
    rw [ey]
    exact yes rfl H2 (Same.refl _)
  · intro H2 D nD oD s2
    rw [const_map, bools_map] at oD
    refine ⟨D, _, rfl, SqL.of oD, ?_⟩
    rw [all_true]
    exact hq H2 s2
theorem ok_badRow (F : Fun K "_first_bad_row" "_first_bad_row" sBadRow f fd) (FL : Fun K "is_list" "is_list" sIsList fL fdL) (gIL : mg "is_list" = some (.ref fL)) (FI : Fun K "is_integer" "is_integer" sIsInt fI fdI) (gII : mg "is_integer" = some (.ref fI))
    (FN : Fun K "is_name" "is_name" sIsName fN fdN) (gIN : mg "is_name" = some (.ref fN)) (FH : Fun K "has_just" "has_just" sHasJust fH fdH) (gHJ : mg "has_just" = some (.ref fH))
    (gI : mg "isinstance" = none) (gL : mg "list" = none) (gT : mg "tuple" = none) (gS : mg "str" = none) (gE : mg "enumerate" = none) (gN : mg "len" = none) (gA : mg "all" = none) (gD : mg "dict" = none) (gInt : mg "int" = none) (gB : mg "bool" = none)
    (gLo : ∃ t, mg "LONGEST" = some (.int 40 t)) (gSg : ∃ t, mg "SIGNS" = some (.str (Str.ofString "abcdefghijklmnopqrstuvwxyz0123456789.") t)) : FnOk P w K mg base CX0 2 f fd ["rows"] spBadRow := by
  have GL : FnOk P w K mg base CX0 1 fL fdL ["thing"] (spIsList K) := ok_isList FL gI gL gT
  have bL := FL.binds (ps := ["thing"]) fun _ _ _ _ _ _ us hl => match us, hl with | [_], _ => rfl
  have GI : FnOk P w K mg base CX0 1 fI fdI ["thing"] spIsInt := ok_isInt FI gI gInt gB
  have bI := FI.binds (ps := ["thing"]) fun _ _ _ _ _ _ us hl => match us, hl with | [_], _ => rfl
  have GN : FnOk P w K mg base CX0 1 fN fdN ["thing"] spIsName := ok_isName FN gI gS gN gA gLo gSg
  have bN := FN.binds (ps := ["thing"]) fun _ _ _ _ _ _ us hl => match us, hl with | [_], _ => rfl
  have GH : FnOk P w K mg base CX0 1 fH fdH ["thing", "names"] spHasJust := ok_hasJust FH gI gD gN gA
  have bH := FH.binds (ps := ["thing", "names"]) fun _ _ _ _ _ _ us hl => match us, hl with | [_, _], _ => rfl
  refine F.ok scBadRow (fun vs H Q E h => by obtain ⟨r, as, ns, tbl, e, _⟩ := h; rw [e]; rfl) fun cdv A outer s H vs Q E hr hsp => ?_
  obtain ⟨r, as, ns, tbl, rfl, hrr, rows, tne, tsh, nne, nnd, nok, nsh, hq⟩ := hsp
  have nd := scBadRow.nd
  have hu := hu_of hr
  refine ⟨_, pss_cons (ps_if (PW.pt (pw_or (pt_not (pt_val (pe_call GL hr rfl gIL FL.kp bL .nil pass0 (pa_cons (pv 0) pa_nil)))) (pw_or1 (pt_cmpR op_eq (pe_callB call_len_seq rfl gN boot_len (pa_cons (pv 0) pa_nil)) pe_int (nomark _))))) (pss_one ps_never) pss_nil)
    (pss_cons (ps_for PassesOwn.never rfl (pi_enumS rfl gE (pa_cons (pv 0) pa_nil)) (pg_tup rfl (pgs_cons (pg_name (i := 1) nd rfl (Or.inl rfl)) (pgs_cons (pg_name (i := 2) nd rfl (Or.inr rfl)) pgs_nil)))
      (pss_cons (ps_if (PW.pt (pw_or (pt_not (pt_val (pe_callB (r := rIsi K) call_isi rfl gI boot_isi (pa_cons (pv 2) (pa_cons (pe_bltn (v := .ty "dict") rfl gD boot_dict' rfl) pa_nil)))))
          (pw_or (pt_cmpR op_eq (pe_callB call_lenD rfl gN boot_len (pa_cons (pv 2) pa_nil)) pe_int (nomark _))
          (pw_or1 (pt_not (pt_val (pe_callB (cr_all rfl) rfl gA boot_all' (pa_cons (pe_lock (pe_lc (own := [("name", 3)]) (tt := tYes) rfl nd (pi_keys (pv 2)) (blkOk_by (N := NB) (sc := defScope sBadRow) (by decide +kernel)) (fun _ _ _ _ _ => pg_name (i := 3) nd rfl (Or.inl rfl)) (fun _ _ _ _ _ => pts_nil)
            (fun _ _ _ _ _ => pe_call GI hr rfl gII FI.kp bI .nil pass0 (pa_cons (pe_dget hu (pv 2) (pv 3) (fun _ _ => rfl)) pa_nil)))) pa_nil)))))))) (pss_one ps_never) pss_nil)
      (pss_one (ps_if (PW.pt (pw_or (pt_not (pt_val (pe_callB (cr_all rfl) rfl gA boot_all' (pa_cons (pe_lock (pe_lc (own := [("name", 3)]) (tt := tYes) rfl nd (pi_keys (pv 2)) (blkOk_by (N := NB) (sc := defScope sBadRow) (by decide +kernel)) (fun _ _ _ _ _ => pg_name (i := 3) nd rfl (Or.inl rfl)) (fun _ _ _ _ _ => pts_nil)
            (fun _ _ _ _ _ => pe_call GN hr rfl gIN FN.kp bN .nil pass0 (pa_cons (pv 3) pa_nil)))) pa_nil))))
          (pw_or1 (pt_not (pt_val (pe_call GH hr rfl gHJ FH.kp bH .nil pass0 (pa_cons (pv 2) (pa_cons (pe_callTy (call_listD rfl) rfl gL boot_list' (pa_cons (pe_ix ix_list (pv 0) pe_int (fun _ _ => rfl)) pa_nil)) pa_nil)))))))) (pss_one ps_never) pss_nil))))
    (pss_one (ps_ret pe_non))), ?_⟩
  have las : as.length = tbl.length := Paired.length rows
  have pos : 0 < tbl.length := List.length_pos_iff.mpr tne
  have npos : 0 < ns.length := List.length_pos_iff.mpr nne
  refine ⟨_, rfl, r, _, rfl, .inl hrr, fun H1 k1 => ⟨_, rfl, iteF ?_⟩⟩
  refine ⟨_, rfl, r, _, rfl, .inl (SqL.of (k1 _ _ hrr)), rfl, _, rfl, ?_⟩
  rw [dec_int2, List.length_map, decide_eq_false (by omega : ¬ ((as.length : Nat) : Int) = 0)]
  refine iteF ?_
  refine ⟨_, rfl, enum_seq (.inl rfl) (fun i σ H' => Same H1 H' ∧ ∃ s1 s2 s3, σ = [some (.ref r), s1, s2, s3]) ⟨Same.refl _, _, _, _, rfl⟩ (fun i σ H' _ h => h.1 _ _ (k1 _ _ hrr)) ?_ ?_⟩
  · rintro i v σ H2 T ev ⟨s2, s1', s2', s3', rfl⟩ nT
    rw [List.getElem?_map] at ev
    obtain ⟨a, ea, rfl⟩ := Option.map_eq_some_iff.mp ev
    have sT := (k1.trans s2).trans (same_new (o := .tup [.int (i : Nat), .ref a]) nT)
    refine ⟨T, _, rfl, SqT.of upd_same, rfl, _, _, rfl, _, _, rfl, rfl, ?_⟩
    have s2T := s2.trans (same_new (o := .tup [.int (i : Nat), .ref a]) nT)
    generalize upd H2 T (.tup [.int (i : Nat), .ref a]) = H3 at sT s2T
    obtain ⟨vs, ev2, oa, lv⟩ := paired_get (rows.same sT) ea
    have ldk : (dk ns vs).length = ns.length := by
      unfold dk
      rw [List.length_map, List.length_zip]; omega
    refine ⟨_, rfl, _, _, _, _, true, rfl, .ty _, .base (.dK oa), kit_ty (by decide +kernel), _, rfl, iteF ?_⟩
    refine ⟨_, rfl, a, _, rfl, oa, rfl, _, rfl, ?_⟩
    rw [dec_int2, ldk, decide_eq_false (by omega : ¬ ((ns.length : Nat) : Int) = 0)]
    refine iteF ?_
    refine ⟨a, _, oa, trivial, fun od => ⟨_, rfl, a, od, rfl, .inl ⟨_, upd_same, lc_gen (bools ns.length) (by rw [bools_len]; omega) (fun j H' s lt => ⟨s _ _ upd_same, by rw [ldk]; rw [bools_len] at lt; exact lt⟩) (fun H' s => ⟨s _ _ upd_same, by rw [ldk, bools_len]; exact Nat.le_refl _⟩) ?_ ?_⟩⟩⟩
    · rintro j v y H4 H5 Cn Nn ey s4 ⟨rfl, k, w', ek, rfl⟩ yes
      obtain ⟨rfl, lt⟩ := bools_at ey
      obtain ⟨x, n, rfl, rfl, _, hv⟩ := dk_at ek nnd lv.symm
      refine ⟨rfl, ?_⟩
      exact ⟨_, rfl, _, rfl, a, _, rfl, .inl ⟨_, Sum.inr x, .inr ⟨_, s4 _ _ upd_same⟩, rfl, hv.symm⟩, n, rfl, yes H5 (Same.refl _)⟩
    · intro H4 D nD oD s4
      obtain ⟨b1, s34⟩ := lock_off oa s4
      have Da : D ≠ a := fun z => by rw [z, upd_same] at nD; cases nD
      rw [bools_map] at oD
      refine ⟨b1, D, _, rfl, SqL.of (by rw [upd_ne Da]; exact oD), _, rfl, ?_⟩
      rw [all_true]
      refine iteF ?_
      have oa4 := s34 _ _ oa
      have sH4 := sT.trans s34
      have s14 := s2T.trans s34
      generalize upd H4 a (.dK (dk ns vs)) = H5 at s34 oa4 sH4 s14
      refine ⟨a, _, oa4, trivial, fun od2 => ⟨_, rfl, a, od2, rfl, .inl ⟨_, upd_same, lc_gen (bools ns.length) (by rw [bools_len]; omega) (fun j H' s lt => ⟨s _ _ upd_same, by rw [ldk]; rw [bools_len] at lt; exact lt⟩) (fun H' s => ⟨s _ _ upd_same, by rw [ldk, bools_len]; exact Nat.le_refl _⟩) ?_ ?_⟩⟩⟩
      · rintro j v y H6 H7 Cn Nn ey s6 ⟨rfl, k, w', ek, rfl⟩ yes
        obtain ⟨rfl, lt⟩ := bools_at ey
        obtain ⟨x, n, rfl, rfl, ex, hv⟩ := dk_at ek nnd lv.symm
        refine ⟨rfl, ?_⟩
        exact ⟨_, rfl, x, rfl, nok x (List.mem_of_getElem? ex), fun H' s' => yes H' s'⟩
      · intro H6 D2 nD2 oD2 s6
        obtain ⟨b2, s56⟩ := lock_off oa4 s6
        have Da2 : D2 ≠ a := fun z => by rw [z, upd_same] at nD2; cases nD2
        rw [bools_map] at oD2
        refine ⟨b2, D2, _, rfl, SqL.of (by rw [upd_ne Da2]; exact oD2), _, rfl, ?_⟩
        rw [all_true]
        refine iteF ?_
        have oa6 := s56 _ _ oa4
        have sH6 := sH4.trans s56
        have s16 := s14.trans s56
        generalize upd H6 a (.dK (dk ns vs)) = H7 at oa6 sH6 s16
        obtain ⟨a0, ea0⟩ : ∃ a0, as[0]? = some a0 := ⟨as[0]'(by omega), List.getElem?_eq_getElem _⟩
        obtain ⟨vs0, ev0, oa0, lv0⟩ := paired_get (rows.same sH6) ea0
        have at0' : atI (as.map V.ref) ((0 : Nat) : Int) = some (.ref a0) := atI_nat (by rw [List.getElem?_map, ea0]; rfl)
        refine ⟨_, rfl, _, rfl, _, _, _, _, rfl, rfl, SqL.of (sH6 _ _ hrr), at0', a0, _, rfl, .inl oa0, fun q nq => ?_⟩
        have ekeys : ((dk ns vs0).map fun kv => kV kv.1) = ns.map V.str := by
          have z := congrArg (List.map kV) (dk_keys lv0.symm)
          rw [List.map_map, List.map_map] at z
          exact z
        rw [ekeys]
        have sq := same_new (o := .lst (ns.map V.str)) nq
        exact ⟨a, q, dk ns vs, ns, rfl, sq _ _ oa6, upd_same, dk_keys lv.symm, nsh, fun H' s' => ⟨_, rfl, iteF ⟨(s16.trans sq).trans s', _, _, _, rfl⟩⟩⟩
  · rintro σ H2 ⟨s2, s1', s2', s3', rfl⟩
    exact hq _ (k1.trans s2)
end
end L2.TB
namespace L2.TB
open PySem PySem.Spec PyProof.Rows
abbrev NI : List Str := ["self", "rows", "index", "row", "name"]
theorem scInit : FnScope NI ["self", "rows"] (defScope sInit) := ⟨rfl, rfl, rfl, by decide +kernel, rfl, by decide +kernel, by decide +kernel⟩
def spInit (C : Addr) : Sp := fun vs H Q _ => ∃ (p dx r : Addr) (as : List Addr) (ns : List Str) (tbl : List (List Int)), vs = [.ref p, .ref r] ∧ H p = some (.ins C dx []) ∧ H r = some (.lst (as.map V.ref)) ∧ DRows H ns as tbl ∧ tbl ≠ [] ∧ tbl.length < 1000 ∧ ns ≠ [] ∧ ns.Nodup ∧ (∀ x ∈ ns, NmOk x) ∧ ns.length < 1000 ∧
  ∀ H', TabAt H' C p ns tbl → (∀ b o, b ≠ p → H b = some o → H' b = some o) → Q .non H'
theorem qr_ : ¬ (("_questions" : Str) = "_rows") := by decide +kernel
theorem put_two (qa ra : Addr) : putF "_rows" (.ref ra) (putF "_questions" (.ref qa) []) = tabF qa ra := by
  show (if ("_questions" : Str) = "_rows" then _ else (("_questions" : Str), V.ref qa) :: putF "_rows" (.ref ra) []) = tabF qa ra
  rw [if_neg qr_]
  rfl
abbrev scRow : Scope := { kind := ScopeKind.function, names := [(Str.ofString ".0", NameKind.local), (Str.ofString "row", NameKind.cell), (Str.ofString "tuple", NameKind.globalImplicit), (Str.ofString "self", NameKind.cell)], isGenerator := false, isCoroutine := false }
abbrev rTupOf (K : PySem.W.Frag) : List V → Hp → VK → Prop := fun xs H Q => ∃ p ys, xs = [V.ref p] ∧ ((SqL K H p ys ∧ ∀ l, H l = none → Q (.ref l) (upd H l (.tup ys))) ∨ (SqT K H p ys ∧ Q (.ref p) H))
section
variable {P : Program} {w : World} {K : PySem.W.Frag} {mg : Str → Option Value} {base : Heap} {f C fB : Addr} {fd fdB : FuncData}
theorem ok_init (F : Fun K "__init__" "Table.__init__" sInit f fd) (T : TabC K C) (GB : FnOk P w K mg base CX0 2 fB fdB ["rows"] spBadRow) (FB : Fun K "_first_bad_row" "_first_bad_row" sBadRow fB fdB) (gB : mg "_first_bad_row" = some (.ref fB)) (gL : mg "list" = none) (gT : mg "tuple" = none) : FnOk P w K mg base CX0 3 f fd ["self", "rows"] (spInit C) := by
  have bB := FB.binds (ps := ["rows"]) fun _ _ _ _ _ _ us hl => match us, hl with | [_], _ => rfl
  refine F.ok scInit (fun vs H Q E h => by obtain ⟨p, dx, r, as, ns, tbl, e, _⟩ := h; rw [e]; rfl) fun cdv A outer s H vs Q E hr hsp => ?_
  obtain ⟨p, dx, r, as, ns, tbl, rfl, hp, hrr, rows, tne, tsh, nne, nnd, nok, nsh, hq⟩ := hsp
  have nd := scInit.nd
  have hu := hu_of hr
  refine ⟨_, pss_cons (ps_set (i := 2) nd rfl (Or.inl rfl) (pe_call GB hr rfl gB FB.kp bB .nil pass0 (pa_cons (pv 1) pa_nil)))
    (pss_cons (ps_if (pt_cmp (pc_notN (pv 2))) (pss_one ps_never) pss_nil)
    (pss_cons (ps_fld (pv 0) (pe_callTy (call_listD rfl) rfl gL boot_list' (pa_cons (pe_ix ix_list (pv 1) pe_int (fun _ _ => rfl)) pa_nil)) rfl)
    (pss_one (ps_fld (pv 0) (pe_lc (own := [("row", 3)]) (tt := tYes) (te := tCB (rTupOf K) (tCons (tLc (iList K (tFld K (tVar 0) "_questions")) (gName 4) tYes (tDGet (tVar 3) (tVar 4)) [4]) tNil)) rfl nd (pi_list (pv 1)) (blkOk_by (N := NI) (sc := defScope sInit) (by decide +kernel)) (fun _ _ _ _ _ => pg_name (i := 3) nd rfl (Or.inr rfl)) (fun _ _ _ _ _ => pts_nil)
      (fun _ _ _ _ _ => pe_callTy (r := rTupOf K) call_tuple_of rfl gT boot_tuple' (pa_cons (pe_lc (own := [("name", 4)]) (tt := tYes) (g := gName 4) (wi := iList K (tFld K (tVar 0) "_questions")) (te := tDGet (tVar 3) (tVar 4)) rfl nd (pi_list (pe_fld (pv 0) rfl)) (blkOk_by (N := NI) (sc := scRow) (by decide +kernel)) (fun _ _ _ _ _ => pg_name (i := 4) nd rfl (Or.inl rfl)) (fun _ _ _ _ _ => pts_nil)
        (fun _ _ _ _ _ => pe_dget hu (pv 3) (pv 4) (fun _ _ => rfl))) pa_nil))) rfl)))), ?_⟩
  have las : as.length = tbl.length := Paired.length rows
  have pos : 0 < tbl.length := List.length_pos_iff.mpr tne
  have npos : 0 < ns.length := List.length_pos_iff.mpr nne
  refine ⟨_, rfl, r, as, ns, tbl, rfl, hrr, rows, tne, tsh, nne, nnd, nok, nsh, fun H1 s1 => ?_⟩
  refine ⟨_, rfl, _, rfl, iteF ?_⟩
  obtain ⟨a0, ea0⟩ : ∃ a0, as[0]? = some a0 := ⟨as[0]'(by omega), List.getElem?_eq_getElem _⟩
  obtain ⟨vs0, ev0, oa0, lv0⟩ := paired_get (rows.same s1) ea0
  have at0' : atI (as.map V.ref) ((0 : Nat) : Int) = some (.ref a0) := atI_nat (by rw [List.getElem?_map, ea0]; rfl)
  have ekeys : ((dk ns vs0).map fun kv => kV kv.1) = ns.map V.str := by
    have z := congrArg (List.map kV) (dk_keys lv0.symm)
    rw [List.map_map, List.map_map] at z
    exact z
  refine ⟨_, rfl, _, _, _, _, rfl, rfl, SqL.of (s1 _ _ hrr), at0', a0, _, rfl, .inl oa0, fun qa nqa => ?_⟩
  rw [ekeys]
  have sq := same_new (o := .lst (ns.map V.str)) nqa
  have hp2 := sq _ _ (s1 _ _ hp)
  have oq2 : upd H1 qa (.lst (ns.map V.str)) qa = some (.lst (ns.map V.str)) := upd_same
  have s12 := s1.trans sq
  generalize upd H1 qa (.lst (ns.map V.str)) = H2 at sq hp2 oq2 s12
  refine ⟨_, rfl, p, C, dx, _, rfl, hp2, T.cl, T.nQ, by decide, ?_⟩
  have hpu : upd H2 p (.ins C dx (putF "_questions" (.ref qa) [])) p = some (.ins C dx (putF "_questions" (.ref qa) [])) := upd_same
  have s2p : ∀ b o, b ≠ p → H2 b = some o → upd H2 p (.ins C dx (putF "_questions" (.ref qa) [])) b = some o := fun b o nb e => by rw [upd_ne nb]; exact e
  generalize upd H2 p (.ins C dx (putF "_questions" (.ref qa) [])) = H4 at hpu s2p
  have rp : r ≠ p := ne_of hrr hp (by intro z; cases z)
  have qp : qa ≠ p := ne_of oq2 hp2 (by intro z; cases z)
  have or4 := s2p _ _ rp (s12 _ _ hrr)
  have oq4 := s2p _ _ qp oq2
  have rows4 : DRows H4 ns as tbl := Paired.mapP rows fun a vs h => ⟨s2p _ _ (ne_of h.1 hp (by intro z; cases z)) (s12 _ _ h.1), h.2⟩
  refine ⟨_, rfl, r, rfl, ⟨_, SqL.of or4⟩, fun D nD => ?_⟩
  refine lc_list (xs := as.map V.ref) (fun i H' => ∃ ps, H' D = some (.lst ((ps : List Addr).map V.ref)) ∧ Paired (fun q vs => H' q = some (.tup (vs.map V.int)) ∧ vs.length = ns.length) ps (tbl.take i) ∧ Same H4 H')
    ⟨[], upd_same, .nil, same_new nD⟩ (fun i H' _ h => SqL.of (h.choose_spec.2.2 _ _ or4)) ?_ ?_
  · rintro i v H5 ev ⟨ps, oD, prs, s5⟩
    rw [List.getElem?_map] at ev
    obtain ⟨a, ea, rfl⟩ := Option.map_eq_some_iff.mp ev
    obtain ⟨vs, evs, oa, lv⟩ := paired_get (rows4.same s5) ea
    have hi : i < tbl.length := (List.getElem?_eq_some_iff.mp evs).1
    have lps : ps.length = i := by rw [Paired.length prs, List.length_take]; omega
    refine ⟨rfl, ?_⟩
    refine ⟨_, rfl, p, C, dx, _, _, rfl, s5 _ _ hpu, T.cl, T.nQ, rfl, qa, rfl, ⟨_, SqL.of (s5 _ _ oq4)⟩, lc_gen (vs.map V.int) (by rw [List.length_map]; omega) (fun j H' s lt => ⟨ns.map V.str, _, SqL.of (s _ _ (s5 _ _ oq4)), List.getElem?_eq_getElem (by rw [List.length_map] at lt ⊢; omega)⟩) (fun H' s => ⟨ns.map V.str, SqL.of (s _ _ (s5 _ _ oq4)), by rw [List.length_map, List.length_map]; omega⟩) ?_ ?_⟩
    · rintro j x y H6 H7 Cn Nn ey s6 ⟨rfl, ex⟩ yes
      have ex := ex _ (SqL.of (s6 _ _ (s5 _ _ oq4)))
      rw [List.getElem?_map] at ey ex
      obtain ⟨n, en, rfl⟩ := Option.map_eq_some_iff.mp ey
      obtain ⟨z, ez, rfl⟩ := Option.map_eq_some_iff.mp ex
      have edk : (dk ns vs)[j]? = some (Sum.inr z, V.int n) := by
        unfold dk
        rw [List.getElem?_map, List.getElem?_zip_eq_some.mpr (show ns[j]? = some (z, n).1 ∧ vs[j]? = some (z, n).2 from ⟨ez, en⟩)]
        rfl
      obtain ⟨z', n', e1, e2, _, hv⟩ := dk_at edk nnd lv.symm
      obtain rfl := Sum.inr.inj e1
      obtain rfl := V.int.inj e2
      refine ⟨rfl, ?_⟩
      exact ⟨_, rfl, _, rfl, a, _, rfl, hv ▸ DGet.k (k := Sum.inr z) (s6 _ _ oa), yes H7 (Same.refl _)⟩
    · intro H6 l nl ol s6
      refine ⟨l, _, rfl, .inl ⟨SqL.of ol, fun t nt => ?_⟩⟩
      have st := same_new (o := .tup (vs.map V.int)) nt
      have oD6 := st _ _ (s6 _ _ oD)
      have tD : t ≠ D := fun z => by rw [z, s6 _ _ oD] at nt; cases nt
      refine ⟨_, oD6, (by rw [sizeLine_eq, List.length_map]; omega), ps ++ [t], by rw [upd_same]; simp, ?_, ?_⟩
      · have e1 : tbl.take (i + 1) = tbl.take i ++ [vs] := by rw [List.take_succ, evs]; rfl
        rw [e1]
        refine paired_snoc ⟨by rw [upd_ne tD, upd_same], lv⟩ (Paired.mapP prs fun q vs' h => ⟨?_, h.2⟩)
        rw [upd_ne (ne_of h.1 oD (by intro z; cases z))]
        exact st _ _ (s6 _ _ h.1)
      · intro b u e
        rw [upd_ne (ne_of_none e nD)]
        exact st _ _ (s6 _ _ (s5 _ _ e))
  · rintro H5 ⟨ps, oD, prs, s5⟩
    have et : tbl.take (as.map V.ref).length = tbl := List.take_of_length_le (by rw [List.length_map]; omega)
    rw [et] at prs
    refine ⟨_, rfl, p, C, dx, _, rfl, s5 _ _ hpu, T.cl, T.nR, by show 1 < 1000; decide, ?_⟩
    rw [put_two]
    have Dp : D ≠ p := fun z => by rw [z, hpu] at nD; cases nD
    have frame : ∀ b o, b ≠ p → H b = some o → upd H5 p (.ins C dx (tabF qa D)) b = some o := fun b o nb e => by
      rw [upd_ne nb]
      exact s5 _ _ (s2p _ _ nb (s12 _ _ e))
    refine hq _ ⟨dx, qa, D, upd_same, ?_, ps, ?_, Paired.mapP prs fun q vs h => ⟨?_, h.2⟩⟩ frame
    · rw [upd_ne qp]; exact s5 _ _ oq4
    · rw [upd_ne Dp]; exact oD
    · rw [upd_ne (ne_of h.1 (s5 _ _ hpu) (by intro z; cases z))]; exact h.1
end
end L2.TB
/-! is_list, is_one_of, first_bad of things of any kind -/
namespace L2.TB
open PySem PySem.Spec PyProof.Rows
/-- a thing that is no text -/
def NoStr (K : PySem.W.Frag) (H : Hp) (v : V) : Prop := ∃ t : String, TyX K H v (.type t) ∧ kitB t "str" = some false
/-- a thing that is neither a list nor a tuple -/
def NoSeq (K : PySem.W.Frag) (H : Hp) (v : V) : Prop := ∃ t : String, TyX K H v (.type t) ∧ kitB t "list" = some false ∧ kitB t "tuple" = some false
/-- what needs no heap to be told -/
inductive Atom : V → Prop
  | str (x : Str) : Atom (.str x)
  | int (i : Int) : Atom (.int i)
  | bl (b : Bool) : Atom (.bl b)
  | non : Atom .non
def strOf : V → Option Str
  | .str x => some x
  | _ => none
theorem strOf_none {v : V} (h : strOf v = none) (a : Atom v) (K : PySem.W.Frag) (H : Hp) : NoStr K H v := by
  cases a with
  | str x => cases h
  | int i => exact ⟨_, .base (.int i), by decide +kernel⟩
  | bl b => exact ⟨_, .base (.bl b), by decide +kernel⟩
  | non => exact ⟨_, .base .non, by decide +kernel⟩
theorem strOf_some {v : V} {x : Str} (h : strOf v = some x) : v = .str x := by
  cases v <;> first | (cases h; rfl) | cases h
theorem ty_same {K : PySem.W.Frag} {H H' : Hp} {v : V} {t : String} (h : TyX K H v (.type t)) (s : Same H H') : TyX K H' v (.type t) := by
  generalize e : Value.type t = u at h
  cases h with
  | base b =>
    refine .base ?_
    cases b with
    | non => exact .non
    | bl x => exact .bl x
    | int i => exact .int i
    | str x => exact .str x
    | flt x => exact .flt x
    | lst q => exact .lst (s _ _ q)
    | frz q => exact .frz (s _ _ q)
    | tup q => exact .tup (s _ _ q)
    | dK q => exact .dK (s _ _ q)
    | dT q => exact .dT (s _ _ q)
    | ins q => cases e
  | byt b => exact .byt b
  | set q => exact .set (s _ _ q)
  | kList q c => exact .kList q c
  | kTuple q c => exact .kTuple q c
  | kDict q c => exact .kDict q c
  | fTuple q => exact .fTuple (s _ _ q)
  | fDict q => exact .fDict (s _ _ q)
theorem NoStr.same {K : PySem.W.Frag} {H H' : Hp} {v : V} (h : NoStr K H v) (s : Same H H') : NoStr K H' v := let ⟨t, a, b⟩ := h; ⟨t, ty_same a s, b⟩
theorem NoSeq.same {K : PySem.W.Frag} {H H' : Hp} {v : V} (h : NoSeq K H v) (s : Same H H') : NoSeq K H' v := let ⟨t, a, b⟩ := h; ⟨t, ty_same a s, b⟩
/-- the first place at which a thing is no name or stood before -/
def badAt (ns : List Str) : List V → List Str → Nat → Option Nat
  | [], _, _ => none
  | v :: r, seen, i => match strOf v with
    | some x => if x ∈ ns ∧ x ∉ seen then badAt ns r (seen ++ [x]) (i + 1) else some i
    | none => some i
def optV : Option Nat → V
  | none => .non
  | some i => .int (i : Nat)
def spIsListG (K : PySem.W.Frag) : Sp := fun vs H Q _ => ∃ v : V, vs = [v] ∧ (((∃ a xs, v = .ref a ∧ SqA K H a xs) ∧ ∀ H', Same H H' → Q (.bl true) H') ∨ (NoSeq K H v ∧ ∀ H', Same H H' → Q (.bl false) H'))
def spIsOneG (K : PySem.W.Frag) : Sp := fun vs H Q _ => ∃ (c : Addr) (ns : List Str) (v : V), vs = [.ref c, v] ∧ SqL K H c (ns.map V.str) ∧ ((∃ x, v = .str x ∧ Q (.bl (decide (x ∈ ns))) H) ∨ (NoStr K H v ∧ Q (.bl false) H))
/-- what first_bad says of v -/
inductive Bad (K : PySem.W.Frag) (H : Hp) (ns : List Str) : V → Option Nat → Prop
  | no {v : V} (h : NoSeq K H v) : Bad K H ns v (some 0)
  | seq {a : Addr} {xs : List V} (h : SqA K H a xs) (at_ : ∀ x ∈ xs, Atom x) (short : xs.length < 1000) : Bad K H ns (.ref a) (badAt ns xs [] 0)
theorem Bad.same {K : PySem.W.Frag} {H H' : Hp} {ns : List Str} {v : V} {r : Option Nat} (h : Bad K H ns v r) (s : Same H H') : Bad K H' ns v r := by
  cases h with
  | no h => exact .no (h.same s)
  | seq h a l => exact .seq (h.same s) a l
def spFirstG (K : PySem.W.Frag) : Sp := fun vs H Q _ => ∃ (c : Addr) (ns : List Str) (v : V) (r : Option Nat), vs = [.ref c, v] ∧ H c = some (.lst (ns.map V.str)) ∧ Bad K H ns v r ∧ ∀ H', Same H H' → Q (optV r) H'
theorem kit_two_n {K : PySem.W.Frag} {t : String} (h1 : kitB t "list" = some false) (h2 : kitB t "tuple" = some false) : PySem.W.kitAny K (.type t) [.type "list", .type "tuple"] = some false :=
  kitAny_cons (b := false) (kit_ty h1) (fun _ => kitAny_cons (b := false) (kit_ty h2) (fun _ => kitAny_nil) (fun z => by cases z)) (fun z => by cases z)
section
variable {P : Program} {w : World} {K : PySem.W.Frag} {mg : Str → Option Value} {base : Heap} {f fL fO : Addr} {fd fdL fdO : FuncData}
theorem ok_isListG (F : Fun K "is_list" "is_list" sIsList f fd) (gI : mg "isinstance" = none) (gL : mg "list" = none) (gT : mg "tuple" = none) : FnOk P w K mg base CX0 1 f fd ["thing"] (spIsListG K) := by
  refine F.ok scIsList (fun vs H Q E h => by obtain ⟨a, e, _⟩ := h; rw [e]; rfl) fun cdv A outer s H vs Q E hr hsp => ?_
  obtain ⟨v, rfl, hq⟩ := hsp
  refine ⟨_, pss_one (ps_ret (pe_callB (r := rIsiT K) call_isiT rfl gI boot_isi (pa_cons (pv 0) (pa_cons (pe_tup (pa_cons (pe_bltn (v := .ty "list") rfl gL boot_list' rfl) (pa_cons (pe_bltn (v := .ty "tuple") rfl gT boot_tuple' rfl) pa_nil))) pa_nil)))), ?_⟩
  refine ⟨_, rfl, (by show 2 ≤ sizeLine; decide), fun t nt => ?_⟩
  have kt := same_new (o := .tup [.ty "list", .ty "tuple"]) nt
  rcases hq with ⟨⟨a, xs, rfl, hS⟩, hq⟩ | ⟨hN, hq⟩
  · rcases hS.same kt with e | e
    · exact ⟨_, _, _, _, _, true, rfl, upd_same, .cons (.ty _) (.cons (.ty _) .nil), .base (.lst e), kit_two_l, hq _ kt⟩
    · exact ⟨_, _, _, _, _, true, rfl, upd_same, .cons (.ty _) (.cons (.ty _) .nil), .base (.tup e), kit_two_t, hq _ kt⟩
  · obtain ⟨ty, h1, h2, h3⟩ := hN.same kt
    exact ⟨_, _, _, _, _, false, rfl, upd_same, .cons (.ty _) (.cons (.ty _) .nil), h1, kit_two_n h2 h3, hq _ kt⟩
theorem ok_isOneG (F : Fun K "is_one_of" "is_one_of" sIsOne f fd) (gI : mg "isinstance" = none) (gS : mg "str" = none) : FnOk P w K mg base CX0 1 f fd ["names", "thing"] (spIsOneG K) := by
  refine F.ok scIsOne (fun vs H Q E h => by obtain ⟨c, ns, x, e, _⟩ := h; rw [e]; rfl) fun cdv A outer s H vs Q E hr hsp => ?_
  obtain ⟨c, ns, v, rfl, hS, hq⟩ := hsp
  refine ⟨_, pss_one (ps_ret (pe_and (pe_callB (r := rIsi K) call_isi rfl gI boot_isi (pa_cons (pv 1) (pa_cons (pe_bltn (v := .ty "str") rfl gS boot_str' rfl) pa_nil)))
    (pe_one (pe_cmpR op_in_seq (pv 1) (pv 0) rfl)))), ?_⟩
  rcases hq with ⟨x, rfl, hq⟩ | ⟨⟨t, h1, h2⟩, hq⟩
  · refine ⟨_, rfl, _, _, _, _, true, rfl, .ty _, .base (.str x), kit_ty (by decide +kernel), true, rfl, _, rfl, _, rfl, c, _, rfl, .inl hS, rfl, flat_strs ns, ?_⟩
    rw [inV_strs]
    exact hq
  · exact ⟨_, rfl, _, _, _, _, false, rfl, .ty _, h1, kit_ty h2, false, rfl, hq⟩
theorem badAt_step {ns : List Str} {xs : List V} {us : List Str} {i : Nat} {v : V} (hv : xs[i]? = some v) :
    badAt ns (xs.drop i) us i = match strOf v with | some x => if x ∈ ns ∧ x ∉ us then badAt ns (xs.drop (i + 1)) (us ++ [x]) (i + 1) else some i | none => some i := by
  have e : xs.drop i = v :: xs.drop (i + 1) := by
    obtain ⟨h, e⟩ := List.getElem?_eq_some_iff.mp hv
    rw [List.drop_eq_getElem_cons h, e]
  rw [e]
  rfl
theorem ok_firstG (F : Fun K "first_bad" "first_bad" sFirst f fd) (FL : Fun K "is_list" "is_list" sIsList fL fdL) (gIL : mg "is_list" = some (.ref fL)) (FO : Fun K "is_one_of" "is_one_of" sIsOne fO fdO) (gIO : mg "is_one_of" = some (.ref fO))
    (gI : mg "isinstance" = none) (gL : mg "list" = none) (gT : mg "tuple" = none) (gS : mg "str" = none) (gE : mg "enumerate" = none) : FnOk P w K mg base CX0 2 f fd ["names", "things"] (spFirstG K) := by
  have GL : FnOk P w K mg base CX0 1 fL fdL ["thing"] (spIsListG K) := ok_isListG FL gI gL gT
  have bL := FL.binds (ps := ["thing"]) fun _ _ _ _ _ _ us hl => match us, hl with | [_], _ => rfl
  have GO : FnOk P w K mg base CX0 1 fO fdO ["names", "thing"] (spIsOneG K) := ok_isOneG FO gI gS
  have bO := FO.binds (ps := ["names", "thing"]) fun _ _ _ _ _ _ us hl => match us, hl with | [_, _], _ => rfl
  refine F.ok scFirst (fun vs H Q E h => by obtain ⟨c, ns, v, r, e, _⟩ := h; rw [e]; rfl) fun cdv A outer s H vs Q E hr hsp => ?_
  obtain ⟨c, ns, v, r, rfl, hc, hB, hq⟩ := hsp
  have nd := scFirst.nd
  have hu := hu_of hr
  refine ⟨_, pss_cons (ps_if (pt_not (pt_val (pe_call GL hr rfl gIL FL.kp bL .nil pass0 (pa_cons (pv 1) pa_nil)))) (pss_one (ps_ret pe_int)) pss_nil)
    (pss_cons (ps_set (i := 2) nd rfl (Or.inl rfl) pe_dnewK)
    (pss_cons (ps_for PassesOwn.never rfl (pi_enumS rfl gE (pa_cons (pv 1) pa_nil)) (pg_tup rfl (pgs_cons (pg_name (i := 3) nd rfl (Or.inl rfl)) (pgs_cons (pg_name (i := 4) nd rfl (Or.inl rfl)) pgs_nil)))
      (pss_cons (ps_if (PW.pt (pw_or (pt_not (pt_val (pe_call GO hr rfl gIO FO.kp bO .nil pass0 (pa_cons (pv 0) (pa_cons (pv 4) pa_nil))))) (pw_or1 (pt_cmp (pc_din hu (pv 4) (pv 2)))))) (pss_one (ps_ret (pv 3))) pss_nil)
      (pss_one (ps_dput hu (pv 2) (pv 4) pe_bl rfl))))
    (pss_one (ps_ret pe_non)))), ?_⟩
  cases hB with
  | no hN => exact ⟨_, rfl, _, rfl, .inr ⟨hN, fun H1 k1 => ⟨_, rfl, iteT (hq H1 k1)⟩⟩⟩
  | @seq a xs hS hA short =>
  refine ⟨_, rfl, _, rfl, .inl ⟨⟨a, xs, rfl, hS⟩, fun H1 k1 => ⟨_, rfl, iteF fun d nd2 => ?_⟩⟩⟩
  have kd := same_new (o := .dK []) nd2
  obtain ⟨o, ho, ko⟩ : ∃ o, H1 a = some o ∧ (o = .lst xs ∨ o = .tup xs) := by
    rcases hS.same k1 with e | e
    · exact ⟨_, e, .inl rfl⟩
    · exact ⟨_, e, .inr rfl⟩
  refine ⟨_, rfl, enum_seq ko (fun i σ H' => ∃ us : List Str, us.length = i ∧ badAt ns xs [] 0 = badAt ns (xs.drop i) us i ∧ H' d = some (.dK (seenD us)) ∧ Same H1 H' ∧ ∃ s3 s4, σ = [some (.ref c), some (.ref a), some (.ref d), s3, s4])
    ⟨[], rfl, by rw [List.drop_zero], upd_same, kd, _, _, rfl⟩ (fun i σ H' _ ⟨us, h⟩ => h.2.2.2.1 _ _ ho) ?_ ?_⟩
  · rintro i v σ H2 T ev ⟨us, lu, eb, od, s2, s3, s4, rfl⟩ nT
    have hi : i < xs.length := (List.getElem?_eq_some_iff.mp ev).1
    have kT := same_new (o := .tup [.int (i : Nat), v]) nT
    refine ⟨T, _, rfl, SqT.of upd_same, rfl, ?_⟩
    refine ⟨_, _, rfl, _, _, rfl, rfl, ?_⟩
    rw [badAt_step ev] at eb
    refine ⟨_, rfl, _, rfl, c, ns, v, rfl, SqL.of (kT _ _ (s2 _ _ (k1 _ _ hc))), ?_⟩
    cases hs : strOf v with
    | none =>
      rw [hs] at eb
      refine .inr ⟨strOf_none hs (hA v (List.mem_of_getElem? ev)) K _, _, rfl, iteT ?_⟩
      have z := hq _ (k1.trans (s2.trans kT))
      rw [eb] at z
      exact iteT ⟨_, rfl, z⟩
    | some x =>
      obtain rfl := strOf_some hs
      rw [hs] at eb
      refine .inl ⟨x, rfl, _, rfl, ?_⟩
      by_cases xin : x ∈ ns
      · rw [decide_eq_true xin]
        refine iteF ⟨_, rfl, _, rfl, d, _, rfl, DGet.k (k := Sum.inr x) (kT _ _ od), ?_⟩
        by_cases xs' : x ∈ us
        · obtain ⟨v2, e2⟩ := has_key (kvs := seenD us) (ns := us) (by unfold seenD; rw [List.map_map]; rfl) xs'
          rw [e2]
          dsimp only at eb
          rw [if_neg (fun z => z.2 xs')] at eb
          have z := hq _ (k1.trans (s2.trans kT))
          rw [eb] at z
          exact ⟨_, rfl, iteT ⟨_, rfl, z⟩⟩
        · rw [seen_none xs']
          refine ⟨_, rfl, iteF ?_⟩
          dsimp only at eb
          rw [if_pos ⟨xin, xs'⟩] at eb
          have small : (seenD us).length < sizeLine := by
            rw [sizeLine_eq]
            unfold seenD
            rw [List.length_map]; omega
          refine ⟨_, rfl, _, rfl, d, _, rfl, DPut.k (k := Sum.inr x) (kT _ _ od) small, us ++ [x], by rw [List.length_append, lu]; rfl, eb, ?_, ?_, _, _, rfl⟩
          · rw [upd_same, seen_put xs']
          · intro b u e
            have nb : b ≠ d := ne_of_none e nd2
            rw [upd_ne nb]
            exact kT _ _ (s2 _ _ e)
      · rw [decide_eq_false xin]
        dsimp only at eb
        rw [if_neg (fun z => xin z.1)] at eb
        have z := hq _ (k1.trans (s2.trans kT))
        rw [eb] at z
        exact iteT ⟨_, rfl, z⟩
  · rintro σ H2 ⟨us, lu, eb, od, s2, s3, s4, rfl⟩
    rw [List.drop_length] at eb
    have z := hq _ (k1.trans s2)
    rw [eb] at z
    exact z
end
end L2.TB
/-! the checks, both ways: they let through, or an error of their class flies -/
namespace L2.TB
open PySem PySem.Spec PyProof.Rows
structure ErrF (P : Program) (w : World) (K : PySem.W.Frag) (mg : Str → Option Value) (base : Heap) (x : Str) (C : Addr) (fld : Str) : Prop where
  g : mg x = some (.ref C)
  ex : ∃ (fI : Addr) (fd : FuncData) (y : Str), ErrC K C fI fld ∧ FnOk P w K mg base CX0 1 fI fd ["self", y] (spErr K fld) ∧ Binds K fd ["self", y] []
def tRaise (K : PySem.W.Frag) (C : Addr) (fld : Str) (te : TE) (W : WX) : TS := fun _ σ H => tMkO C (spErr K fld) [] (tCons te tNil) σ H fun cls d H' => W cls d σ H'
theorem ps_raiseE {X : Cx} {W : WX} {x fld : Str} {C : Addr} {e : Expr} {te : TE} {p pos pos2 : Pos} (hc : X.calm = true) (tk : Takes X W) (E : ErrF X.prog X.w X.K X.mg X.base x C fld) (hr : Room 2 X.A) (hg : Gl X x) (he : PE X e te)
    (hdb : (x == ("__debug__" : Str)) = false := by decide) (hs : starEach [e] X.env = (false, eval e X.env) :: starEach [] X.env := by rfl) : PS X (.Raise (some (.Call (.Name x p) [e] [] pos)) none pos2) (tRaise X.K C fld te W) := by
  obtain ⟨fI, fd, y, EC, G, b⟩ := E.ex
  exact ps_raise hc tk (pmk_err EC G b hr hg E.g he hdb hs)
theorem Flies.up {P : Program} {w : World} {K : PySem.W.Frag} {mg : Str → Option Value} {base : Heap} {x fld : Str} {C : Addr} {v : V} {H1 : Hp} {Q : XK} (E : ErrF P w K mg base x C fld) (h : Flies C fld v H1 Q) :
    [v].length ≤ 1000 ∧ ∀ a, H1 a = none → spErr K fld (.ref a :: ([v] ++ [])) (upd H1 a (exo a C none))
      (fun v H2 => v = .non ∧ ∃ (d : Addr) (fs : List (Str × V)), H2 a = some (exo a C (some d)) ∧ H2 d = some (exd d fs) ∧ H1 d = none ∧ Q (.ref C) (some d) (upd (del H2 a) d (.xd fs))) (fun _ _ _ => False) := by
  obtain ⟨fI, fd, y, EC, _⟩ := E.ex
  exact Flies.mk EC h
/-- what is asked is no question -/
def BadAsk (K : PySem.W.Frag) (H : Hp) (ns : List Str) (v : V) : Prop := (∃ x, v = .str x ∧ x ∉ ns) ∨ NoStr K H v
theorem BadAsk.same {K : PySem.W.Frag} {H H' : Hp} {ns : List Str} {v : V} (h : BadAsk K H ns v) (s : Same H H') : BadAsk K H' ns v := h.imp id fun h => h.same s
def spCkKX (K : PySem.W.Frag) (CK : Addr) : Sp := fun vs H Q E => ∃ (c : Addr) (ns : List Str) (v : V) (r : Option Nat), vs = [.ref c, v] ∧ H c = some (.lst (ns.map V.str)) ∧ Bad K H ns v r ∧ (r = none → ∀ H', Same H H' → Q .non H') ∧ ∀ i : Nat, r = some i → Flies CK "index" (.int i) H E
def spCkAX (K : PySem.W.Frag) (CQ : Addr) : Sp := fun vs H Q E => ∃ (c : Addr) (ns : List Str) (v : V), vs = [.ref c, v] ∧ SqL K H c (ns.map V.str) ∧ ((∃ x, v = .str x ∧ x ∈ ns ∧ Q .non H) ∨ (BadAsk K H ns v ∧ Flies CQ "name" v H E))
def spCkBX (K : PySem.W.Frag) (CK CQ : Addr) : Sp := fun vs H Q E => ∃ (c : Addr) (ns : List Str) (v x : V) (r : Option Nat), vs = [.ref c, v, x] ∧ H c = some (.lst (ns.map V.str)) ∧ Bad K H ns v r ∧
  ((∃ i : Nat, r = some i ∧ Flies CK "index" (.int i) H E) ∨ (r = none ∧ ((∃ y, x = .str y ∧ y ∈ ns ∧ ∀ H', Same H H' → Q .non H') ∨ (BadAsk K H ns x ∧ Flies CQ "name" x H E))))
section
variable {P : Program} {w : World} {K : PySem.W.Frag} {mg : Str → Option Value} {base : Heap} {f CK CQ aF aL aO aK aA aB : Addr} {fd fdK fdA : FuncData}
theorem ok_ckKX (C : Chk K mg aF aL aO aK aA aB) (EK : ErrF P w K mg base "BadKnown" CK "index") (F : Fun K "check_known" "check_known" sCkK f fd) : FnOk P w K mg base (L2.CX P w) 3 f fd ["names", "known"] (spCkKX K CK) := by
  obtain ⟨fdF, FF⟩ := C.F
  obtain ⟨fdL, FL⟩ := C.L
  obtain ⟨fdO, FO⟩ := C.O
  have G : FnOk P w K mg base CX0 2 aF fdF ["names", "things"] (spFirstG K) := ok_firstG FF FL C.gL FO C.gO C.nI C.nL C.nT C.nS C.nE
  have b := FF.binds (ps := ["names", "things"]) fun _ _ _ _ _ _ us hl => match us, hl with | [_, _], _ => rfl
  refine F.okX scCkK (fun vs H Q E h => by obtain ⟨c, ns, v, r, e, _⟩ := h; rw [e]; rfl) fun cdv A outer s H vs Q E hr hsp => ?_
  obtain ⟨c, ns, v, r, rfl, hc, hB, hq, hf⟩ := hsp
  have nd := scCkK.nd
  refine ⟨_, pss_cons (ps_set (i := 2) nd rfl (Or.inl rfl) (pe_call G hr rfl C.gF FF.kp b .nil pass0 (pa_cons (pv 0) (pa_cons (pv 1) pa_nil))))
    (pss_one (ps_if (pt_cmp (pc_notN (pv 2))) (pss_one (ps_raiseE rfl (takes_of rfl rfl rfl rfl) EK hr rfl (pv 2))) pss_nil)), ?_⟩
  refine ⟨_, rfl, _, rfl, c, ns, v, r, rfl, hc, hB, fun H1 k1 => ?_⟩
  cases r with
  | none => exact ⟨_, rfl, _, rfl, iteF (hq rfl H1 k1)⟩
  | some i => exact ⟨_, rfl, _, rfl, iteT ⟨_, rfl, ((hf i rfl).same k1).up EK⟩⟩
theorem ok_ckAX (C : Chk K mg aF aL aO aK aA aB) (EQ : ErrF P w K mg base "NoQuestion" CQ "name") (F : Fun K "check_asked" "check_asked" sCkA f fd) : FnOk P w K mg base (L2.CX P w) 3 f fd ["names", "asked"] (spCkAX K CQ) := by
  obtain ⟨fdO, FO⟩ := C.O
  have G : FnOk P w K mg base CX0 1 aO fdO ["names", "thing"] (spIsOneG K) := ok_isOneG FO C.nI C.nS
  have b := FO.binds (ps := ["names", "thing"]) fun _ _ _ _ _ _ us hl => match us, hl with | [_, _], _ => rfl
  refine F.okX scCkA (fun vs H Q E h => by obtain ⟨c, ns, x, e, _⟩ := h; rw [e]; rfl) fun cdv A outer s H vs Q E hr hsp => ?_
  obtain ⟨c, ns, v, rfl, hc, hq⟩ := hsp
  refine ⟨_, pss_one (ps_if (pt_not (pt_val (pe_call G (hr.mono (by decide)) rfl C.gO FO.kp b .nil pass0 (pa_cons (pv 0) (pa_cons (pv 1) pa_nil))))) (pss_one (ps_raiseE rfl (takes_of rfl rfl rfl rfl) EQ hr rfl (pv 1))) pss_nil), ?_⟩
  refine ⟨_, rfl, _, rfl, c, ns, v, rfl, hc, ?_⟩
  rcases hq with ⟨x, rfl, xin, hq⟩ | ⟨⟨x, rfl, xin⟩ | hN, hf⟩
  · exact .inl ⟨x, rfl, _, rfl, by rw [decide_eq_true xin]; exact iteF hq⟩
  · exact .inl ⟨x, rfl, _, rfl, by rw [decide_eq_false xin]; exact iteT ⟨_, rfl, hf.up EQ⟩⟩
  · exact .inr ⟨hN, _, rfl, iteT ⟨_, rfl, hf.up EQ⟩⟩
theorem ok_ckBX (C : Chk K mg aF aL aO aK aA aB) (EK : ErrF P w K mg base "BadKnown" CK "index") (EQ : ErrF P w K mg base "NoQuestion" CQ "name") (F : Fun K "check_both" "check_both" sCkB f fd) : FnOk P w K mg base (L2.CX P w) 4 f fd ["names", "known", "asked"] (spCkBX K CK CQ) := by
  obtain ⟨fdK, FK⟩ := C.CK
  obtain ⟨fdA, FA⟩ := C.CA
  have GK : FnOk P w K mg base (L2.CX P w) 3 aK fdK ["names", "known"] (spCkKX K CK) := ok_ckKX C EK FK
  have GA : FnOk P w K mg base (L2.CX P w) 3 aA fdA ["names", "asked"] (spCkAX K CQ) := ok_ckAX C EQ FA
  have bK := FK.binds (ps := ["names", "known"]) fun _ _ _ _ _ _ us hl => match us, hl with | [_, _], _ => rfl
  have bA := FA.binds (ps := ["names", "asked"]) fun _ _ _ _ _ _ us hl => match us, hl with | [_, _], _ => rfl
  refine F.okX scCkB (fun vs H Q E h => by obtain ⟨c, ns, v, x, r, e, _⟩ := h; rw [e]; rfl) fun cdv A outer s H vs Q E hr hsp => ?_
  obtain ⟨c, ns, v, x, r, rfl, hc, hB, hq⟩ := hsp
  refine ⟨_, pss_cons (ps_expr (pe_callS GK hr rfl C.gCK FK.kp bK (fun σ => passAt (takes_of rfl rfl rfl rfl) σ) (pa_cons (pv 0) (pa_cons (pv 1) pa_nil))))
    (pss_one (ps_expr (pe_callS GA hr rfl C.gCA FA.kp bA (fun σ => passAt (takes_of rfl rfl rfl rfl) σ) (pa_cons (pv 0) (pa_cons (pv 2) pa_nil))))), ?_⟩
  refine ⟨_, rfl, _, rfl, c, ns, v, r, rfl, hc, hB, fun er H1 k1 => ?_, fun i er => ?_⟩
  · rcases hq with ⟨i, e2, _⟩ | ⟨_, hq⟩
    · rw [er] at e2; cases e2
    · refine ⟨_, rfl, _, rfl, c, ns, x, rfl, SqL.of (k1 _ _ hc), ?_⟩
      rcases hq with ⟨y, rfl, yin, hq⟩ | ⟨hb, hf⟩
      · exact .inl ⟨y, rfl, yin, hq H1 k1⟩
      · exact .inr ⟨hb.same k1, hf.same k1⟩
  · rcases hq with ⟨j, e2, hf⟩ | ⟨e2, _⟩
    · rw [er] at e2; cases e2; exact hf
    · rw [er] at e2; cases e2
end
end L2.TB
/-! the engine's functions where they refuse -/
namespace L2.TB
open PySem PySem.Spec PyProof.Rows
theorem pe_never {X : Cx} {e : Expr} : PE X e (fun _ _ _ => False) := ⟨fun _ _ _ _ _ _ h => h.elim⟩
/-- a table, and a list of its questions that is none -/
def spRefK (K : PySem.W.Frag) (C CK : Addr) : Sp := fun vs H Q E => ∃ (a : Addr) (ns : List Str) (tbl : List (List Int)) (v : V) (i : Nat), vs = [.ref a, v] ∧ TabAt H C a ns tbl ∧ Bad K H ns v (some i) ∧ Flies CK "index" (.int i) H E
/-- .., and what is asked besides -/
def spRefB (K : PySem.W.Frag) (C CK CQ : Addr) : Sp := fun vs H Q E => ∃ (a : Addr) (ns : List Str) (tbl : List (List Int)) (v x : V) (r : Option Nat), vs = [.ref a, v, x] ∧ TabAt H C a ns tbl ∧ Bad K H ns v r ∧
  ((∃ i : Nat, r = some i ∧ Flies CK "index" (.int i) H E) ∨ (r = none ∧ BadAsk K H ns x ∧ Flies CQ "name" x H E))
/-- a table, what is asked, the files' questions -/
def spRefF (K : PySem.W.Frag) (C CK CQ : Addr) : Sp := fun vs H Q E => ∃ (a : Addr) (ns : List Str) (tbl : List (List Int)) (x v : V), vs = [.ref a, x, v] ∧ TabAt H C a ns tbl ∧
  ((BadAsk K H ns x ∧ Flies CQ "name" x H E) ∨ (∃ (y : Str) (i : Nat), x = .str y ∧ y ∈ ns ∧ v ≠ .non ∧ Bad K H ns v (some i) ∧ Flies CK "index" (.int i) H E))
abbrev NTo2 : List Str := ["field", "known", "questions", "name"]
theorem scTo2 : FnScope NTo2 ["field", "known"] (defScope sToldBy) := ⟨rfl, rfl, rfl, by decide +kernel, rfl, by decide +kernel, by decide +kernel⟩
theorem scIc : FnScope ["field", "known"] ["field", "known"] (defScope sIsClosed) := ⟨rfl, rfl, rfl, by decide +kernel, rfl, by decide +kernel, by decide +kernel⟩
abbrev NNe : List Str := ["field", "known", "asked", "name"]
theorem scNe : FnScope NNe ["field", "known", "asked"] (defScope sNeedless) := ⟨rfl, rfl, rfl, by decide +kernel, rfl, by decide +kernel, by decide +kernel⟩
abbrev NTh : List Str := ["field", "known", "asked", "left", "name", "others"]
theorem scTh : FnScope NTh ["field", "known", "asked"] (defScope sThinned) := ⟨rfl, rfl, rfl, by decide +kernel, rfl, by decide +kernel, by decide +kernel⟩
abbrev NAs : List Str := ["field", "asked", "of", "names", "name"]
theorem scAs : FnScope NAs ["field", "asked", "of"] (defScope sAskedF) := ⟨rfl, rfl, rfl, by decide +kernel, rfl, by decide +kernel, by decide +kernel⟩
theorem scLf : FnScope ["field", "asked", "of", "names", "file"] ["field", "asked", "of"] (defScope sLeastF) := ⟨rfl, rfl, rfl, by decide +kernel, rfl, by decide +kernel, by decide +kernel⟩
theorem scSe : FnScope ["field", "asked", "of", "names", "file"] ["field", "asked", "of"] (defScope sSecrets) := ⟨rfl, rfl, rfl, by decide +kernel, rfl, by decide +kernel, by decide +kernel⟩
theorem scNd : FnScope ["field", "asked", "of", "names", "name"] ["field", "asked", "of"] (defScope sNeeded) := ⟨rfl, rfl, rfl, by decide +kernel, rfl, by decide +kernel, by decide +kernel⟩
theorem scId : FnScope ["field", "asked", "of", "names", "used", "file", "name"] ["field", "asked", "of"] (defScope sIdle) := ⟨rfl, rfl, rfl, by decide +kernel, rfl, by decide +kernel, by decide +kernel⟩
section
variable {P : Program} {w : World} {K : PySem.W.Frag} {mg : Str → Option Value} {base : Heap} {f C CK CQ aF aL aO aK aA aB fQ fI fPl fPr fT fA : Addr} {fd fdT fdA : FuncData}
theorem ok_toldByX (F : Fun K "told_by" "told_by" sToldBy f fd) (T : TabM K C fQ fI fPl fPr) (Ck : Chk K mg aF aL aO aK aA aB) (EK : ErrF P w K mg base "BadKnown" CK "index") : FnOk P w K mg base (L2.CX P w) 4 f fd ["field", "known"] (spRefK K C CK) := by
  obtain ⟨fdQ, FQ⟩ := T.Q
  have GQ := ok_qs (P := P) (w := w) (mg := mg) (base := base) FQ T.toTabC Ck.nL
  have bQ := FQ.binds (ps := ["self"]) fun _ _ _ _ _ _ us hl => match us, hl with | [_], _ => rfl
  obtain ⟨fdK, FK⟩ := Ck.CK
  have GK := ok_ckKX Ck EK FK
  have bK := FK.binds (ps := ["names", "known"]) fun _ _ _ _ _ _ us hl => match us, hl with | [_, _], _ => rfl
  refine F.okX scTo2 (fun vs H Q E h => by obtain ⟨a, ns, tbl, v, i, e, _⟩ := h; rw [e]; rfl) fun cdv A outer s H vs Q E hr hsp => ?_
  obtain ⟨a, ns, tbl, v, i, rfl, tab, hB, hf⟩ := hsp
  have nd := scTo2.nd
  refine ⟨_, pss_cons (ps_set (i := 2) nd rfl (Or.inl rfl) (pe_meth0 (pv 0) T.cl T.mQ GQ (hr.mono (by decide)) bQ .nil pass0))
    (pss_cons (ps_expr (pe_callS GK hr rfl Ck.gCK FK.kp bK (fun σ => passAt (takes_of rfl rfl rfl rfl) σ) (pa_cons (pv 2) (pa_cons (pv 1) pa_nil)))) pss_never), ?_⟩
  obtain ⟨dx, qa, ra, ha, hqa, hra⟩ := id tab.ex
  refine ⟨_, rfl, a, dx, _, rfl, ha, rfl, a, ns, tbl, rfl, tab, fun H1 q1 n1 o1 k1 => ?_⟩
  exact ⟨_, rfl, _, rfl, q1, ns, v, some i, rfl, o1, hB.same k1, fun z => (by cases z), fun j e => by cases e; exact hf.same k1⟩
theorem ok_isClosedX (F : Fun K "is_closed" "is_closed" sIsClosed f fd) (T : TabM K C fQ fI fPl fPr) (Ck : Chk K mg aF aL aO aK aA aB) (EK : ErrF P w K mg base "BadKnown" CK "index") (FT : Fun K "told_by" "told_by" sToldBy fT fdT) (gT : mg "told_by" = some (.ref fT)) (nN : mg "len" = none) :
    FnOk P w K mg base (L2.CX P w) 5 f fd ["field", "known"] (spRefK K C CK) := by
  have GT := ok_toldByX FT T Ck EK
  have bT := FT.binds (ps := ["field", "known"]) fun _ _ _ _ _ _ us hl => match us, hl with | [_, _], _ => rfl
  refine F.okX scIc (fun vs H Q E h => by obtain ⟨a, ns, tbl, v, i, e, _⟩ := h; rw [e]; rfl) fun cdv A outer s H vs Q E hr hsp => ?_
  obtain ⟨a, ns, tbl, v, i, rfl, tab, hB, hf⟩ := hsp
  refine ⟨_, pss_one (ps_ret (pe_cmpR op_eq (pe_callB call_len rfl nN boot_len (pa_cons (pe_callS GT hr rfl gT FT.kp bT (fun σ => passAt (takes_of rfl rfl rfl rfl) σ) (pa_cons (pv 0) (pa_cons (pv 1) pa_nil))) pa_nil)) pe_never rfl)), ?_⟩
  exact ⟨_, rfl, _, rfl, a, ns, tbl, v, i, rfl, tab, hB, hf⟩
theorem ok_needlessX (F : Fun K "needless" "needless" sNeedless f fd) (T : TabM K C fQ fI fPl fPr) (Ck : Chk K mg aF aL aO aK aA aB) (EK : ErrF P w K mg base "BadKnown" CK "index") (EQ : ErrF P w K mg base "NoQuestion" CQ "name") : FnOk P w K mg base (L2.CX P w) 5 f fd ["field", "known", "asked"] (spRefB K C CK CQ) := by
  obtain ⟨fdQ, FQ⟩ := T.Q
  have GQ := ok_qs (P := P) (w := w) (mg := mg) (base := base) FQ T.toTabC Ck.nL
  have bQ := FQ.binds (ps := ["self"]) fun _ _ _ _ _ _ us hl => match us, hl with | [_], _ => rfl
  obtain ⟨fdB, FB⟩ := Ck.CB
  have GB := ok_ckBX Ck EK EQ FB
  have bB := FB.binds (ps := ["names", "known", "asked"]) fun _ _ _ _ _ _ us hl => match us, hl with | [_, _, _], _ => rfl
  refine F.okX scNe (fun vs H Q E h => by obtain ⟨a, ns, tbl, v, x, r, e, _⟩ := h; rw [e]; rfl) fun cdv A outer s H vs Q E hr hsp => ?_
  obtain ⟨a, ns, tbl, v, x, r, rfl, tab, hB, hf⟩ := hsp
  refine ⟨_, pss_cons (ps_expr (pe_callS GB hr rfl Ck.gCB FB.kp bB (fun σ => passAt (takes_of rfl rfl rfl rfl) σ) (pa_cons (pe_meth0 (pv 0) T.cl T.mQ GQ (hr.mono (by decide)) bQ .nil pass0) (pa_cons (pv 1) (pa_cons (pv 2) pa_nil))))) pss_never, ?_⟩
  obtain ⟨dx, qa, ra, ha, hqa, hra⟩ := id tab.ex
  refine ⟨_, rfl, a, dx, _, rfl, ha, rfl, a, ns, tbl, rfl, tab, fun H1 q1 n1 o1 k1 => ?_⟩
  refine ⟨_, rfl, _, rfl, q1, ns, v, x, r, rfl, o1, hB.same k1, ?_⟩
  rcases hf with ⟨i, e, hf⟩ | ⟨e, hb, hf⟩
  · exact .inl ⟨i, e, hf.same k1⟩
  · exact .inr ⟨e, .inr ⟨hb.same k1, hf.same k1⟩⟩
theorem ok_thinnedX (F : Fun K "thinned" "thinned" sThinned f fd) (T : TabM K C fQ fI fPl fPr) (Ck : Chk K mg aF aL aO aK aA aB) (EK : ErrF P w K mg base "BadKnown" CK "index") (EQ : ErrF P w K mg base "NoQuestion" CQ "name") : FnOk P w K mg base (L2.CX P w) 5 f fd ["field", "known", "asked"] (spRefB K C CK CQ) := by
  obtain ⟨fdQ, FQ⟩ := T.Q
  have GQ := ok_qs (P := P) (w := w) (mg := mg) (base := base) FQ T.toTabC Ck.nL
  have bQ := FQ.binds (ps := ["self"]) fun _ _ _ _ _ _ us hl => match us, hl with | [_], _ => rfl
  obtain ⟨fdB, FB⟩ := Ck.CB
  have GB := ok_ckBX Ck EK EQ FB
  have bB := FB.binds (ps := ["names", "known", "asked"]) fun _ _ _ _ _ _ us hl => match us, hl with | [_, _, _], _ => rfl
  refine F.okX scTh (fun vs H Q E h => by obtain ⟨a, ns, tbl, v, x, r, e, _⟩ := h; rw [e]; rfl) fun cdv A outer s H vs Q E hr hsp => ?_
  obtain ⟨a, ns, tbl, v, x, r, rfl, tab, hB, hf⟩ := hsp
  refine ⟨_, pss_cons (ps_expr (pe_callS GB hr rfl Ck.gCB FB.kp bB (fun σ => passAt (takes_of rfl rfl rfl rfl) σ) (pa_cons (pe_meth0 (pv 0) T.cl T.mQ GQ (hr.mono (by decide)) bQ .nil pass0) (pa_cons (pv 1) (pa_cons (pv 2) pa_nil))))) pss_never, ?_⟩
  obtain ⟨dx, qa, ra, ha, hqa, hra⟩ := id tab.ex
  refine ⟨_, rfl, a, dx, _, rfl, ha, rfl, a, ns, tbl, rfl, tab, fun H1 q1 n1 o1 k1 => ?_⟩
  refine ⟨_, rfl, _, rfl, q1, ns, v, x, r, rfl, o1, hB.same k1, ?_⟩
  rcases hf with ⟨i, e, hf⟩ | ⟨e, hb, hf⟩
  · exact .inl ⟨i, e, hf.same k1⟩
  · exact .inr ⟨e, .inr ⟨hb.same k1, hf.same k1⟩⟩
theorem ok_askedX (F : Fun K "asked_files" "asked_files" sAskedF f fd) (T : TabM K C fQ fI fPl fPr) (Ck : Chk K mg aF aL aO aK aA aB) (EK : ErrF P w K mg base "BadKnown" CK "index") (EQ : ErrF P w K mg base "NoQuestion" CQ "name") : FnOk P w K mg base (L2.CX P w) 4 f fd ["field", "asked", "of"] (spRefF K C CK CQ) := by
  obtain ⟨fdQ, FQ⟩ := T.Q
  have GQ := ok_qs (P := P) (w := w) (mg := mg) (base := base) FQ T.toTabC Ck.nL
  have bQ := FQ.binds (ps := ["self"]) fun _ _ _ _ _ _ us hl => match us, hl with | [_], _ => rfl
  obtain ⟨fdK, FK⟩ := Ck.CK
  have GK := ok_ckKX Ck EK FK
  have bK := FK.binds (ps := ["names", "known"]) fun _ _ _ _ _ _ us hl => match us, hl with | [_, _], _ => rfl
  obtain ⟨fdA, FA⟩ := Ck.CA
  have GA := ok_ckAX Ck EQ FA
  have bA := FA.binds (ps := ["names", "asked"]) fun _ _ _ _ _ _ us hl => match us, hl with | [_, _], _ => rfl
  refine F.okX scAs (fun vs H Q E h => by obtain ⟨a, ns, tbl, x, v, e, _⟩ := h; rw [e]; rfl) fun cdv A outer s H vs Q E hr hsp => ?_
  obtain ⟨a, ns, tbl, x, v, rfl, tab, hf⟩ := hsp
  have nd := scAs.nd
  refine ⟨_, pss_cons (ps_set (i := 3) nd rfl (Or.inl rfl) (pe_meth0 (pv 0) T.cl T.mQ GQ (hr.mono (by decide)) bQ .nil pass0))
    (pss_cons (ps_expr (pe_callS GA hr rfl Ck.gCA FA.kp bA (fun σ => passAt (takes_of rfl rfl rfl rfl) σ) (pa_cons (pv 3) (pa_cons (pv 1) pa_nil))))
    (pss_cons (ps_if (pt_cmp (pc_isN (pv 2))) pss_never pss_nil)
    (pss_cons (ps_expr (pe_callS GK hr rfl Ck.gCK FK.kp bK (fun σ => passAt (takes_of rfl rfl rfl rfl) σ) (pa_cons (pv 3) (pa_cons (pv 2) pa_nil)))) pss_never))), ?_⟩
  obtain ⟨dx, qa, ra, ha, hqa, hra⟩ := id tab.ex
  refine ⟨_, rfl, a, dx, _, rfl, ha, rfl, a, ns, tbl, rfl, tab, fun H1 q1 n1 o1 k1 => ?_⟩
  rcases hf with ⟨hb, hf⟩ | ⟨y, i, rfl, yin, nn, hB, hf⟩
  · exact ⟨_, rfl, _, rfl, q1, ns, x, rfl, SqL.of o1, .inr ⟨hb.same k1, hf.same k1⟩⟩
  · refine ⟨_, rfl, _, rfl, q1, ns, _, rfl, SqL.of o1, .inl ⟨y, rfl, yin, ?_⟩⟩
    refine ⟨_, rfl, _, rfl, ?_⟩
    rw [decide_eq_false nn]
    refine iteF ⟨_, rfl, _, rfl, q1, ns, v, some i, rfl, o1, hB.same k1, fun z => (by cases z), fun j e => by cases e; exact hf.same k1⟩
/-- a def that begins: names = asked_files(field, asked, of) -/
theorem ok_filesX {x : Str} {st : Stmt} {N : List Str} {rest : List Stmt} {p0 p1 p2 p3 p4 p5 p6 : Pos} (F : FunD K x x (defArgs st) (defBody st) (defScope st) [.non] [] f fd) (S : FnScope N ["field", "asked", "of"] (defScope st)) (h0 : N[0]? = some ("field" : Str)) (h1 : N[1]? = some ("asked" : Str)) (h2 : N[2]? = some ("of" : Str)) (h3 : N[3]? = some ("names" : Str))
    (hb : defBody st = .Assign [.Name "names" p0] (.Call (.Name "asked_files" p1) [.Name "field" p2, .Name "asked" p3, .Name "of" p4] [] p5) p6 :: rest) (hg : (defScope st).names.lookup ("asked_files" : Str) = some NameKind.globalImplicit)
    (hv0 : Vis (defScope st) "field") (hv1 : Vis (defScope st) "asked") (hv2 : Vis (defScope st) "of") (hv3 : (defScope st).names.lookup ("names" : Str) = some NameKind.local ∨ (defScope st).names.lookup ("names" : Str) = some NameKind.cell)
    (T : TabM K C fQ fI fPl fPr) (Ck : Chk K mg aF aL aO aK aA aB) (EK : ErrF P w K mg base "BadKnown" CK "index") (EQ : ErrF P w K mg base "NoQuestion" CQ "name") (FA : Fun K "asked_files" "asked_files" sAskedF fA fdA) (gA : mg "asked_files" = some (.ref fA)) :
    FnOk P w K mg base (L2.CX P w) 5 f fd ["field", "asked", "of"] (spRefF K C CK CQ) := by
  have GA := ok_askedX FA T Ck EK EQ
  have bA := FA.binds (ps := ["field", "asked", "of"]) fun _ _ _ _ _ _ us hl => match us, hl with | [_, _, _], _ => rfl
  refine F.ok S (fun vs H Q E h => by obtain ⟨a, ns, tbl, x, v, e, _⟩ := h; rw [e]; rfl) fun cdv A outer s H vs Q E hr hsp => ?_
  obtain ⟨a, ns, tbl, x, v, rfl, tab, hf⟩ := hsp
  rw [hb]
  refine ⟨_, pss_cons (ps_set (te := tCallS (spRefF K C CK CQ) (WE fun cls d _ H' => E cls d H') (tCons (tVar 0) (tCons (tVar 1) (tCons (tVar 2) tNil)))) (i := 3) S.nd h3 hv3 (pe_callS GA hr hg gA FA.kp bA (fun σ => passAt (takes_of rfl rfl rfl rfl) σ)
    (pa_cons (pe_var h0 hv0 (by decide) (by decide)) (pa_cons (pe_var h1 hv1 (by decide) (by decide)) (pa_cons (pe_var h2 hv2 (by decide) (by decide)) pa_nil))))) pss_never, ?_⟩
  have st0 : (start N [V.ref a, x, v])[0]? = some (some (.ref a)) ∧ (start N [V.ref a, x, v])[1]? = some (some x) ∧ (start N [V.ref a, x, v])[2]? = some (some v) := by
    match N, h0, h1, h2, h3 with
    | _ :: _ :: _ :: _ :: _, _, _, _, _ => exact ⟨rfl, rfl, rfl⟩
  exact ⟨_, st0.1, _, st0.2.1, _, st0.2.2, a, ns, tbl, x, v, rfl, tab, hf⟩
abbrev FunF (K : PySem.W.Frag) (x : Str) (st : Stmt) (f : Addr) (fd : FuncData) : Prop := FunD K x x (defArgs st) (defBody st) (defScope st) [.non] [] f fd
theorem ok_leastX (F : FunF K "least_files" sLeastF f fd) (T : TabM K C fQ fI fPl fPr) (Ck : Chk K mg aF aL aO aK aA aB) (EK : ErrF P w K mg base "BadKnown" CK "index") (EQ : ErrF P w K mg base "NoQuestion" CQ "name") (FA : Fun K "asked_files" "asked_files" sAskedF fA fdA) (gA : mg "asked_files" = some (.ref fA)) :
    FnOk P w K mg base (L2.CX P w) 5 f fd ["field", "asked", "of"] (spRefF K C CK CQ) := ok_filesX F scLf rfl rfl rfl rfl rfl rfl (by first | exact .inl rfl | exact .inr (.inl rfl)) (by first | exact .inl rfl | exact .inr (.inl rfl)) (by first | exact .inl rfl | exact .inr (.inl rfl)) (by first | exact .inl rfl | exact .inr rfl) T Ck EK EQ FA gA
theorem ok_secretsX (F : FunF K "secrets" sSecrets f fd) (T : TabM K C fQ fI fPl fPr) (Ck : Chk K mg aF aL aO aK aA aB) (EK : ErrF P w K mg base "BadKnown" CK "index") (EQ : ErrF P w K mg base "NoQuestion" CQ "name") (FA : Fun K "asked_files" "asked_files" sAskedF fA fdA) (gA : mg "asked_files" = some (.ref fA)) :
    FnOk P w K mg base (L2.CX P w) 5 f fd ["field", "asked", "of"] (spRefF K C CK CQ) := ok_filesX F scSe rfl rfl rfl rfl rfl rfl (by first | exact .inl rfl | exact .inr (.inl rfl)) (by first | exact .inl rfl | exact .inr (.inl rfl)) (by first | exact .inl rfl | exact .inr (.inl rfl)) (by first | exact .inl rfl | exact .inr rfl) T Ck EK EQ FA gA
theorem ok_neededX (F : FunF K "needed" sNeeded f fd) (T : TabM K C fQ fI fPl fPr) (Ck : Chk K mg aF aL aO aK aA aB) (EK : ErrF P w K mg base "BadKnown" CK "index") (EQ : ErrF P w K mg base "NoQuestion" CQ "name") (FA : Fun K "asked_files" "asked_files" sAskedF fA fdA) (gA : mg "asked_files" = some (.ref fA)) :
    FnOk P w K mg base (L2.CX P w) 5 f fd ["field", "asked", "of"] (spRefF K C CK CQ) := ok_filesX F scNd rfl rfl rfl rfl rfl rfl (by first | exact .inl rfl | exact .inr (.inl rfl)) (by first | exact .inl rfl | exact .inr (.inl rfl)) (by first | exact .inl rfl | exact .inr (.inl rfl)) (by first | exact .inl rfl | exact .inr rfl) T Ck EK EQ FA gA
theorem ok_idleX (F : FunF K "idle" sIdle f fd) (T : TabM K C fQ fI fPl fPr) (Ck : Chk K mg aF aL aO aK aA aB) (EK : ErrF P w K mg base "BadKnown" CK "index") (EQ : ErrF P w K mg base "NoQuestion" CQ "name") (FA : Fun K "asked_files" "asked_files" sAskedF fA fdA) (gA : mg "asked_files" = some (.ref fA)) :
    FnOk P w K mg base (L2.CX P w) 5 f fd ["field", "asked", "of"] (spRefF K C CK CQ) := ok_filesX F scId rfl rfl rfl rfl rfl rfl (by first | exact .inl rfl | exact .inr (.inl rfl)) (by first | exact .inl rfl | exact .inr (.inl rfl)) (by first | exact .inl rfl | exact .inr (.inl rfl)) (by first | exact .inl rfl | exact .inr rfl) T Ck EK EQ FA gA
end
end L2.TB
/-! comprehensions whose turns make things anew (from k00's texts) -/
namespace L2.TB
open PySem PySem.Spec PyProof.Rows
theorem lc_made {J : It} {g : TG} {tt : TT} {te : TE} {vs : List Nat} {σ : St} {H1 : Hp} {Q : Addr → Hp → Prop} (n : Nat) (short : n < 1000000) (go : ∀ i H, Same H1 H → i < n → J.go i H) (stop : ∀ H, Same H1 H → J.stop n H) (R : Nat → V → Hp → Prop)
    (stays : ∀ i y H H' D l, R i y H → H D = some (.lst l) → (∀ b o, b ≠ D → H b = some o → H' b = some o) → R i y H')
    (turn : ∀ (i : Nat) (x : V) (H H' : Hp) (C : V → Hp → Prop) (N : Hp → Prop), i < n → Same H1 H → J.yld i H x H' → (∀ y H4, R i y H4 → Same H H4 → C y H4) → g x (wipe σ vs) H' fun σ2 H2 => wipe σ2 vs = wipe σ vs ∧ tt σ2 H2 fun b H3 => if b = true then te σ2 H3 C else N H3)
    (fin : ∀ H D ys, H1 D = none → H D = some (.lst ys) → ys.length = n → (∀ j y, ys[j]? = some y → R j y H) → Same H1 H → Q D H) : LcW J g tt te vs σ H1 Q := by
  intro D nD
  refine ⟨fun i m H => m = n - i ∧ i ≤ n ∧ ∃ ys : List V, H D = some (.lst ys) ∧ ys.length = i ∧ (∀ j y, ys[j]? = some y → R j y H) ∧ Same H1 H, ⟨_, rfl, Nat.zero_le _, [], upd_same, rfl, (fun j y e => by cases e), same_new nD⟩, ?_⟩
  rintro i m H ⟨rfl, le, ys, oD, ly, ry, s1⟩
  by_cases lt : i < n
  · refine .inr ⟨go i H s1 lt, fun H' => ∃ ys : List V, H' D = some (.lst ys) ∧ ys.length = i + 1 ∧ (∀ j y, ys[j]? = some y → R j y H') ∧ Same H1 H', fun H' h => ⟨n - (i + 1), by omega, rfl, lt, h⟩, fun x H' yl => ?_⟩
    refine turn i x H H' _ _ lt s1 yl fun y H4 ry4 s4 => ⟨_, s4 _ _ oD, by rw [sizeLine_eq]; omega, ys ++ [y], upd_same, by simp [ly], fun j z ej => ?_, ?_⟩
    · have keep : ∀ b o, b ≠ D → H4 b = some o → upd H4 D (.lst (ys ++ [y])) b = some o := fun b o nb e => by rw [upd_ne nb]; exact e
      rcases Nat.lt_or_ge j ys.length with h | h
      · rw [List.getElem?_append_left h] at ej
        exact stays _ _ _ _ D _ (stays j z H H4 D _ (ry j z ej) oD fun b o _ e => s4 _ _ e) (s4 _ _ oD) keep
      · rw [List.getElem?_append_right h] at ej
        have e0 : j - ys.length = 0 := by
          have := (List.getElem?_eq_some_iff.mp ej).1
          simp at this
          omega
        rw [e0] at ej
        obtain rfl : y = z := Option.some.inj ej
        have ji : j = i := by omega
        subst ji
        exact stays _ _ _ _ D _ ry4 (s4 _ _ oD) keep
    · intro b u e
      rw [upd_ne (ne_of_none e nD)]
      exact s4 _ _ (s1 _ _ e)
  · obtain rfl : i = n := by omega
    exact .inl ⟨stop H s1, fin H D ys nD oD ly ry s1⟩
theorem addrs_of {H : Hp} {P : Nat → Addr → Prop} : ∀ (ys : List V) (k : Nat), (∀ j y, ys[j]? = some y → ∃ t, y = V.ref t ∧ P (k + j) t) → ∃ as : List Addr, ys = as.map V.ref ∧ ∀ j a, as[j]? = some a → P (k + j) a
  | [], k, _ => ⟨[], rfl, fun j a e => by cases e⟩
  | y :: ys, k, h => by
    obtain ⟨t, rfl, pt⟩ := h 0 y rfl
    obtain ⟨as, e, pa⟩ := addrs_of (H := H) (P := P) ys (k + 1) fun j z ez => by
      have := h (j + 1) z ez
      rw [show k + 1 + j = k + (j + 1) from by omega]
      exact this
    refine ⟨t :: as, by rw [e]; rfl, fun j a ea => ?_⟩
    cases j with
    | zero => obtain rfl : t = a := Option.some.inj ea; exact pt
    | succ j =>
      have := pa j a ea
      rw [show k + (j + 1) = k + 1 + j from by omega]
      exact this
theorem paired_of {α β : Type} {R : α → β → Prop} : ∀ (xs : List α) (ys : List β), xs.length = ys.length → (∀ (i : Nat) (x : α) (y : β), xs[i]? = some x → ys[i]? = some y → R x y) → Paired R xs ys
  | [], [], _, _ => .nil
  | x :: xs, y :: ys, l, h => .cons (h 0 x y rfl rfl) (paired_of xs ys (by simpa using l) fun i a b ea eb => h (i + 1) a b ea eb)
theorem pairs_lc {J : It} {g : TG} {tt : TT} {te : TE} {vs : List Nat} {σ : St} {H1 : Hp} {Q : Addr → Hp → Prop} (kvs : List (Key × V)) (short : kvs.length < 1000) (go : ∀ i H, Same H1 H → i < kvs.length → J.go i H) (stop : ∀ H, Same H1 H → J.stop kvs.length H)
    (turn : ∀ (i : Nat) (v : V) (k : Key) (x : V) (H H' : Hp) (C : V → Hp → Prop) (N : Hp → Prop), kvs[i]? = some (k, x) → Same H1 H → J.yld i H v H' → (∀ t H4, H4 t = some (.tup [kV k, x]) → Same H H4 → C (.ref t) H4) → g v (wipe σ vs) H' fun σ2 H2 => wipe σ2 vs = wipe σ vs ∧ tt σ2 H2 fun b H3 => if b = true then te σ2 H3 C else N H3)
    (fin : ∀ H D ps, H1 D = none → H D = some (.lst ((ps : List Addr).map V.ref)) → Paired (fun p (kv : Key × V) => H p = some (.tup [kV kv.1, kv.2])) ps kvs → Same H1 H → Q D H) : LcW J g tt te vs σ H1 Q := by
  refine lc_made kvs.length (by omega) go stop (fun i y H' => ∃ t k x, y = V.ref t ∧ kvs[i]? = some (k, x) ∧ H' t = some (.tup [kV k, x])) ?_ ?_ ?_
  · rintro i y H2 H3 D l ⟨t, k, x, rfl, ex, ot⟩ oD keep
    exact ⟨t, k, x, rfl, ex, keep _ _ (ne_of ot oD (by intro z; cases z)) ot⟩
  · intro i v H2 H3 C N lt s2 yl yes
    exact turn i v kvs[i].1 kvs[i].2 H2 H3 C N (List.getElem?_eq_getElem lt) s2 yl fun t H4 ot s4 => yes _ _ ⟨t, _, _, rfl, List.getElem?_eq_getElem lt, ot⟩ s4
  · intro H2 D ys nD oD ly ry s2
    obtain ⟨ps, rfl, pa⟩ := addrs_of (H := H2) (P := fun i t => ∃ k x, kvs[i]? = some (k, x) ∧ H2 t = some (.tup [kV k, x])) ys 0 fun j y e => by
      obtain ⟨t, k, x, e1, e2, e3⟩ := ry j y e
      exact ⟨t, e1, k, x, by simpa using e2, e3⟩
    refine fin H2 D ps nD oD (paired_of ps _ (by rw [← ly, List.length_map]) fun i t kv et ekv => ?_) s2
    obtain ⟨k, x, e2, e3⟩ := pa i t et
    rw [Nat.zero_add, ekv] at e2
    cases e2
    exact e3
end L2.TB
/-! things frozen: lists and tuples to tuples, dicts anew -/
namespace L2.TB
open PySem PySem.Spec PyProof.Rows
/-- what a frozen thing is -/
inductive Tr
  | one (v : V)
  | tu (l : List Tr)
  | di (kvs : List (Key × V))
inductive FzAt (H : Hp) : Tr → V → Prop
  | one {v : V} (h : Atom v) : FzAt H (.one v) v
  | tu {a : Addr} {us : List V} {ts : List Tr} (h : H a = some (.tup us)) (len : us.length = ts.length) (sh : us.length < 1000) (al : ∀ (i : Nat) (u : V) (t : Tr), us[i]? = some u → ts[i]? = some t → FzAt H t u) : FzAt H (.tu ts) (.ref a)
  | di {a : Addr} {kvs : List (Key × V)} (h : H a = some (.dK kvs)) (at_ : ∀ kv ∈ kvs, Atom kv.2) : FzAt H (.di kvs) (.ref a)
/-- a thing, to this depth, and what it is frozen -/
inductive Thg (H : Hp) : Nat → V → Tr → Prop
  | one {v : V} (h : Atom v) : Thg H 0 v (.one v)
  | seq {n : Nat} {a : Addr} {xs : List V} {ts : List Tr} (h : H a = some (.lst xs) ∨ H a = some (.tup xs)) (len : xs.length = ts.length) (sh : xs.length < 1000) (al : ∀ (i : Nat) (x : V) (t : Tr), xs[i]? = some x → ts[i]? = some t → Thg H n x t) : Thg H (n + 1) (.ref a) (.tu ts)
  | dic {n : Nat} {a : Addr} {kvs : List (Key × V)} (h : H a = some (.dK kvs)) (sh : kvs.length < 1000) (nd : (kvs.map (·.1)).Nodup) (at_ : ∀ kv ∈ kvs, Atom kv.2) : Thg H (n + 1) (.ref a) (.di kvs)
  | up {n : Nat} {v : V} {t : Tr} (h : Thg H n v t) : Thg H (n + 1) v t
theorem FzAt.but {H H' : Hp} {t : Tr} {v : V} (h : FzAt H t v) : ∀ {D : Addr} {l : List V}, H D = some (.lst l) → (∀ b o, b ≠ D → H b = some o → H' b = some o) → FzAt H' t v := by
  induction h with
  | one h => exact fun _ _ => .one h
  | tu h len sh _ ih => exact fun oD s => .tu (s _ _ (fun z => by rw [z, oD] at h; cases h) h) len sh fun i u t e1 e2 => ih i u t e1 e2 oD s
  | di h at_ => exact fun oD s => .di (s _ _ (fun z => by rw [z, oD] at h; cases h) h) at_
theorem FzAt.same {H H' : Hp} {t : Tr} {v : V} (h : FzAt H t v) (s : Same H H') : FzAt H' t v := by
  induction h with
  | one h => exact .one h
  | tu h len sh _ ih => exact .tu (s _ _ h) len sh ih
  | di h at_ => exact .di (s _ _ h) at_
theorem Thg.same {H H' : Hp} {n : Nat} {t : Tr} {v : V} (h : Thg H n v t) (s : Same H H') : Thg H' n v t := by
  induction h with
  | one h => exact .one h
  | seq h len sh _ ih => exact .seq (h.imp (s _ _) (s _ _)) len sh ih
  | dic h sh nd at_ => exact .dic (s _ _ h) sh nd at_
  | up _ ih => exact .up ih
theorem atom_ty {v : V} (a : Atom v) (K : PySem.W.Frag) (H : Hp) : ∃ t : String, TyX K H v (.type t) ∧ kitB t "dict" = some false ∧ kitB t "list" = some false ∧ kitB t "tuple" = some false := by
  cases a with
  | str x => exact ⟨_, .base (.str x), by decide +kernel, by decide +kernel, by decide +kernel⟩
  | int i => exact ⟨_, .base (.int i), by decide +kernel, by decide +kernel, by decide +kernel⟩
  | bl b => exact ⟨_, .base (.bl b), by decide +kernel, by decide +kernel, by decide +kernel⟩
  | non => exact ⟨_, .base .non, by decide +kernel, by decide +kernel, by decide +kernel⟩
/-- a comprehension over a list or a tuple whose turns make things -/
theorem lc_madeSeq {K : PySem.W.Frag} {a : Addr} {xs : List V} {o : HO} {g : TG} {tt : TT} {te : TE} {vs : List Nat} {σ : St} {H1 : Hp} {Q : Addr → Hp → Prop} (ko : o = .lst xs ∨ o = .tup xs) (ho : H1 a = some o) (short : xs.length < 1000000) (R : Nat → V → Hp → Prop)
    (stays : ∀ i y H H' D l, R i y H → H D = some (.lst l) → (∀ b o, b ≠ D → H b = some o → H' b = some o) → R i y H')
    (turn : ∀ (i : Nat) (x : V) (H : Hp) (C : V → Hp → Prop) (N : Hp → Prop), xs[i]? = some x → Same H1 H → (∀ y H4, R i y H4 → Same H H4 → C y H4) → g x (wipe σ vs) H fun σ2 H2 => wipe σ2 vs = wipe σ vs ∧ tt σ2 H2 fun b H3 => if b = true then te σ2 H3 C else N H3)
    (fin : ∀ H D ys, H1 D = none → H D = some (.lst ys) → ys.length = xs.length → (∀ j y, ys[j]? = some y → R j y H) → Same H1 H → Q D H) :
    ∃ b ys, V.ref a = V.ref b ∧ ((SqL K H1 b ys ∧ LcW (Itl K b) g tt te vs σ H1 Q) ∨ (SqT K H1 b ys ∧ LcW (Itt K b) g tt te vs σ H1 Q)) := by
  rcases ko with rfl | rfl
  · refine ⟨a, xs, rfl, .inl ⟨SqL.of ho, lc_made xs.length short (fun i H' k lt => ⟨_, _, SqL.of (k _ _ ho), List.getElem?_eq_getElem lt⟩) (fun H' k => ⟨_, SqL.of (k _ _ ho), Nat.le_refl _⟩) R stays ?_ fin⟩⟩
    rintro i x H2 H3 Cn Nn lt s2 ⟨rfl, ex⟩ yes
    exact turn i x _ Cn Nn (ex _ (SqL.of (s2 _ _ ho))) s2 yes
  · refine ⟨a, xs, rfl, .inr ⟨SqT.of ho, lc_made xs.length short (fun i H' k lt => ⟨_, _, SqT.of (k _ _ ho), List.getElem?_eq_getElem lt⟩) (fun H' k => ⟨_, SqT.of (k _ _ ho), Nat.le_refl _⟩) R stays ?_ fin⟩⟩
    rintro i x H2 H3 Cn Nn lt s2 ⟨rfl, ex⟩ yes
    exact turn i x _ Cn Nn (ex _ (SqT.of (s2 _ _ ho))) s2 yes
theorem valV_at : ∀ {kvs : List (Key × V)} {i : Nat} {k : Key} {x : V}, (kvs.map (·.1)).Nodup → kvs[i]? = some (k, x) → valV kvs k = some x
  | [], i, k, x, _, e => by cases e
  | p :: r, 0, k, x, _, e => by
    obtain rfl : p = (k, x) := by simpa using e
    exact valV_pos rfl
  | p :: r, i + 1, k, x, nd, e => by
    have e2 : r[i]? = some (k, x) := by simpa using e
    rw [List.map_cons, List.nodup_cons] at nd
    have ne : ¬ p.1 = k := fun z => nd.1 (by rw [z]; exact List.mem_map.mpr ⟨_, List.mem_of_getElem? e2, rfl⟩)
    rw [valV_neg ne]
    exact valV_at nd.2 e2
def spFrozen (n : Nat) : Sp := fun vs H Q _ => ∃ (v : V) (t : Tr), vs = [v] ∧ Thg H n v t ∧ ∀ H' u, Same H H' → FzAt H' t u → Q u H'
abbrev NFz : List Str := ["thing", "key", "part"]
theorem scFz : FnScope NFz ["thing"] (defScope sFrozen) := ⟨rfl, rfl, rfl, by decide +kernel, rfl, by decide +kernel, by decide +kernel⟩
/-- two promises of one def -/
theorem fnOr {P : Program} {w : World} {K : PySem.W.Frag} {mg : Str → Option Value} {base : Heap} {CX : CXT} {k : Nat} {f : Addr} {fd : FuncData} {ps : List Str} {sp sp1 sp2 : Sp} (F1 : FnOk P w K mg base CX k f fd ps sp1) (F2 : FnOk P w K mg base CX k f fd ps sp2)
    (h : ∀ vs H Q E, sp vs H Q E → sp1 vs H Q E ∨ sp2 vs H Q E) : FnOk P w K mg base CX k f fd ps sp :=
  ⟨fun vs H Q E q => (h _ _ _ _ q).elim (F1.len vs H Q E) (F2.len vs H Q E), fun A outer s H args us vs Q E hr he hb hv hs => (h _ _ _ _ hs).elim (F1.run A outer s H args us vs Q E hr he hb hv) (F2.run A outer s H args us vs Q E hr he hb hv)⟩
/-- the names that it reads -/
structure FzM (mg : Str → Option Value) : Prop where
  nI : mg "isinstance" = none
  nL : mg "list" = none
  nT : mg "tuple" = none
  nD : mg "dict" = none
section
variable {P : Program} {w : World} {K : PySem.W.Frag} {mg : Str → Option Value} {base : Heap} {f : Addr} {fd : FuncData}
theorem ok_frozenA (F : Fun K "_law_frozen" "_law_frozen" sFrozen f fd) (M : FzM mg) : FnOk P w K mg base CX0 1 f fd ["thing"] (fun vs H Q _ => ∃ v : V, vs = [v] ∧ Atom v ∧ ∀ H', Same H H' → Q v H') := by
  refine F.ok scFz (fun vs H Q E h => by obtain ⟨x, e, _⟩ := h; rw [e]; rfl) fun cdv A outer s H vs Q E hr hsp => ?_
  obtain ⟨v, rfl, hA, hq⟩ := hsp
  refine ⟨_, pss_cons (ps_if (pt_val (pe_callB (r := rIsi K) call_isi rfl M.nI boot_isi (pa_cons (pv 0) (pa_cons (pe_bltn (v := .ty "dict") rfl M.nD boot_dict' rfl) pa_nil)))) pss_never pss_nil)
    (pss_one (ps_ret (pe_ifExp (pt_val (pe_callB (r := rIsiT K) call_isiT rfl M.nI boot_isi (pa_cons (pv 0) (pa_cons (pe_tup (pa_cons (pe_bltn (v := .ty "list") rfl M.nL boot_list' rfl) (pa_cons (pe_bltn (v := .ty "tuple") rfl M.nT boot_tuple' rfl) pa_nil))) pa_nil))))
      (⟨fun _ _ _ _ _ _ h => h.elim⟩ : PE _ _ (fun _ _ _ => False)) (pv 0)))), ?_⟩
  obtain ⟨t, ty, h1, h2, h3⟩ := atom_ty hA K H
  refine ⟨_, rfl, _, _, _, _, false, rfl, .ty _, ty, kit_ty h1, _, rfl, iteF ?_⟩
  refine ⟨_, rfl, (by show 2 ≤ sizeLine; decide), fun t nt => ?_⟩
  have st := same_new (o := .tup [.ty "list", .ty "tuple"]) nt
  exact ⟨_, _, _, _, _, false, rfl, upd_same, .cons (.ty _) (.cons (.ty _) .nil), ty_same ty st, kit_two_n h2 h3, _, rfl, iteF ⟨_, rfl, hq _ st⟩⟩
theorem ok_frozen (F : Fun K "_law_frozen" "_law_frozen" sFrozen f fd) (gF : mg "_law_frozen" = some (.ref f)) (M : FzM mg) : ∀ n : Nat, FnOk P w K mg base CX0 (n + 1) f fd ["thing"] (spFrozen n)
  | 0 => by
    have G := ok_frozenA (P := P) (w := w) (base := base) F M
    refine ⟨fun vs H Q E h => by obtain ⟨v, t, e, _⟩ := h; rw [e]; rfl, fun A outer s H args us vs Q E hr he hb hv hs => G.run A outer s H args us vs Q E hr he hb hv ?_⟩
    obtain ⟨v, t, rfl, th, hq⟩ := hs
    cases th with
    | one h => exact ⟨v, rfl, h, fun H' s => hq _ _ s (.one h)⟩
  | n + 1 => by
    have G := ok_frozen F gF M n
    have b := F.binds (ps := ["thing"]) fun _ _ _ _ _ _ us hl => match us, hl with | [_], _ => rfl
    have nd := scFz.nd
    have GU : FnOk P w K mg base CX0 (n + 2) f fd ["thing"] (spFrozen n) := G.mono (Nat.le_succ _)
    have GS : FnOk P w K mg base CX0 (n + 2) f fd ["thing"] (fun vs H Q _ => ∃ (a : Addr) (xs : List V) (ts : List Tr), vs = [.ref a] ∧ (H a = some (.lst xs) ∨ H a = some (.tup xs)) ∧ xs.length = ts.length ∧ xs.length < 1000 ∧ (∀ (i : Nat) (x : V) (t : Tr), xs[i]? = some x → ts[i]? = some t → Thg H n x t) ∧ ∀ H' u, Same H H' → FzAt H' (.tu ts) u → Q u H') := by
      refine F.ok scFz (fun vs H Q E h => by obtain ⟨a, xs, ts, e, _⟩ := h; rw [e]; rfl) fun cdv A outer s H vs Q E hr hsp => ?_
      obtain ⟨a, xs, ts, rfl, ho, len, sh, al, hq⟩ := hsp
      refine ⟨_, pss_cons (ps_if (pt_val (pe_callB (r := rIsi K) call_isi rfl M.nI boot_isi (pa_cons (pv 0) (pa_cons (pe_bltn (v := .ty "dict") rfl M.nD boot_dict' rfl) pa_nil)))) pss_never pss_nil)
        (pss_one (ps_ret (pe_ifExp (pt_val (pe_callB (r := rIsiT K) call_isiT rfl M.nI boot_isi (pa_cons (pv 0) (pa_cons (pe_tup (pa_cons (pe_bltn (v := .ty "list") rfl M.nL boot_list' rfl) (pa_cons (pe_bltn (v := .ty "tuple") rfl M.nT boot_tuple' rfl) pa_nil))) pa_nil))))
          (pe_callTy (r := rTupOf K) call_tuple_of rfl M.nT boot_tuple' (pa_cons (pe_lc (own := [("part", 2)]) (tt := tYes) (g := gName 2) rfl nd (pi_seq (pv 0)) (blkOk_by (N := NFz) (sc := defScope sFrozen) (by decide +kernel)) (fun _ _ _ _ _ => pg_name (i := 2) nd rfl (Or.inl rfl)) (fun _ _ _ _ _ => pts_nil)
            (fun _ _ _ _ _ => pe_call G hr rfl gF F.kp b .nil pass0 (pa_cons (pv 2) pa_nil))) pa_nil)) (pv 0)))), ?_⟩
      obtain ⟨t, ty, h1, h2⟩ : ∃ t : String, TyX K H (.ref a) (.type t) ∧ kitB t "dict" = some false ∧ PySem.W.kitAny K (.type t) [.type "list", .type "tuple"] = some true := by
        rcases ho with e | e
        · exact ⟨_, .base (.lst e), by decide +kernel, kit_two_l⟩
        · exact ⟨_, .base (.tup e), by decide +kernel, kit_two_t⟩
      refine ⟨_, rfl, _, _, _, _, false, rfl, .ty _, ty, kit_ty h1, _, rfl, iteF ?_⟩
      refine ⟨_, rfl, (by show 2 ≤ sizeLine; decide), fun t nt => ?_⟩
      have st := same_new (o := .tup [.ty "list", .ty "tuple"]) nt
      refine ⟨_, _, _, _, _, true, rfl, upd_same, .cons (.ty _) (.cons (.ty _) .nil), ty_same ty st, h2, _, rfl, iteT ?_⟩
      generalize upd H t (.tup [.ty "list", .ty "tuple"]) = H1 at st
      obtain ⟨o, oa, ko⟩ : ∃ o, H1 a = some o ∧ (o = .lst xs ∨ o = .tup xs) := by
        rcases ho with e | e
        · exact ⟨_, st _ _ e, .inl rfl⟩
        · exact ⟨_, st _ _ e, .inr rfl⟩
      refine ⟨_, rfl, lc_madeSeq ko oa (by omega) (fun i y H' => ∃ t, ts[i]? = some t ∧ FzAt H' t y) ?_ ?_ ?_⟩
      · rintro i y H2 H3 D l ⟨t, et, ft⟩ oD keep
        exact ⟨t, et, ft.but oD keep⟩
      · rintro i x H2 Cn Nn ex s2 yes
        have lt : i < ts.length := by rw [← len]; exact (List.getElem?_eq_some_iff.mp ex).1
        have et : ts[i]? = some ts[i] := List.getElem?_eq_getElem lt
        refine ⟨rfl, ?_⟩
        exact ⟨_, rfl, x, _, rfl, (al i x _ ex et).same (st.trans s2), fun H4 u s4 fu => yes _ _ ⟨_, et, fu⟩ s4⟩
      · intro H2 D ys nD oD ly ry s2
        refine ⟨D, ys, rfl, .inl ⟨SqL.of oD, fun l nl => ?_⟩⟩
        have kl := same_new (o := .tup ys) nl
        refine hq _ _ ((st.trans s2).trans kl) (.tu upd_same (by rw [ly, len]) (by rw [ly]; exact sh) fun i u t eu et => ?_)
        obtain ⟨t2, e2, f2⟩ := ry i u eu
        rw [et] at e2
        cases e2
        exact f2.same kl
    have GD : FnOk P w K mg base CX0 (n + 2) f fd ["thing"] (fun vs H Q _ => ∃ (a : Addr) (kvs : List (Key × V)), vs = [.ref a] ∧ H a = some (.dK kvs) ∧ kvs.length < 1000 ∧ (kvs.map (·.1)).Nodup ∧ (∀ kv ∈ kvs, Atom kv.2) ∧ ∀ H' u, Same H H' → FzAt H' (.di kvs) u → Q u H') := by
      refine F.ok scFz (fun vs H Q E h => by obtain ⟨a, kvs, e, _⟩ := h; rw [e]; rfl) fun cdv A outer s H vs Q E hr hsp => ?_
      obtain ⟨a, kvs, rfl, ho, sh, nk, hA, hq⟩ := hsp
      have hu := hu_of hr
      have GA := ok_frozenA (P := P) (w := w) (base := base) F M
      refine ⟨_, pss_cons (ps_if (pt_val (pe_callB (r := rIsi K) call_isi rfl M.nI boot_isi (pa_cons (pv 0) (pa_cons (pe_bltn (v := .ty "dict") rfl M.nD boot_dict' rfl) pa_nil))))
        (pss_one (ps_ret (pe_callTy (call_dictP rfl) rfl M.nD boot_dict' (pa_cons (pe_lock (pe_lc (own := [("key", 1)]) (tt := tYes) (g := gName 1) rfl nd (pi_keys (pv 0)) (blkOk_by (N := NFz) (sc := defScope sFrozen) (by decide +kernel)) (fun _ _ _ _ _ => pg_name (i := 1) nd rfl (Or.inl rfl)) (fun _ _ _ _ _ => pts_nil)
          (fun _ _ _ _ _ => pe_tup (pa_cons (pv 1) (pa_cons (pe_call GA (hr.mono (by omega)) rfl gF F.kp b .nil pass0 (pa_cons (pe_dget hu (pv 0) (pv 1) (fun _ _ => rfl)) pa_nil)) pa_nil))))) pa_nil)))) pss_nil)
        pss_never, ?_⟩
      refine ⟨_, rfl, _, _, _, _, true, rfl, .ty _, .base (.dK ho), kit_ty (by decide +kernel), _, rfl, iteT ?_⟩
      refine ⟨a, _, ho, trivial, fun od => ⟨_, rfl, a, od, rfl, .inl ⟨_, upd_same, ?_⟩⟩⟩
      have oL : upd H a (.frz od (.dK kvs)) a = some (.frz od (.dK kvs)) := upd_same
      refine pairs_lc kvs sh (fun i H' s lt => ⟨s _ _ oL, lt⟩) (fun H' s => ⟨s _ _ oL, Nat.le_refl _⟩) ?_ ?_
      · rintro i v k x H2 H3 Cn Nn ek s2 ⟨rfl, k2, x2, ek2, rfl⟩ yes
        rw [ek] at ek2
        cases ek2
        refine ⟨rfl, ?_⟩
        have ga : Atom x := hA _ (List.mem_of_getElem? ek)
        have dg : DGet H3 a (kV k) (valV kvs k) := .inl ⟨kvs, k, .inr ⟨od, s2 _ _ oL⟩, rfl, rfl⟩
        rw [valV_at nk ek] at dg
        refine ⟨_, rfl, _, rfl, _, rfl, a, _, rfl, dg, x, rfl, ga, fun H4 s4 => ⟨(by show 2 ≤ sizeLine; decide), fun t nt => ?_⟩⟩
        exact yes t _ upd_same (s4.trans (same_new nt))
      · intro H2 D ps nD oD pr s2
        obtain ⟨b1, s02⟩ := lock_off ho s2
        have ne1 : ∀ {b : Addr} {o : HO}, (∀ u, o ≠ .frz od u) → H2 b = some o → upd H2 a (.dK kvs) b = some o := fun no e => by
          rw [upd_ne (fun z => by rw [z, b1] at e; exact no _ (Option.some.inj e).symm)]; exact e
        refine ⟨b1, D, ps, kvs, rfl, SqL.of (ne1 (fun u z => by cases z) oD), Paired.mapP pr fun p kv e => SqT.of (ne1 (fun u z => by cases z) e), fun p np => ?_⟩
        rw [merge_nd nk]
        exact hq _ _ (s02.trans (same_new np)) (.di upd_same hA)
    refine ⟨fun vs H Q E h => by obtain ⟨v, t, e, _⟩ := h; rw [e]; rfl, fun A outer s H args us vs Q E hr he hb hv hs => ?_⟩
    obtain ⟨v, t, rfl, th, hq⟩ := hs
    cases th with
    | seq h len sh al => exact GS.run A outer s H args us _ Q E hr he hb hv ⟨_, _, _, rfl, h, len, sh, al, hq⟩
    | dic h sh nk at_ => exact GD.run A outer s H args us _ Q E hr he hb hv ⟨_, _, rfl, h, sh, nk, at_, hq⟩
    | up h => exact GU.run A outer s H args us _ Q E hr he hb hv ⟨_, _, rfl, h, hq⟩
end
end L2.TB
/-! the law's look whether two things are the same: texts, numbers, None, dicts, lists and tuples of these -/
namespace L2.TB
open PySem PySem.Spec PyProof.Rows
abbrev NSm : List Str := ["found", "due", "x", "y"]
theorem scSame : FnScope NSm ["found", "due"] (defScope sSame) := ⟨rfl, rfl, rfl, by decide +kernel, rfl, by decide +kernel, by decide +kernel⟩
/-- the names that it reads -/
structure Sm (mg : Str → Option Value) : Prop where
  nI : mg "isinstance" = none
  nL : mg "list" = none
  nT : mg "tuple" = none
  nInt : mg "int" = none
  nB : mg "bool" = none
  nN : mg "len" = none
  nA : mg "all" = none
  nZ : mg "zip" = none
/-- alike, to this depth -/
inductive AlkF (H : Hp) : Nat → V → V → Prop
  | one {v : V} (h : Atom v) : AlkF H 0 v v
  | dic {a b : Addr} {kvs : List (Key × V)} (ha : H a = some (.dK kvs)) (hb : H b = some (.dK kvs)) (nd : (kvs.map (·.1)).Nodup) (at_ : ∀ kv ∈ kvs, Atom kv.2) : AlkF H 0 (.ref a) (.ref b)
  | lst {n : Nat} {a b : Addr} {xs ys : List V} (ha : H a = some (.lst xs)) (hb : H b = some (.lst ys)) (l : xs.length = ys.length) (sh : xs.length < 1000) (al : ∀ (i : Nat) (x y : V), xs[i]? = some x → ys[i]? = some y → AlkF H n x y) : AlkF H (n + 1) (.ref a) (.ref b)
  | tup {n : Nat} {a b : Addr} {xs ys : List V} (ha : H a = some (.tup xs)) (hb : H b = some (.tup ys)) (l : xs.length = ys.length) (sh : xs.length < 1000) (al : ∀ (i : Nat) (x y : V), xs[i]? = some x → ys[i]? = some y → AlkF H n x y) : AlkF H (n + 1) (.ref a) (.ref b)
  | up {n : Nat} {x y : V} (h : AlkF H n x y) : AlkF H (n + 1) x y
theorem AlkF.same {H H' : Hp} (s : Same H H') {n : Nat} {x y : V} (h : AlkF H n x y) : AlkF H' n x y := by
  induction h with
  | one h => exact .one h
  | dic ha hb nd at_ => exact .dic (s _ _ ha) (s _ _ hb) nd at_
  | lst ha hb l sh _ ih => exact .lst (s _ _ ha) (s _ _ hb) l sh ih
  | tup ha hb l sh _ ih => exact .tup (s _ _ ha) (s _ _ hb) l sh ih
  | up _ ih => exact .up ih
theorem kit_three_n {K : PySem.W.Frag} {t : String} (h0 : kitB t "int" = some false) (h1 : kitB t "list" = some false) (h2 : kitB t "tuple" = some false) : PySem.W.kitAny K (.type t) [.type "int", .type "list", .type "tuple"] = some false :=
  kitAny_cons (b := false) (kit_ty h0) (fun _ => kit_two_n h1 h2) (fun z => by cases z)
theorem flat_atom {v : V} (a : Atom v) : flatB v = true := by cases a <;> rfl
def spSameF (n : Nat) : Sp := fun vs H Q _ => ∃ x y : V, vs = [x, y] ∧ AlkF H n x y ∧ ∀ H', Same H H' → Q (.bl true) H'
section
variable {P : Program} {w : World} {K : PySem.W.Frag} {mg : Str → Option Value} {base : Heap} {f : Addr} {fd : FuncData}
theorem same_num (F : Fun K "_law_same" "_law_same" sSame f fd) (M : Sm mg) : FnOk P w K mg base CX0 1 f fd ["found", "due"] (fun vs H Q _ => ∃ v : V, vs = [v, v] ∧ ((∃ i, v = .int i) ∨ ∃ b, v = .bl b) ∧ ∀ H', Same H H' → Q (.bl true) H') := by
  refine F.ok scSame (fun vs H Q E h => by obtain ⟨x, e, _⟩ := h; rw [e]; rfl) fun cdv A outer s H vs Q E hr hsp => ?_
  obtain ⟨v, rfl, hv, hq⟩ := hsp
  refine ⟨_, pss_cons (ps_if (pt_val (pe_callB (r := rIsiT K) call_isiT rfl M.nI boot_isi (pa_cons (pv 1) (pa_cons (pe_tup (pa_cons (pe_bltn (v := .ty "list") rfl M.nL boot_list' rfl) (pa_cons (pe_bltn (v := .ty "tuple") rfl M.nT boot_tuple' rfl) pa_nil))) pa_nil)))) pss_never pss_nil)
    (pss_cons (ps_if (pt_val (pe_callB (r := rIsi K) call_isi rfl M.nI boot_isi (pa_cons (pv 1) (pa_cons (pe_bltn (v := .ty "int") rfl M.nInt boot_int' rfl) pa_nil)))) (pss_one (ps_ret (pe_and (pe_callB (r := rIsi K) call_isi rfl M.nI boot_isi (pa_cons (pv 0) (pa_cons (pe_bltn (v := .ty "int") rfl M.nInt boot_int' rfl) pa_nil))) (pe_and (pe_cmpR op_eq (pe_callB (r := rIsi K) call_isi rfl M.nI boot_isi (pa_cons (pv 0) (pa_cons (pe_bltn (v := .ty "bool") rfl M.nB boot_bool' rfl) pa_nil))) (pe_callB (r := rIsi K) call_isi rfl M.nI boot_isi (pa_cons (pv 1) (pa_cons (pe_bltn (v := .ty "bool") rfl M.nB boot_bool' rfl) pa_nil))) (nomark _)) (pe_one (pe_cmpR op_eq (pv 0) (pv 1) (nomark _))))))) pss_nil) pss_never), ?_⟩
  refine ⟨_, rfl, (by show 2 ≤ sizeLine; decide), fun t nt => ?_⟩
  have st := same_new (o := .tup [.ty "list", .ty "tuple"]) nt
  rcases hv with ⟨k, rfl⟩ | ⟨k, rfl⟩
  · refine ⟨_, _, _, _, _, false, rfl, upd_same, .cons (.ty _) (.cons (.ty _) .nil), .base (.int k), kit_two_n (by decide +kernel) (by decide +kernel), _, rfl, iteF ?_⟩
    refine ⟨_, rfl, _, _, _, _, true, rfl, .ty _, .base (.int k), kit_ty (by decide +kernel), _, rfl, iteT ?_⟩
    refine ⟨_, rfl, _, _, _, _, true, rfl, .ty _, .base (.int k), kit_ty (by decide +kernel), _, rfl, iteT ?_⟩
    refine ⟨_, rfl, _, _, _, _, false, rfl, .ty _, .base (.int k), kit_ty (by decide +kernel), _, rfl, _, _, _, _, false, rfl, .ty _, .base (.int k), kit_ty (by decide +kernel), rfl, _, rfl, iteT ⟨_, rfl, _, rfl, rfl, ?_⟩⟩
    rw [decide_eq_true rfl]
    exact hq _ st
  · refine ⟨_, _, _, _, _, false, rfl, upd_same, .cons (.ty _) (.cons (.ty _) .nil), .base (.bl k), kit_two_n (by decide +kernel) (by decide +kernel), _, rfl, iteF ?_⟩
    refine ⟨_, rfl, _, _, _, _, true, rfl, .ty _, .base (.bl k), kit_ty (by decide +kernel), _, rfl, iteT ?_⟩
    refine ⟨_, rfl, _, _, _, _, true, rfl, .ty _, .base (.bl k), kit_ty (by decide +kernel), _, rfl, iteT ?_⟩
    refine ⟨_, rfl, _, _, _, _, true, rfl, .ty _, .base (.bl k), kit_ty (by decide +kernel), _, rfl, _, _, _, _, true, rfl, .ty _, .base (.bl k), kit_ty (by decide +kernel), rfl, _, rfl, iteT ⟨_, rfl, _, rfl, rfl, ?_⟩⟩
    rw [decide_eq_true rfl]
    exact hq _ st
/-- what is neither a number nor a list: by == -/
theorem same_oth (F : Fun K "_law_same" "_law_same" sSame f fd) (M : Sm mg) {x y : V} {r : R2} {t : String} (h0 : kitB t "int" = some false) (h1 : kitB t "list" = some false) (h2 : kitB t "tuple" = some false) (op : ∀ X : Cx, X.A.units + 1 < cLine → OpR X (compareOp .Eq) r) :
    FnOk P w K mg base CX0 1 f fd ["found", "due"] (fun vs H Q _ => vs = [x, y] ∧ TyX K H x (.type t) ∧ TyX K H y (.type t) ∧ ∀ H', Same H H' → r x y H' Q) := by
  refine F.ok scSame (fun vs H Q E h => by obtain ⟨e, _⟩ := h; rw [e]; rfl) fun cdv A outer s H vs Q E hr hsp => ?_
  obtain ⟨rfl, tx, ty, hq⟩ := hsp
  refine ⟨_, pss_cons (ps_if (pt_val (pe_callB (r := rIsiT K) call_isiT rfl M.nI boot_isi (pa_cons (pv 1) (pa_cons (pe_tup (pa_cons (pe_bltn (v := .ty "list") rfl M.nL boot_list' rfl) (pa_cons (pe_bltn (v := .ty "tuple") rfl M.nT boot_tuple' rfl) pa_nil))) pa_nil)))) pss_never pss_nil)
    (pss_cons (ps_if (pt_val (pe_callB (r := rIsi K) call_isi rfl M.nI boot_isi (pa_cons (pv 1) (pa_cons (pe_bltn (v := .ty "int") rfl M.nInt boot_int' rfl) pa_nil)))) pss_never pss_nil)
    (pss_one (ps_ret (pe_and (pe_cmpR op_isBl (pe_callB (r := rIsiT K) call_isiT rfl M.nI boot_isi (pa_cons (pv 0) (pa_cons (pe_tup (pa_cons (pe_bltn (v := .ty "int") rfl M.nInt boot_int' rfl) (pa_cons (pe_bltn (v := .ty "list") rfl M.nL boot_list' rfl) (pa_cons (pe_bltn (v := .ty "tuple") rfl M.nT boot_tuple' rfl) pa_nil)))) pa_nil))) pe_bl (nomark _)) (pe_one (pe_cmpR (op _ (hu_of hr)) (pv 0) (pv 1) (nomark _))))))), ?_⟩
  refine ⟨_, rfl, (by show 2 ≤ sizeLine; decide), fun t nt => ?_⟩
  have st := same_new (o := .tup [.ty "list", .ty "tuple"]) nt
  refine ⟨_, _, _, _, _, false, rfl, upd_same, .cons (.ty _) (.cons (.ty _) .nil), ty_same ty st, kit_two_n h1 h2, _, rfl, iteF ?_⟩
  refine ⟨_, rfl, _, _, _, _, false, rfl, .ty _, ty_same ty st, kit_ty h0, _, rfl, iteF ?_⟩
  refine ⟨_, rfl, (by show 3 ≤ sizeLine; decide), fun t2 nt2 => ?_⟩
  have st2 := same_new (o := .tup [.ty "int", .ty "list", .ty "tuple"]) nt2
  refine ⟨_, _, _, _, _, false, rfl, upd_same, .cons (.ty _) (.cons (.ty _) (.cons (.ty _) .nil)), ty_same tx (st.trans st2), kit_three_n h0 h1 h2, _, _, rfl, rfl, _, rfl, iteT ⟨_, rfl, _, rfl, ?_⟩⟩
  exact hq _ (st.trans st2)
theorem same_lst (F : Fun K "_law_same" "_law_same" sSame f fd) (gSm : mg "_law_same" = some (.ref f)) (M : Sm mg) {n : Nat} (G : FnOk P w K mg base CX0 (n + 1) f fd ["found", "due"] (spSameF n)) : FnOk P w K mg base CX0 (n + 2) f fd ["found", "due"] (fun vs H Q _ => ∃ (a b : Addr) (xs ys : List V), vs = [.ref a, .ref b] ∧ H a = some (.lst xs) ∧ H b = some (.lst ys) ∧ xs.length = ys.length ∧ xs.length < 1000 ∧
    (∀ (i : Nat) (x y : V), xs[i]? = some x → ys[i]? = some y → AlkF H n x y) ∧ ∀ H', Same H H' → Q (.bl true) H') := by
  have b := F.binds (ps := ["found", "due"]) fun _ _ _ _ _ _ us hl => match us, hl with | [_, _], _ => rfl
  refine F.ok scSame (fun vs H Q E h => by obtain ⟨a, b, xs, ys, e, _⟩ := h; rw [e]; rfl) fun cdv A outer s H vs Q E hr hsp => ?_
  obtain ⟨a, bb, xs, ys, rfl, ha, hb, len, short, al, hq⟩ := hsp
  have nd := scSame.nd
  refine ⟨_, pss_cons (ps_if (pt_val (pe_callB (r := rIsiT K) call_isiT rfl M.nI boot_isi (pa_cons (pv 1) (pa_cons (pe_tup (pa_cons (pe_bltn (v := .ty "list") rfl M.nL boot_list' rfl) (pa_cons (pe_bltn (v := .ty "tuple") rfl M.nT boot_tuple' rfl) pa_nil))) pa_nil))))
      (pss_cons (ps_if (PW.pt (pw_or (pt_cmpR op_ne (pe_callB (r := rIsi K) call_isi rfl M.nI boot_isi (pa_cons (pv 0) (pa_cons (pe_bltn (v := .ty "list") rfl M.nL boot_list' rfl) pa_nil))) (pe_callB (r := rIsi K) call_isi rfl M.nI boot_isi (pa_cons (pv 1) (pa_cons (pe_bltn (v := .ty "list") rfl M.nL boot_list' rfl) pa_nil))) (nomark _)) (pw_or1 (pt_cmpR op_ne (pe_callB (r := rIsi K) call_isi rfl M.nI boot_isi (pa_cons (pv 0) (pa_cons (pe_bltn (v := .ty "tuple") rfl M.nT boot_tuple' rfl) pa_nil))) (pe_callB (r := rIsi K) call_isi rfl M.nI boot_isi (pa_cons (pv 1) (pa_cons (pe_bltn (v := .ty "tuple") rfl M.nT boot_tuple' rfl) pa_nil))) (nomark _))))) pss_never pss_nil)
      (pss_one (ps_ret (pe_and (pe_cmpR op_eq (pe_callB call_len_seq rfl M.nN boot_len (pa_cons (pv 0) pa_nil)) (pe_callB call_len_seq rfl M.nN boot_len (pa_cons (pv 1) pa_nil)) (nomark _))
        (pe_one (pe_callB (cr_all rfl) rfl M.nA boot_all' (pa_cons (pe_lc (own := [("x", 2), ("y", 3)]) (tt := tYes) (g := gTup K 2 (gCons (gName 2) (gCons (gName 3) gNil))) rfl nd (RZ.pi_zipA rfl M.nZ (pa_cons (pv 0) (pa_cons (pv 1) pa_nil))) (blkOk_by (N := NSm) (sc := defScope sSame) (by decide +kernel))
          (fun _ _ _ _ _ => pg_tup rfl (pgs_cons (pg_name (i := 2) nd rfl (Or.inl rfl)) (pgs_cons (pg_name (i := 3) nd rfl (Or.inl rfl)) pgs_nil))) (fun _ _ _ _ _ => pts_nil)
          (fun _ _ _ _ _ => pe_call G hr rfl gSm F.kp b .nil pass0 (pa_cons (pv 2) (pa_cons (pv 3) pa_nil)))) pa_nil))))))) pss_nil) pss_never, ?_⟩
  refine ⟨_, rfl, (by show 2 ≤ sizeLine; decide), fun t nt => ?_⟩
  have st := same_new (o := .tup [.ty "list", .ty "tuple"]) nt
  refine ⟨_, _, _, _, _, true, rfl, upd_same, .cons (.ty _) (.cons (.ty _) .nil), .base (.lst (st _ _ hb)), kit_two_l, _, rfl, iteT ?_⟩
  generalize upd H t (.tup [.ty "list", .ty "tuple"]) = H1 at st
  have ha := st _ _ ha
  have hb := st _ _ hb
  refine ⟨_, rfl, _, _, _, _, true, rfl, .ty _, .base (.lst ha), kit_ty (by decide +kernel), _, rfl, _, _, _, _, true, rfl, .ty _, .base (.lst hb), kit_ty (by decide +kernel), rfl, _, rfl, iteF ?_⟩
  refine ⟨_, rfl, _, _, _, _, false, rfl, .ty _, .base (.lst ha), kit_ty (by decide +kernel), _, rfl, _, _, _, _, false, rfl, .ty _, .base (.lst hb), kit_ty (by decide +kernel), rfl, _, rfl, iteF ?_⟩
  refine ⟨_, rfl, a, _, rfl, .inl (SqL.of ha), _, rfl, bb, _, rfl, .inl (SqL.of hb), rfl, _, rfl, ?_⟩
  rw [dec_int2, decide_eq_true (by omega : ((xs.length : Nat) : Int) = (ys.length : Nat))]
  refine iteT ⟨_, rfl, _, rfl, a, bb, _, _, rfl, .inl ⟨SqL.of ha, SqL.of hb, ?_⟩⟩
  refine lc_gen (bools xs.length) (by rw [bools_len]; omega) (fun i H' s lt => ?_) (fun H' s => ?_) ?_ ?_
  · rw [bools_len] at lt
    exact ⟨_, _, _, _, SqL.of (s _ _ ha), SqL.of (s _ _ hb), List.getElem?_eq_getElem (by omega), List.getElem?_eq_getElem (by omega)⟩
  · exact ⟨_, _, SqL.of (s _ _ ha), SqL.of (s _ _ hb), .inl (by rw [bools_len]; exact Nat.le_refl _)⟩
  · rintro i v y H2 H3 Cn Nn ey s2 ⟨T, u1, u2, rfl, nT, rfl, e1, e2⟩ yes
    obtain ⟨rfl, lt⟩ := bools_at ey
    have e1 := e1 _ (SqL.of (s2 _ _ ha))
    have e2 := e2 _ (SqL.of (s2 _ _ hb))
    have sT := same_new (o := .tup [u1, u2]) nT
    refine ⟨T, _, rfl, SqT.of upd_same, rfl, _, _, rfl, _, _, rfl, rfl, rfl, ?_⟩
    exact ⟨_, rfl, _, rfl, u1, u2, rfl, (al i u1 u2 e1 e2).same ((st.trans s2).trans sT), fun H4 s4 => yes H4 (sT.trans s4)⟩
  · intro H2 D nD oD s2
    rw [bools_map] at oD
    refine ⟨D, _, rfl, SqL.of oD, ?_⟩
    rw [all_true]
    exact hq _ (st.trans s2)
theorem same_tup (F : Fun K "_law_same" "_law_same" sSame f fd) (gSm : mg "_law_same" = some (.ref f)) (M : Sm mg) {n : Nat} (G : FnOk P w K mg base CX0 (n + 1) f fd ["found", "due"] (spSameF n)) : FnOk P w K mg base CX0 (n + 2) f fd ["found", "due"] (fun vs H Q _ => ∃ (a b : Addr) (xs ys : List V), vs = [.ref a, .ref b] ∧ H a = some (.tup xs) ∧ H b = some (.tup ys) ∧ xs.length = ys.length ∧ xs.length < 1000 ∧
    (∀ (i : Nat) (x y : V), xs[i]? = some x → ys[i]? = some y → AlkF H n x y) ∧ ∀ H', Same H H' → Q (.bl true) H') := by
  have b := F.binds (ps := ["found", "due"]) fun _ _ _ _ _ _ us hl => match us, hl with | [_, _], _ => rfl
  refine F.ok scSame (fun vs H Q E h => by obtain ⟨a, b, xs, ys, e, _⟩ := h; rw [e]; rfl) fun cdv A outer s H vs Q E hr hsp => ?_
  obtain ⟨a, bb, xs, ys, rfl, ha, hb, len, short, al, hq⟩ := hsp
  have nd := scSame.nd
  refine ⟨_, pss_cons (ps_if (pt_val (pe_callB (r := rIsiT K) call_isiT rfl M.nI boot_isi (pa_cons (pv 1) (pa_cons (pe_tup (pa_cons (pe_bltn (v := .ty "list") rfl M.nL boot_list' rfl) (pa_cons (pe_bltn (v := .ty "tuple") rfl M.nT boot_tuple' rfl) pa_nil))) pa_nil))))
      (pss_cons (ps_if (PW.pt (pw_or (pt_cmpR op_ne (pe_callB (r := rIsi K) call_isi rfl M.nI boot_isi (pa_cons (pv 0) (pa_cons (pe_bltn (v := .ty "list") rfl M.nL boot_list' rfl) pa_nil))) (pe_callB (r := rIsi K) call_isi rfl M.nI boot_isi (pa_cons (pv 1) (pa_cons (pe_bltn (v := .ty "list") rfl M.nL boot_list' rfl) pa_nil))) (nomark _)) (pw_or1 (pt_cmpR op_ne (pe_callB (r := rIsi K) call_isi rfl M.nI boot_isi (pa_cons (pv 0) (pa_cons (pe_bltn (v := .ty "tuple") rfl M.nT boot_tuple' rfl) pa_nil))) (pe_callB (r := rIsi K) call_isi rfl M.nI boot_isi (pa_cons (pv 1) (pa_cons (pe_bltn (v := .ty "tuple") rfl M.nT boot_tuple' rfl) pa_nil))) (nomark _))))) pss_never pss_nil)
      (pss_one (ps_ret (pe_and (pe_cmpR op_eq (pe_callB call_len_seq rfl M.nN boot_len (pa_cons (pv 0) pa_nil)) (pe_callB call_len_seq rfl M.nN boot_len (pa_cons (pv 1) pa_nil)) (nomark _))
        (pe_one (pe_callB (cr_all rfl) rfl M.nA boot_all' (pa_cons (pe_lc (own := [("x", 2), ("y", 3)]) (tt := tYes) (g := gTup K 2 (gCons (gName 2) (gCons (gName 3) gNil))) rfl nd (RZ.pi_zipA rfl M.nZ (pa_cons (pv 0) (pa_cons (pv 1) pa_nil))) (blkOk_by (N := NSm) (sc := defScope sSame) (by decide +kernel))
          (fun _ _ _ _ _ => pg_tup rfl (pgs_cons (pg_name (i := 2) nd rfl (Or.inl rfl)) (pgs_cons (pg_name (i := 3) nd rfl (Or.inl rfl)) pgs_nil))) (fun _ _ _ _ _ => pts_nil)
          (fun _ _ _ _ _ => pe_call G hr rfl gSm F.kp b .nil pass0 (pa_cons (pv 2) (pa_cons (pv 3) pa_nil)))) pa_nil))))))) pss_nil) pss_never, ?_⟩
  refine ⟨_, rfl, (by show 2 ≤ sizeLine; decide), fun t nt => ?_⟩
  have st := same_new (o := .tup [.ty "list", .ty "tuple"]) nt
  refine ⟨_, _, _, _, _, true, rfl, upd_same, .cons (.ty _) (.cons (.ty _) .nil), .base (.tup (st _ _ hb)), kit_two_t, _, rfl, iteT ?_⟩
  generalize upd H t (.tup [.ty "list", .ty "tuple"]) = H1 at st
  have ha := st _ _ ha
  have hb := st _ _ hb
  refine ⟨_, rfl, _, _, _, _, false, rfl, .ty _, .base (.tup ha), kit_ty (by decide +kernel), _, rfl, _, _, _, _, false, rfl, .ty _, .base (.tup hb), kit_ty (by decide +kernel), rfl, _, rfl, iteF ?_⟩
  refine ⟨_, rfl, _, _, _, _, true, rfl, .ty _, .base (.tup ha), kit_ty (by decide +kernel), _, rfl, _, _, _, _, true, rfl, .ty _, .base (.tup hb), kit_ty (by decide +kernel), rfl, _, rfl, iteF ?_⟩
  refine ⟨_, rfl, a, _, rfl, .inr (SqT.of ha), _, rfl, bb, _, rfl, .inr (SqT.of hb), rfl, _, rfl, ?_⟩
  rw [dec_int2, decide_eq_true (by omega : ((xs.length : Nat) : Int) = (ys.length : Nat))]
  refine iteT ⟨_, rfl, _, rfl, a, bb, _, _, rfl, .inr ⟨SqT.of ha, SqT.of hb, ?_⟩⟩
  refine lc_gen (bools xs.length) (by rw [bools_len]; omega) (fun i H' s lt => ?_) (fun H' s => ?_) ?_ ?_
  · rw [bools_len] at lt
    exact ⟨_, _, _, _, SqT.of (s _ _ ha), SqT.of (s _ _ hb), List.getElem?_eq_getElem (by omega), List.getElem?_eq_getElem (by omega)⟩
  · exact ⟨_, _, SqT.of (s _ _ ha), SqT.of (s _ _ hb), .inl (by rw [bools_len]; exact Nat.le_refl _)⟩
  · rintro i v y H2 H3 Cn Nn ey s2 ⟨T, u1, u2, rfl, nT, rfl, e1, e2⟩ yes
    obtain ⟨rfl, lt⟩ := bools_at ey
    have e1 := e1 _ (SqT.of (s2 _ _ ha))
    have e2 := e2 _ (SqT.of (s2 _ _ hb))
    have sT := same_new (o := .tup [u1, u2]) nT
    refine ⟨T, _, rfl, SqT.of upd_same, rfl, _, _, rfl, _, _, rfl, rfl, rfl, ?_⟩
    exact ⟨_, rfl, _, rfl, u1, u2, rfl, (al i u1 u2 e1 e2).same ((st.trans s2).trans sT), fun H4 s4 => yes H4 (sT.trans s4)⟩
  · intro H2 D nD oD s2
    rw [bools_map] at oD
    refine ⟨D, _, rfl, SqL.of oD, ?_⟩
    rw [all_true]
    exact hq _ (st.trans s2)
theorem ok_sameF (F : Fun K "_law_same" "_law_same" sSame f fd) (gSm : mg "_law_same" = some (.ref f)) (M : Sm mg) : ∀ n : Nat, FnOk P w K mg base CX0 (n + 1) f fd ["found", "due"] (spSameF n)
  | 0 => by
    refine ⟨fun vs H Q E h => by obtain ⟨x, y, e, _⟩ := h; rw [e]; rfl, fun A outer s H args us vs Q E hr he hb hv hs => ?_⟩
    obtain ⟨x, y, rfl, al, hq⟩ := hs
    cases al with
    | one h =>
      cases h with
      | int i => exact (same_num F M).run A outer s H args us _ Q E hr he hb hv ⟨_, rfl, .inl ⟨i, rfl⟩, hq⟩
      | bl i => exact (same_num F M).run A outer s H args us _ Q E hr he hb hv ⟨_, rfl, .inr ⟨i, rfl⟩, hq⟩
      | str z => exact (same_oth F M (x := .str z) (y := .str z) (r := rEq) (t := "str") (by decide +kernel) (by decide +kernel) (by decide +kernel) fun X _ => op_eq).run A outer s H args us _ Q E hr he hb hv ⟨rfl, .base (.str z), .base (.str z), fun H' s => ⟨rfl, by rw [decide_eq_true rfl]; exact hq _ s⟩⟩
      | non => exact (same_oth F M (x := .non) (y := .non) (r := rEq) (t := "NoneType") (by decide +kernel) (by decide +kernel) (by decide +kernel) fun X _ => op_eq).run A outer s H args us _ Q E hr he hb hv ⟨rfl, .base .non, .base .non, fun H' s => ⟨rfl, by rw [decide_eq_true rfl]; exact hq _ s⟩⟩
    | @dic a b kvs ha hb' nd at_ =>
      have all : ∀ p ∈ kvs, valV kvs p.1 = some p.2 ∧ flatB p.2 = true := fun p hp => by
        obtain ⟨i, hi⟩ := List.mem_iff_getElem?.mp hp
        exact ⟨valV_at nd hi, flat_atom (at_ p hp)⟩
      exact (same_oth F M (x := .ref a) (y := .ref b) (r := rEqDA) (t := "dict") (by decide +kernel) (by decide +kernel) (by decide +kernel) fun X hu => op_eq_dictA (by omega)).run A outer s H args us _ Q E hr he hb hv
        ⟨rfl, .base (.dK ha), .base (.dK hb'), fun H' s => ⟨a, b, kvs, kvs, rfl, rfl, s _ _ ha, s _ _ hb', rfl, all, hq _ s⟩⟩
  | n + 1 => by
    have G := ok_sameF F gSm M n
    have GU : FnOk P w K mg base CX0 (n + 2) f fd ["found", "due"] (spSameF n) := G.mono (Nat.le_succ _)
    refine ⟨fun vs H Q E h => by obtain ⟨x, y, e, _⟩ := h; rw [e]; rfl, fun A outer s H args us vs Q E hr he hb hv hs => ?_⟩
    obtain ⟨x, y, rfl, al, hq⟩ := hs
    cases al with
    | lst ha hb' l sh al => exact (same_lst F gSm M G).run A outer s H args us _ Q E hr he hb hv ⟨_, _, _, _, rfl, ha, hb', l, sh, al, hq⟩
    | tup ha hb' l sh al => exact (same_tup F gSm M G).run A outer s H args us _ Q E hr he hb hv ⟨_, _, _, _, rfl, ha, hb', l, sh, al, hq⟩
    | up h => exact GU.run A outer s H args us _ Q E hr he hb hv ⟨_, _, rfl, h, hq⟩
end
end L2.TB
/-! is_name of anything; check_hands, both ways -/
namespace L2.TB
open PySem PySem.Spec PyProof.Rows
/-- what flies out of a locked walk finds the thing unlocked -/
theorem takes_unlock {X : Cx} {W : WX} (tk : Takes X W) {d : Addr} {u : HO} (hn : ∀ o' u', X.H_0 d ≠ some (.frz o' u')) : Takes X (fun cls dd σ H' => ∃ od, H' d = some (.frz od u) ∧ W cls dd σ (upd H' d u)) :=
  fun z s' ⟨a, B, sI, pins, σ, H, cls, dd, e, I, nb, up, sky, na, os, ag, od, hd, w⟩ => tk z s' ⟨a, B, sI, pins, σ, _, cls, dd, e, I.unlock hd hn, nb, up, sky, by rw [upd_ne (fun q => by rw [q, hd] at na; cases na)]; exact na, os, ag, w⟩
theorem Flies.unlock {P : Program} {w : World} {K : PySem.W.Frag} {mg : Str → Option Value} {base : Heap} {x fld : Str} {C d : Addr} {u : HO} {od : Obj} {v : V} {H H3 : Hp} {Q : XK} (E : ErrF P w K mg base x C fld) (h : Flies C fld v H Q) (hd : H d = some u) (s : Same (upd H d (.frz od u)) H3) :
    [v].length ≤ 1000 ∧ ∀ a, H3 a = none → spErr K fld (.ref a :: ([v] ++ [])) (upd H3 a (exo a C none))
      (fun v H2 => v = .non ∧ ∃ (d' : Addr) (fs : List (Str × V)), H2 a = some (exo a C (some d')) ∧ H2 d' = some (exd d' fs) ∧ H3 d' = none ∧ (∃ od, (upd (del H2 a) d' (.xd fs)) d = some (.frz od u) ∧ Q (.ref C) (some d') (upd (upd (del H2 a) d' (.xd fs)) d u))) (fun _ _ _ => False) := by
  obtain ⟨fI, fd, y, EC, _⟩ := E.ex
  refine mk_rs (Q := fun cls dd H' => ∃ od, H' d = some (.frz od u) ∧ Q cls dd (upd H' d u)) EC fun dd nd => ?_
  have b1 := s _ _ (upd_same (H := H) (a := d) (o := .frz od u))
  have ne : d ≠ dd := fun z => by rw [z, nd] at b1; cases b1
  have s2 : Same (upd H d (.frz od u)) (upd H3 dd (.xd [(fld, v)])) := s.trans (same_new nd)
  obtain ⟨b2, s3⟩ := lock_off hd s2
  refine ⟨od, b2, h dd _ s3 ?_ ?_⟩
  · cases q : H dd with
    | none => rfl
    | some o =>
      have z := s _ _ (show upd H d (.frz od u) dd = some o by rw [upd_ne (Ne.symm ne)]; exact q)
      rw [nd] at z; cases z
  · rw [upd_ne (Ne.symm ne), upd_same]
def nmB (x : Str) : Bool := decide (1 ≤ x.cps.toList.length) && (decide (x.cps.toList.length ≤ 40) && x.cps.toList.all fun c => decide (c ∈ signsL))
theorem nmB_ok {x : Str} (h : NmOk x) : nmB x = true := by
  obtain ⟨h1, h2, h3⟩ := h
  unfold nmB
  rw [decide_eq_true h1, decide_eq_true h2, List.all_eq_true.mpr fun c hc => decide_eq_true (h3 c hc)]
  rfl
def spIsNameG (K : PySem.W.Frag) : Sp := fun vs H Q _ => ∃ v : V, vs = [v] ∧ ((∃ x, v = .str x ∧ x.cps.toList.length < 1000 ∧ ∀ H', Same H H' → Q (.bl (nmB x)) H') ∨ (NoStr K H v ∧ Q (.bl false) H))
section
variable {P : Program} {w : World} {K : PySem.W.Frag} {mg : Str → Option Value} {base : Heap} {f : Addr} {fd : FuncData}
theorem ok_isNameG (F : Fun K "is_name" "is_name" sIsName f fd) (gI : mg "isinstance" = none) (gS : mg "str" = none) (gN : mg "len" = none) (gA : mg "all" = none) (gL : ∃ t, mg "LONGEST" = some (.int 40 t)) (gSg : ∃ t, mg "SIGNS" = some (.str (Str.ofString "abcdefghijklmnopqrstuvwxyz0123456789.") t)) :
    FnOk P w K mg base CX0 1 f fd ["thing"] (spIsNameG K) := by
  obtain ⟨tL, gL⟩ := gL
  obtain ⟨tS, gSg⟩ := gSg
  refine F.ok scIsName (fun vs H Q E h => by obtain ⟨x, e, _⟩ := h; rw [e]; rfl) fun cdv A outer s H vs Q E hr hsp => ?_
  obtain ⟨v, rfl, hq⟩ := hsp
  have nd := scIsName.nd
  refine ⟨_, pss_cons (ps_if (PW.pt (pw_or (pt_not (pt_val (pe_callB (r := rIsi K) call_isi rfl gI boot_isi (pa_cons (pv 0) (pa_cons (pe_bltn (v := .ty "str") rfl gS boot_str' rfl) pa_nil)))))
      (pw_or1 (pt_not (pt_chain op_le op_le pe_int (pe_callB call_len_str rfl gN boot_len (pa_cons (pv 0) pa_nil)) (pe_glob (v := .int 40) rfl gL ⟨_, rfl⟩)))))) (pss_one (ps_ret pe_bl)) pss_nil)
    (pss_one (ps_ret (pe_callB (cr_all rfl) rfl gA boot_all' (pa_cons (pe_lc (own := [("sign", 1)]) (tt := tYes) rfl nd (pi_str (pv 0)) (blkOk_by (N := NIn) (sc := defScope sIsName) (by decide +kernel)) (fun _ _ _ _ _ => pg_name (i := 1) nd rfl (Or.inl rfl)) (fun _ _ _ _ _ => pts_nil)
      (fun _ _ _ _ _ => pe_cmpR op_in_sign (pv 1) (pe_glob (v := .str (Str.ofString "abcdefghijklmnopqrstuvwxyz0123456789.")) rfl gSg ⟨_, rfl⟩) rfl)) pa_nil)))), ?_⟩
  rcases hq with ⟨x, rfl, short, hq⟩ | ⟨⟨t, h1, h2⟩, hq⟩
  · have lz : x.length = x.cps.toList.length := (Array.length_toList (xs := x.cps)).symm
    refine ⟨_, rfl, _, _, _, _, true, rfl, .ty _, .base (.str x), kit_ty (by decide +kernel), _, rfl, iteF ?_⟩
    refine ⟨_, rfl, x, rfl, (by rw [sizeLine_eq]; omega), _, _, rfl, rfl, _, rfl, ?_⟩
    by_cases l1 : 1 ≤ x.cps.toList.length
    · rw [decide_eq_true (by omega : (1 : Int) ≤ (x.length : Nat))]
      refine iteT ⟨_, _, rfl, rfl, _, rfl, ?_⟩
      by_cases l2 : x.cps.toList.length ≤ 40
      · rw [decide_eq_true (by omega : ((x.length : Nat) : Int) ≤ 40)]
        refine iteF ?_
        refine ⟨_, rfl, x, rfl, lc_gen ((x.cps.toList.map fun c => decide (c ∈ signsL)).map V.bl) (by rw [List.length_map, List.length_map]; omega) (fun i H' _ lt => ?_) (fun H' _ => ?_) ?_ ?_⟩
        · rw [List.length_map, List.length_map, Array.length_toList] at lt; exact lt
        · rw [List.length_map, List.length_map, Array.length_toList]; exact Nat.le_refl _
        · rintro i v y H2 H3 Cn Nn ey s2 ⟨rfl, c, ec, rfl⟩ yes
          rw [List.getElem?_map, List.getElem?_map, Array.getElem?_toList, ec] at ey
          obtain rfl := (Option.some.inj ey)
          refine ⟨rfl, ?_⟩
          exact ⟨_, rfl, c, _, rfl, rfl, yes H3 (Same.refl _)⟩
        · intro H2 D nD oD s2
          refine ⟨D, _, rfl, SqL.of oD, ?_⟩
          have e : nmB x = (x.cps.toList.map fun c => decide (c ∈ signsL)).all id := by
            unfold nmB
            rw [decide_eq_true l1, decide_eq_true l2, List.all_map]
            rfl
          rw [← e]
          exact hq H2 s2
      · rw [decide_eq_false (by omega : ¬ ((x.length : Nat) : Int) ≤ 40)]
        have z := hq _ (Same.refl _)
        have e : nmB x = false := by unfold nmB; rw [decide_eq_false l2, Bool.false_and, Bool.and_false]
        rw [e] at z
        exact iteT z
    · rw [decide_eq_false (by omega : ¬ (1 : Int) ≤ (x.length : Nat))]
      have z := hq _ (Same.refl _)
      have e : nmB x = false := by unfold nmB; rw [decide_eq_false l1, Bool.false_and]
      rw [e] at z
      exact iteF ⟨_, rfl, iteT z⟩
  · exact ⟨_, rfl, _, _, _, _, false, rfl, .ty _, h1, kit_ty h2, _, rfl, iteT (iteT hq)⟩
end
end L2.TB
/-! check_hands, both ways -/
namespace L2.TB
open PySem PySem.Spec PyProof.Rows
theorem ty_lock {K : PySem.W.Frag} {H : Hp} {d : Addr} {od : Obj} {kvs : List (Key × V)} {v : V} {t : String} (h : TyX K H v (.type t)) (hd : H d = some (.dK kvs)) : TyX K (upd H d (.frz od (.dK kvs))) v (.type t) := by
  have ne : ∀ {b : Addr} {o : HO}, H b = some o → o ≠ .dK kvs → upd H d (.frz od (.dK kvs)) b = some o := fun e no => by
    rw [upd_ne (fun z => by rw [z, hd] at e; exact no (Option.some.inj e).symm)]; exact e
  generalize e : Value.type t = u at h
  cases h with
  | base b =>
    cases b with
    | non => exact .base .non
    | bl x => exact .base (.bl x)
    | int i => exact .base (.int i)
    | str x => exact .base (.str x)
    | flt x => exact .base (.flt x)
    | lst q => exact .base (.lst (ne q (fun z => by cases z)))
    | frz q => exact .base (.frz (ne q (fun z => by cases z)))
    | tup q => exact .base (.tup (ne q (fun z => by cases z)))
    | @dK a kvs2 q =>
      by_cases z : a = d
      · subst z; exact .fDict upd_same
      · exact .base (.dK (by rw [upd_ne z]; exact q))
    | dT q => exact .base (.dT (ne q (fun z => by cases z)))
    | ins q => cases e
  | byt b => exact .byt b
  | set q => exact .set (ne q (fun z => by cases z))
  | kList q c => exact .kList q c
  | kTuple q c => exact .kTuple q c
  | kDict q c => exact .kDict q c
  | fTuple q => exact .fTuple (ne q (fun z => by cases z))
  | fDict q => exact .fDict (ne q (fun z => by cases z))
theorem Bad.lock {K : PySem.W.Frag} {H : Hp} {d : Addr} {od : Obj} {kvs : List (Key × V)} {ns : List Str} {v : V} {r : Option Nat} (h : Bad K H ns v r) (hd : H d = some (.dK kvs)) : Bad K (upd H d (.frz od (.dK kvs))) ns v r := by
  have ne : ∀ {b : Addr} {o : HO}, H b = some o → o ≠ .dK kvs → upd H d (.frz od (.dK kvs)) b = some o := fun e no => by
    rw [upd_ne (fun z => by rw [z, hd] at e; exact no (Option.some.inj e).symm)]; exact e
  cases h with
  | no h => exact .no (let ⟨t, a, b⟩ := h; ⟨t, ty_lock a hd, b⟩)
  | seq h a l => exact .seq (h.imp (fun q => ne q (fun z => by cases z)) (fun q => ne q (fun z => by cases z))) a l
/-- a key that is a name -/
def keyNm : Key → Bool
  | .inl _ => false
  | .inr x => nmB x
/-- a hand is right | is not -/
inductive EnB (K : PySem.W.Frag) (H : Hp) (ns : List Str) : Key × V → Bool → Prop
  | key {k : Key} {v : V} (h : keyNm k = false) : EnB K H ns (k, v) false
  | val {k : Key} {v : V} {r : Option Nat} (h : keyNm k = true) (b : Bad K H ns v r) : EnB K H ns (k, v) r.isNone
theorem EnB.same {K : PySem.W.Frag} {H H' : Hp} {ns : List Str} {kv : Key × V} {b : Bool} (h : EnB K H ns kv b) (s : Same H H') : EnB K H' ns kv b := by
  cases h with
  | key h => exact .key h
  | val h b => exact .val h (b.same s)
theorem EnB.lock {K : PySem.W.Frag} {H : Hp} {d : Addr} {od : Obj} {kvs : List (Key × V)} {ns : List Str} {kv : Key × V} {b : Bool} (h : EnB K H ns kv b) (hd : H d = some (.dK kvs)) : EnB K (upd H d (.frz od (.dK kvs))) ns kv b := by
  cases h with
  | key h => exact .key h
  | val h b => exact .val h (b.lock hd)
/-- a dict of hands whose first wrong one stands at j | that is right -/
structure HdBad (K : PySem.W.Frag) (H : Hp) (ns : List Str) (d : Addr) (kvs : List (Key × V)) (j : Nat) : Prop where
  o : H d = some (.dK kvs)
  nd : (kvs.map (·.1)).Nodup
  sh : kvs.length < 1000
  few : ∀ kv ∈ kvs, ∀ x, kv.1 = Sum.inr x → x.cps.toList.length < 1000
  good : ∀ (i : Nat) (kv : Key × V), i < j → kvs[i]? = some kv → EnB K H ns kv true
def spCkHX (K : PySem.W.Frag) (CH : Addr) : Sp := fun vs H Q E => ∃ (c : Addr) (ns : List Str) (h : V), vs = [.ref c, h] ∧ H c = some (.lst (ns.map V.str)) ∧
  (((∃ t : String, TyX K H h (.type t) ∧ kitB t "dict" = some false) ∧ Flies CH "name" .non H E) ∨
   (∃ d, h = .ref d ∧ H d = some (.dK []) ∧ Flies CH "name" .non H E) ∨
   (∃ (d : Addr) (kvs : List (Key × V)) (j : Nat) (k : Key) (v : V), h = .ref d ∧ HdBad K H ns d kvs j ∧ kvs[j]? = some (k, v) ∧ EnB K H ns (k, v) false ∧ Flies CH "name" (kV k) H E) ∨
   (∃ (d : Addr) (kvs : List (Key × V)), h = .ref d ∧ kvs ≠ [] ∧ HdBad K H ns d kvs kvs.length ∧ ∀ H', Same H H' → Q .non H'))
theorem scCkH : FnScope ["names", "hands", "name"] ["names", "hands"] (defScope sCkH) := ⟨rfl, rfl, rfl, by decide +kernel, rfl, by decide +kernel, by decide +kernel⟩
section
variable {P : Program} {w : World} {K : PySem.W.Frag} {mg : Str → Option Value} {base : Heap} {f fN CH aF aL aO aK aA aB : Addr} {fd fdN : FuncData}
theorem key_no (K : PySem.W.Frag) (H : Hp) (i : Int) : NoStr K H (kV (Sum.inl i)) := ⟨_, .base (.int i), by decide +kernel⟩
theorem ok_ckHX (F : Fun K "check_hands" "check_hands" sCkH f fd) (Ck : Chk K mg aF aL aO aK aA aB) (EH : ErrF P w K mg base "BadHands" CH "name") (FN : Fun K "is_name" "is_name" sIsName fN fdN) (gN : mg "is_name" = some (.ref fN)) (GN : FnOk P w K mg base CX0 1 fN fdN ["thing"] (spIsNameG K))
    (nD : mg "dict" = none) (nL : mg "len" = none) : FnOk P w K mg base (L2.CX P w) 3 f fd ["names", "hands"] (spCkHX K CH) := by
  obtain ⟨fdF, FF⟩ := Ck.F
  obtain ⟨fdL, FL⟩ := Ck.L
  obtain ⟨fdO, FO⟩ := Ck.O
  have GF : FnOk P w K mg base CX0 2 aF fdF ["names", "things"] (spFirstG K) := ok_firstG FF FL Ck.gL FO Ck.gO Ck.nI Ck.nL Ck.nT Ck.nS Ck.nE
  have bF := FF.binds (ps := ["names", "things"]) fun _ _ _ _ _ _ us hl => match us, hl with | [_, _], _ => rfl
  have bN := FN.binds (ps := ["thing"]) fun _ _ _ _ _ _ us hl => match us, hl with | [_], _ => rfl
  refine F.okX scCkH (fun vs H Q E h => by obtain ⟨c, ns, v, e, _⟩ := h; rw [e]; rfl) fun cdv A outer s H vs Q E hr hsp => ?_
  obtain ⟨c, ns, h, rfl, hc, hsp⟩ := hsp
  have nd := scCkH.nd
  have hu := hu_of hr
  rcases hsp with ⟨⟨t, ty, h1⟩, hf⟩ | ⟨d, rfl, hd, hf⟩ | hsp
  · refine ⟨_, pss_cons (ps_if (PW.pt (pw_or (pt_not (pt_val (pe_callB (r := rIsi K) call_isi rfl Ck.nI boot_isi (pa_cons (pv 1) (pa_cons (pe_bltn (v := .ty "dict") rfl nD boot_dict' rfl) pa_nil)))))
        (pw_or1 (pt_cmpR op_eq (pe_callB call_lenD rfl nL boot_len (pa_cons (pv 1) pa_nil)) pe_int (nomark _))))) (pss_one (ps_raiseE rfl (takes_of rfl rfl rfl rfl) EH hr rfl pe_non)) pss_nil) pss_never, ?_⟩
    exact ⟨_, rfl, _, _, _, _, false, rfl, .ty _, ty, kit_ty h1, _, rfl, iteT (iteT (hf.up EH))⟩
  · refine ⟨_, pss_cons (ps_if (PW.pt (pw_or (pt_not (pt_val (pe_callB (r := rIsi K) call_isi rfl Ck.nI boot_isi (pa_cons (pv 1) (pa_cons (pe_bltn (v := .ty "dict") rfl nD boot_dict' rfl) pa_nil)))))
        (pw_or1 (pt_cmpR op_eq (pe_callB call_lenD rfl nL boot_len (pa_cons (pv 1) pa_nil)) pe_int (nomark _))))) (pss_one (ps_raiseE rfl (takes_of rfl rfl rfl rfl) EH hr rfl pe_non)) pss_nil) pss_never, ?_⟩
    refine ⟨_, rfl, _, _, _, _, true, rfl, .ty _, .base (.dK hd), kit_ty (by decide +kernel), _, rfl, iteF ?_⟩
    refine ⟨_, rfl, d, _, rfl, hd, rfl, _, rfl, ?_⟩
    rw [dec_int2]
    exact iteT (hf.up EH)
  · obtain ⟨d, kvs, j, rfl, ne, B, hq⟩ : ∃ (d : Addr) (kvs : List (Key × V)) (j : Nat), h = .ref d ∧ kvs ≠ [] ∧ HdBad K H ns d kvs j ∧ ((∃ k v, kvs[j]? = some (k, v) ∧ EnB K H ns (k, v) false ∧ Flies CH "name" (kV k) H E) ∨ (j = kvs.length ∧ ∀ H', Same H H' → Q .non H')) := by
      rcases hsp with ⟨d, kvs, j, k, v, e, B, ek, en, hf⟩ | ⟨d, kvs, e, ne, B, hq⟩
      · exact ⟨d, kvs, j, e, (fun z => by rw [z] at ek; cases ek), B, .inl ⟨k, v, ek, en, hf⟩⟩
      · exact ⟨d, kvs, _, e, ne, B, .inr ⟨rfl, hq⟩⟩
    have hd := B.o
    have hn : ∀ o' u', H d ≠ some (.frz o' u') := fun o' u' z => by rw [hd] at z; cases z
    have tk0 : Takes (cxOf (L2.CX P w) P w K mg base ["names", "hands", "name"] "check_hands" (defScope sCkH) f cdv A outer s H E) (fun cls dd σ H' => E cls dd H') := takes_of rfl rfl rfl rfl
    refine ⟨_, pss_cons (ps_if (PW.pt (pw_or (pt_not (pt_val (pe_callB (r := rIsi K) call_isi rfl Ck.nI boot_isi (pa_cons (pv 1) (pa_cons (pe_bltn (v := .ty "dict") rfl nD boot_dict' rfl) pa_nil)))))
        (pw_or1 (pt_cmpR op_eq (pe_callB call_lenD rfl nL boot_len (pa_cons (pv 1) pa_nil)) pe_int (nomark _))))) (pss_one ps_never) pss_nil)
      (pss_one (ps_lock (ps_for (passes_of rfl) rfl (pi_keys (pv 1)) (pg_name (i := 2) nd rfl (Or.inl rfl))
        (pss_one (ps_if (PW.pt (pw_or (pt_not (pt_val (pe_call GN (hr.mono (by decide)) rfl gN FN.kp bN .nil pass0 (pa_cons (pv 2) pa_nil))))
          (pw_or1 (pt_cmp (pc_notN (pe_call GF hr rfl Ck.gF FF.kp bF .nil pass0 (pa_cons (pv 0) (pa_cons (pe_dget hu (pv 1) (pv 2) (fun _ _ => rfl)) pa_nil)))))))) (pss_one (ps_raiseE rfl (takes_unlock tk0 (d := d) (u := .dK kvs) hn) EH hr rfl (pv 2))) pss_nil))))), ?_⟩
    refine ⟨_, rfl, _, _, _, _, true, rfl, .ty _, .base (.dK hd), kit_ty (by decide +kernel), _, rfl, iteF ?_⟩
    refine ⟨_, rfl, d, _, rfl, hd, rfl, _, rfl, ?_⟩
    have lp : 0 < kvs.length := List.length_pos_iff.mpr ne
    rw [dec_int2, decide_eq_false (by omega : ¬ ((kvs.length : Nat) : Int) = 0)]
    refine iteF ?_
    refine ⟨d, _, hd, trivial, fun od => ⟨_, rfl, d, od, rfl, .inl ⟨_, upd_same, for_it walk_keys (fun i σ H' => Same (upd H d (.frz od (.dK kvs))) H' ∧ i ≤ j ∧ ∃ s2, σ = [some (.ref c), some (.ref d), s2]) ⟨Same.refl _, Nat.zero_le _, _, rfl⟩ (fun i σ H' _ h => h.1 _ _ upd_same) ?_ ?_⟩⟩⟩
    · rintro i y σ H2 _ lt ⟨s2, le, s2', rfl⟩ ⟨rfl, k, v, ek, rfl⟩
      have cd : c ≠ d := fun z => by rw [z, hd] at hc; cases hc
      have oc : ∀ {H3 : Hp}, Same (upd H d (.frz od (.dK kvs))) H3 → H3 c = some (.lst (ns.map V.str)) := fun s => s _ _ (by rw [upd_ne cd]; exact hc)
      have dg : ∀ {H3 : Hp}, Same (upd H d (.frz od (.dK kvs))) H3 → DGet H3 d (kV k) (some v) := fun {H3} s => by
        have z : DGet H3 d (kV k) (valV kvs k) := .inl ⟨kvs, k, .inr ⟨od, s _ _ upd_same⟩, rfl, rfl⟩
        rw [valV_at B.nd ek] at z
        exact z
      have fine : EnB K H ns (k, v) true → ∃ x, k = Sum.inr x ∧ nmB x = true ∧ Bad K H ns v none := fun q => by
        generalize e1 : (k, v) = kv at q
        generalize e2 : true = b at q
        cases q with
        | key h => cases e2
        | @val k' v' r h b =>
          cases e1
          cases r with
          | some r => cases e2
          | none =>
            cases k with
            | inl z => cases h
            | inr x => exact ⟨x, rfl, h, b⟩
      by_cases hj : i = j
      · rcases hq with ⟨k', v', ek', en, hf⟩ | ⟨e, _⟩
        · rw [← hj, ek] at ek'
          cases ek'
          have bad : (keyNm k = false) ∨ ∃ x r, k = Sum.inr x ∧ nmB x = true ∧ Bad K H ns v (some r) := by
            generalize e1 : (k, v) = kv at en
            generalize e2 : false = b at en
            cases en with
            | key h => cases e1; exact .inl h
            | @val k' v' r h b =>
              cases e1
              cases r with
              | none => cases e2
              | some r =>
                cases k with
                | inl z => cases h
                | inr x => exact .inr ⟨x, r, rfl, h, b⟩
          rcases bad with hk | ⟨x, r, rfl, nx, hb⟩
          · cases k with
            | inl z => exact ⟨_, rfl, _, rfl, .inr ⟨key_no K _ z, _, rfl, iteT (iteT ⟨_, rfl, hf.unlock EH hd s2⟩)⟩⟩
            | inr x =>
              refine ⟨_, rfl, _, rfl, .inl ⟨x, rfl, B.few _ (List.mem_of_getElem? ek) x rfl, fun H3 s3 => ⟨_, rfl, ?_⟩⟩⟩
              rw [show nmB x = false from hk]
              exact iteT (iteT ⟨_, rfl, hf.unlock EH hd (s2.trans s3)⟩)
          · refine ⟨_, rfl, _, rfl, .inl ⟨x, rfl, B.few _ (List.mem_of_getElem? ek) x rfl, fun H3 s3 => ⟨_, rfl, ?_⟩⟩⟩
            rw [nx]
            refine iteF ?_
            have s23 := s2.trans s3
            refine ⟨_, rfl, _, rfl, _, rfl, d, _, rfl, dg s23, c, ns, v, some r, rfl, oc s23, (hb.lock hd).same s23, fun H4 s4 => ?_⟩
            exact ⟨_, rfl, iteT ⟨_, rfl, hf.unlock EH hd (s23.trans s4)⟩⟩
        · omega
      · obtain ⟨x, rfl, nx, hb⟩ := fine (B.good i _ (by omega) ek)
        refine ⟨_, rfl, _, rfl, .inl ⟨x, rfl, B.few _ (List.mem_of_getElem? ek) x rfl, fun H3 s3 => ⟨_, rfl, ?_⟩⟩⟩
        rw [nx]
        refine iteF ?_
        have s23 := s2.trans s3
        refine ⟨_, rfl, _, rfl, _, rfl, d, _, rfl, dg s23, c, ns, v, none, rfl, oc s23, (hb.lock hd).same s23, fun H4 s4 => ?_⟩
        exact ⟨_, rfl, iteF ⟨s23.trans s4, by omega, _, rfl⟩⟩
    · rintro σ H2 ⟨s2, le, s2', rfl⟩
      obtain ⟨b1, s02⟩ := lock_off hd s2
      rcases hq with ⟨k', v', ek', en, hf⟩ | ⟨e, hq⟩
      · have := (List.getElem?_eq_some_iff.mp ek').1
        omega
      · exact ⟨b1, hq _ s02⟩
end
end L2.TB
/-! the hands' functions where they refuse -/
namespace L2.TB
open PySem PySem.Spec PyProof.Rows
/-- what check_hands says of h: the name of the wrong hand, or nothing -/
inductive HdIs (K : PySem.W.Frag) (H : Hp) (ns : List Str) : V → Option V → Prop
  | odd {h : V} {t : String} (ty : TyX K H h (.type t)) (hk : kitB t "dict" = some false) : HdIs K H ns h (some .non)
  | empty {d : Addr} (o : H d = some (.dK [])) : HdIs K H ns (.ref d) (some .non)
  | bad {d : Addr} {kvs : List (Key × V)} {j : Nat} {k : Key} {v : V} (B : HdBad K H ns d kvs j) (ek : kvs[j]? = some (k, v)) (en : EnB K H ns (k, v) false) : HdIs K H ns (.ref d) (some (kV k))
  | good {d : Addr} {kvs : List (Key × V)} (ne : kvs ≠ []) (B : HdBad K H ns d kvs kvs.length) : HdIs K H ns (.ref d) none
theorem HdBad.same {K : PySem.W.Frag} {H H' : Hp} {ns : List Str} {d : Addr} {kvs : List (Key × V)} {j : Nat} (h : HdBad K H ns d kvs j) (s : Same H H') : HdBad K H' ns d kvs j := ⟨s _ _ h.o, h.nd, h.sh, h.few, fun i kv lt e => (h.good i kv lt e).same s⟩
theorem HdIs.same {K : PySem.W.Frag} {H H' : Hp} {ns : List Str} {h : V} {r : Option V} (x : HdIs K H ns h r) (s : Same H H') : HdIs K H' ns h r := by
  cases x with
  | odd ty hk => exact .odd (ty_same ty s) hk
  | empty o => exact .empty (s _ _ o)
  | bad B ek en => exact .bad (B.same s) ek (en.same s)
  | good ne B => exact .good ne (B.same s)
/-- the call of check_hands -/
theorem ckH_call {K : PySem.W.Frag} {CH : Addr} {c : Addr} {ns : List Str} {h : V} {r : Option V} {H : Hp} {R : Hp → Prop} {E : XK} (hc : H c = some (.lst (ns.map V.str))) (x : HdIs K H ns h r) (bad : ∀ v, r = some v → Flies CH "name" v H E) (ok : r = none → ∀ H', Same H H' → R H') : spCkHX K CH [.ref c, h] H (fun _ H' => R H') E := by
  refine ⟨c, ns, h, rfl, hc, ?_⟩
  cases x with
  | odd ty hk => exact .inl ⟨⟨_, ty, hk⟩, bad _ rfl⟩
  | empty o => exact .inr (.inl ⟨_, rfl, o, bad _ rfl⟩)
  | bad B ek en => exact .inr (.inr (.inl ⟨_, _, _, _, _, rfl, B, ek, en, bad _ rfl⟩))
  | good ne B => exact .inr (.inr (.inr ⟨_, _, rfl, ne, B, ok rfl⟩))
/-- right hands have names for keys -/
theorem HdBad.names {K : PySem.W.Frag} {H : Hp} {ns : List Str} {d : Addr} {kvs : List (Key × V)} (h : HdBad K H ns d kvs kvs.length) : ∃ hn : List Str, kvs.map (·.1) = hn.map Sum.inr := by
  have all : ∀ kv ∈ kvs, ∃ x : Str, kv.1 = Sum.inr x := fun kv hm => by
    obtain ⟨i, hi⟩ := List.mem_iff_getElem?.mp hm
    have en := h.good i kv (List.getElem?_eq_some_iff.mp hi).1 hi
    generalize e2 : true = b at en
    cases en with
    | key h => cases e2
    | @val k v r h b =>
      cases k with
      | inl z => cases h
      | inr x => exact ⟨x, rfl⟩
  clear h
  induction kvs with
  | nil => exact ⟨[], rfl⟩
  | cons kv r ih =>
    obtain ⟨x, ex⟩ := all kv (by simp)
    obtain ⟨hn, e⟩ := ih fun kv hm => all kv (List.mem_cons_of_mem _ hm)
    exact ⟨x :: hn, by rw [List.map_cons, List.map_cons, ex, e]⟩
theorem keys_str {kvs : List (Key × V)} {hn : List Str} (e : kvs.map (·.1) = hn.map Sum.inr) : kvs.map (fun kv => kV kv.1) = hn.map V.str := by
  have z : kvs.map (fun kv => kV kv.1) = (kvs.map (·.1)).map kV := by rw [List.map_map]; rfl
  rw [z, e, List.map_map]
  rfl
def spCkHAX (K : PySem.W.Frag) (C CH CQ : Addr) : Sp := fun vs H Q E => ∃ (a : Addr) (ns : List Str) (tbl : List (List Int)) (h x : V) (r : Option V), vs = [.ref a, h, x] ∧ TabAt H C a ns tbl ∧ HdIs K H ns h r ∧ (∀ v, r = some v → Flies CH "name" v H E) ∧ (r = none → BadAsk K H ns x ∧ Flies CQ "name" x H E)
theorem scHA : FnScope ["field", "hands", "asked"] ["field", "hands", "asked"] (defScope sCkHA) := ⟨rfl, rfl, rfl, by decide +kernel, rfl, by decide +kernel, by decide +kernel⟩
theorem scLg : FnScope ["field", "hands", "asked", "names", "groups", "group", "place"] ["field", "hands", "asked"] (defScope sLeastG) := ⟨rfl, rfl, rfl, by decide +kernel, rfl, by decide +kernel, by decide +kernel⟩
theorem scOg : FnScope ["field", "hands", "asked", "names", "groups", "group", "place"] ["field", "hands", "asked"] (defScope sOutsiders) := ⟨rfl, rfl, rfl, by decide +kernel, rfl, by decide +kernel, by decide +kernel⟩
theorem scKn : FnScope ["field", "hands", "group", "asked", "index"] ["field", "hands", "group", "asked"] (defScope sKnows) := ⟨rfl, rfl, rfl, by decide +kernel, rfl, by decide +kernel, by decide +kernel⟩
structure HRef (P : Program) (w : World) (K : PySem.W.Frag) (mg : Str → Option Value) (base : Heap) (C CH CQ : Addr) : Prop where
  H : ∃ fH fdH, mg "check_hands" = some (.ref fH) ∧ Fun K "check_hands" "check_hands" sCkH fH fdH ∧ FnOk P w K mg base (L2.CX P w) 3 fH fdH ["names", "hands"] (spCkHX K CH)
  A : ∃ fA fdA, mg "check_asked" = some (.ref fA) ∧ Fun K "check_asked" "check_asked" sCkA fA fdA ∧ FnOk P w K mg base (L2.CX P w) 3 fA fdA ["names", "asked"] (spCkAX K CQ)
section
variable {P : Program} {w : World} {K : PySem.W.Frag} {mg : Str → Option Value} {base : Heap} {f fB C CH CQ CG fQ fI fPl fPr aF aL aO aK aA aB : Addr} {fd fdB : FuncData}
theorem ok_ckHAX (F : Fun K "_check_both" "_check_both" sCkHA f fd) (T : TabM K C fQ fI fPl fPr) (nL : mg "list" = none) (W : HRef P w K mg base C CH CQ) : FnOk P w K mg base (L2.CX P w) 4 f fd ["field", "hands", "asked"] (spCkHAX K C CH CQ) := by
  obtain ⟨fdQ, FQ⟩ := T.Q
  have GQ := ok_qs (P := P) (w := w) (mg := mg) (base := base) FQ T.toTabC nL
  have bQ := FQ.binds (ps := ["self"]) fun _ _ _ _ _ _ us hl => match us, hl with | [_], _ => rfl
  obtain ⟨fH, fdH, gH, FH, GH⟩ := W.H
  have bH := FH.binds (ps := ["names", "hands"]) fun _ _ _ _ _ _ us hl => match us, hl with | [_, _], _ => rfl
  obtain ⟨fA, fdA, gA, FA, GA⟩ := W.A
  have bA := FA.binds (ps := ["names", "asked"]) fun _ _ _ _ _ _ us hl => match us, hl with | [_, _], _ => rfl
  refine F.okX scHA (fun vs H Q E h => by obtain ⟨a, ns, tbl, h, x, r, e, _⟩ := h; rw [e]; rfl) fun cdv A outer s H vs Q E hr hsp => ?_
  obtain ⟨a, ns, tbl, h, x, r, rfl, tab, hd, hbad, hask⟩ := hsp
  refine ⟨_, pss_cons (ps_expr (pe_callS GH hr rfl gH FH.kp bH (fun σ => passAt (takes_of rfl rfl rfl rfl) σ) (pa_cons (pe_meth0 (pv 0) T.cl T.mQ GQ (hr.mono (by decide)) bQ .nil pass0) (pa_cons (pv 1) pa_nil))))
    (pss_one (ps_expr (pe_callS GA hr rfl gA FA.kp bA (fun σ => passAt (takes_of rfl rfl rfl rfl) σ) (pa_cons (pe_meth0 (pv 0) T.cl T.mQ GQ (hr.mono (by decide)) bQ .nil pass0) (pa_cons (pv 2) pa_nil))))), ?_⟩
  obtain ⟨dx, qa, ra, ha, hqa, hra⟩ := id tab.ex
  refine ⟨_, rfl, a, dx, _, rfl, ha, rfl, a, ns, tbl, rfl, tab, fun H1 q1 n1 o1 k1 => ?_⟩
  refine ⟨_, rfl, ckH_call o1 (hd.same k1) (fun v e => (hbad v e).same k1) fun er H2 k2 => ?_⟩
  have k12 := k1.trans k2
  refine ⟨_, rfl, a, dx, _, rfl, k12 _ _ ha, rfl, a, ns, tbl, rfl, tab.same k12, fun H3 q3 n3 o3 k3 => ?_⟩
  have k13 := k12.trans k3
  obtain ⟨hb, hf⟩ := hask er
  exact ⟨_, rfl, q3, ns, x, rfl, SqL.of o3, .inr ⟨hb.same k13, hf.same k13⟩⟩
theorem ok_leastGX (F : Fun K "least_groups" "least_groups" sLeastG f fd) (FB : Fun K "_check_both" "_check_both" sCkHA fB fdB) (gB : mg "_check_both" = some (.ref fB)) (GB : FnOk P w K mg base (L2.CX P w) 4 fB fdB ["field", "hands", "asked"] (spCkHAX K C CH CQ)) : FnOk P w K mg base (L2.CX P w) 5 f fd ["field", "hands", "asked"] (spCkHAX K C CH CQ) := by
  have bB := FB.binds (ps := ["field", "hands", "asked"]) fun _ _ _ _ _ _ us hl => match us, hl with | [_, _, _], _ => rfl
  refine F.okX scLg (fun vs H Q E h => by obtain ⟨a, ns, tbl, h, x, r, e, _⟩ := h; rw [e]; rfl) fun cdv A outer s H vs Q E hr hsp => ?_
  obtain ⟨a, ns, tbl, h, x, r, rfl, tab, hd, hbad, hask⟩ := hsp
  refine ⟨_, pss_cons (ps_expr (pe_callS GB hr rfl gB FB.kp bB (fun σ => passAt (takes_of rfl rfl rfl rfl) σ) (pa_cons (pv 0) (pa_cons (pv 1) (pa_cons (pv 2) pa_nil))))) pss_never, ?_⟩
  exact ⟨_, rfl, _, rfl, _, rfl, a, ns, tbl, h, x, r, rfl, tab, hd, hbad, hask⟩
theorem ok_outsX (F : Fun K "outsiders" "outsiders" sOutsiders f fd) (FB : Fun K "_check_both" "_check_both" sCkHA fB fdB) (gB : mg "_check_both" = some (.ref fB)) (GB : FnOk P w K mg base (L2.CX P w) 4 fB fdB ["field", "hands", "asked"] (spCkHAX K C CH CQ)) : FnOk P w K mg base (L2.CX P w) 5 f fd ["field", "hands", "asked"] (spCkHAX K C CH CQ) := by
  have bB := FB.binds (ps := ["field", "hands", "asked"]) fun _ _ _ _ _ _ us hl => match us, hl with | [_, _, _], _ => rfl
  refine F.okX scOg (fun vs H Q E h => by obtain ⟨a, ns, tbl, h, x, r, e, _⟩ := h; rw [e]; rfl) fun cdv A outer s H vs Q E hr hsp => ?_
  obtain ⟨a, ns, tbl, h, x, r, rfl, tab, hd, hbad, hask⟩ := hsp
  refine ⟨_, pss_cons (ps_expr (pe_callS GB hr rfl gB FB.kp bB (fun σ => passAt (takes_of rfl rfl rfl rfl) σ) (pa_cons (pv 0) (pa_cons (pv 1) (pa_cons (pv 2) pa_nil))))) pss_never, ?_⟩
  exact ⟨_, rfl, _, rfl, _, rfl, a, ns, tbl, h, x, r, rfl, tab, hd, hbad, hask⟩
/-- knows, where it refuses -/
def spKnowsX (K : PySem.W.Frag) (C CH CQ CG : Addr) : Sp := fun vs H Q E => ∃ (a : Addr) (ns : List Str) (tbl : List (List Int)) (h g x : V) (r : Option V), vs = [.ref a, h, g, x] ∧ TabAt H C a ns tbl ∧ HdIs K H ns h r ∧ (∀ v, r = some v → Flies CH "name" v H E) ∧
  (r = none → ∃ (d : Addr) (kvs : List (Key × V)) (hn : List Str) (b : Option Nat), h = .ref d ∧ H d = some (.dK kvs) ∧ kvs.map (·.1) = hn.map Sum.inr ∧ Bad K H hn g b ∧ (∀ i : Nat, b = some i → Flies CG "index" (.int i) H E) ∧ (b = none → BadAsk K H ns x ∧ Flies CQ "name" x H E))
theorem ok_knowsX (F : Fun K "knows" "knows" sKnows f fd) (T : TabM K C fQ fI fPl fPr) (Ck : Chk K mg aF aL aO aK aA aB) (W : HRef P w K mg base C CH CQ) (EG : ErrF P w K mg base "BadGroup" CG "index") : FnOk P w K mg base (L2.CX P w) 4 f fd ["field", "hands", "group", "asked"] (spKnowsX K C CH CQ CG) := by
  obtain ⟨fdQ, FQ⟩ := T.Q
  have GQ := ok_qs (P := P) (w := w) (mg := mg) (base := base) FQ T.toTabC Ck.nL
  have bQ := FQ.binds (ps := ["self"]) fun _ _ _ _ _ _ us hl => match us, hl with | [_], _ => rfl
  obtain ⟨fH, fdH, gH, FH, GH⟩ := W.H
  have bH := FH.binds (ps := ["names", "hands"]) fun _ _ _ _ _ _ us hl => match us, hl with | [_, _], _ => rfl
  obtain ⟨fA, fdA, gA, FA, GA⟩ := W.A
  have bA := FA.binds (ps := ["names", "asked"]) fun _ _ _ _ _ _ us hl => match us, hl with | [_, _], _ => rfl
  obtain ⟨fdF, FF⟩ := Ck.F
  obtain ⟨fdL, FL⟩ := Ck.L
  obtain ⟨fdO, FO⟩ := Ck.O
  have GF : FnOk P w K mg base CX0 2 aF fdF ["names", "things"] (spFirstG K) := ok_firstG FF FL Ck.gL FO Ck.gO Ck.nI Ck.nL Ck.nT Ck.nS Ck.nE
  have bF := FF.binds (ps := ["names", "things"]) fun _ _ _ _ _ _ us hl => match us, hl with | [_, _], _ => rfl
  refine F.okX scKn (fun vs H Q E h => by obtain ⟨a, ns, tbl, h, g, x, r, e, _⟩ := h; rw [e]; rfl) fun cdv A outer s H vs Q E hr hsp => ?_
  obtain ⟨a, ns, tbl, h, g, x, r, rfl, tab, hd, hbad, hok⟩ := hsp
  have nd := scKn.nd
  refine ⟨_, pss_cons (ps_expr (pe_callS GH hr rfl gH FH.kp bH (fun σ => passAt (takes_of rfl rfl rfl rfl) σ) (pa_cons (pe_meth0 (pv 0) T.cl T.mQ GQ (hr.mono (by decide)) bQ .nil pass0) (pa_cons (pv 1) pa_nil))))
    (pss_cons (ps_set (i := 4) nd rfl (Or.inl rfl) (pe_call GF (hr.mono (by decide)) rfl Ck.gF FF.kp bF .nil pass0 (pa_cons (pe_callTy (call_listD rfl) rfl Ck.nL boot_list' (pa_cons (pv 1) pa_nil)) (pa_cons (pv 2) pa_nil))))
    (pss_cons (ps_if (pt_cmp (pc_notN (pv 4))) (pss_one (ps_raiseE rfl (takes_of rfl rfl rfl rfl) EG (hr.mono (by decide)) rfl (pv 4))) pss_nil)
    (pss_cons (ps_expr (pe_callS GA hr rfl gA FA.kp bA (fun σ => passAt (takes_of rfl rfl rfl rfl) σ) (pa_cons (pe_meth0 (pv 0) T.cl T.mQ GQ (hr.mono (by decide)) bQ .nil pass0) (pa_cons (pv 3) pa_nil)))) pss_never))), ?_⟩
  obtain ⟨dx, qa, ra, ha, hqa, hra⟩ := id tab.ex
  refine ⟨_, rfl, a, dx, _, rfl, ha, rfl, a, ns, tbl, rfl, tab, fun H1 q1 n1 o1 k1 => ?_⟩
  refine ⟨_, rfl, ckH_call o1 (hd.same k1) (fun v e => (hbad v e).same k1) fun er H2 k2 => ?_⟩
  have k12 := k1.trans k2
  obtain ⟨d, kvs, hn, b, rfl, od, ek, hB, hi, hask⟩ := hok er
  refine ⟨_, rfl, d, _, rfl, .inl (k12 _ _ od), fun n nn => ?_⟩
  rw [keys_str ek]
  have kn := same_new (o := .lst (hn.map V.str)) nn
  have on : upd H2 n (.lst (hn.map V.str)) n = some (.lst (hn.map V.str)) := upd_same
  generalize upd H2 n (.lst (hn.map V.str)) = H3 at kn on
  have k13 := k12.trans kn
  refine ⟨_, rfl, n, hn, g, b, rfl, on, hB.same k13, fun H4 k4 => ?_⟩
  have k14 := k13.trans k4
  cases b with
  | some i => exact ⟨_, rfl, _, rfl, iteT ⟨_, rfl, ((hi i rfl).same k14).up EG⟩⟩
  | none =>
    refine ⟨_, rfl, _, rfl, iteF ?_⟩
    refine ⟨_, rfl, a, dx, _, rfl, k14 _ _ ha, rfl, a, ns, tbl, rfl, tab.same k14, fun H5 q5 n5 o5 k5 => ?_⟩
    have k15 := k14.trans k5
    obtain ⟨hb, hf⟩ := hask rfl
    exact ⟨_, rfl, q5, ns, x, rfl, SqL.of o5, .inr ⟨hb.same k15, hf.same k15⟩⟩
end
end L2.TB
/-! may_tell and is_safe where they refuse; is_integer and is_count of anything -/
namespace L2.TB
open PySem PySem.Spec PyProof.Rows
/-- no whole number -/
inductive NoInt (K : PySem.W.Frag) (H : Hp) : V → Prop
  | bl (b : Bool) : NoInt K H (.bl b)
  | ty {v : V} {t : String} (h : TyX K H v (.type t)) (k : kitB t "int" = some false) : NoInt K H v
theorem NoInt.same {K : PySem.W.Frag} {H H' : Hp} {v : V} (h : NoInt K H v) (s : Same H H') : NoInt K H' v := by
  cases h with
  | bl b => exact .bl b
  | ty h k => exact .ty (ty_same h s) k
def spIsIntG (K : PySem.W.Frag) : Sp := fun vs H Q _ => ∃ v : V, vs = [v] ∧ ((∃ k, v = .int k ∧ Q (.bl true) H) ∨ (NoInt K H v ∧ Q (.bl false) H))
def spIsCountG (K : PySem.W.Frag) : Sp := fun vs H Q _ => ∃ v : V, vs = [v] ∧ ((∃ k : Int, v = .int k ∧ Q (.bl (decide (0 ≤ k))) H) ∨ (NoInt K H v ∧ Q (.bl false) H))
theorem scIsCount : FnScope ["thing"] ["thing"] (defScope sIsCount) := ⟨rfl, rfl, rfl, by decide +kernel, rfl, by decide +kernel, by decide +kernel⟩
/-- is_one_of a dict's keys -/
def spIsOneK (K : PySem.W.Frag) : Sp := fun vs H Q _ => ∃ (d : Addr) (kvs : List (Key × V)) (v : V), vs = [.ref d, v] ∧ H d = some (.dK kvs) ∧ ((∃ x, v = .str x ∧ Q (.bl (valV kvs (Sum.inr x)).isSome) H) ∨ (NoStr K H v ∧ Q (.bl false) H))
theorem scMy : FnScope ["field", "hands", "name", "asked", "has", "one"] ["field", "hands", "name", "asked"] (defScope sMayTell) := ⟨rfl, rfl, rfl, by decide +kernel, rfl, by decide +kernel, by decide +kernel⟩
theorem scSf : FnScope ["field", "hands", "most", "asked", "group"] ["field", "hands", "most", "asked"] (defScope sIsSafe) := ⟨rfl, rfl, rfl, by decide +kernel, rfl, by decide +kernel, by decide +kernel⟩
/-- no hand of that name -/
def BadHand (K : PySem.W.Frag) (H : Hp) (kvs : List (Key × V)) (v : V) : Prop := (∃ x, v = .str x ∧ valV kvs (Sum.inr x) = none) ∨ NoStr K H v
theorem BadHand.same {K : PySem.W.Frag} {H H' : Hp} {kvs : List (Key × V)} {v : V} (h : BadHand K H kvs v) (s : Same H H') : BadHand K H' kvs v := h.imp id fun h => h.same s
/-- no count -/
def BadCnt (K : PySem.W.Frag) (H : Hp) (v : V) : Prop := (∃ k : Int, v = .int k ∧ k < 0) ∨ NoInt K H v
theorem BadCnt.same {K : PySem.W.Frag} {H H' : Hp} {v : V} (h : BadCnt K H v) (s : Same H H') : BadCnt K H' v := h.imp id fun h => h.same s
def spMayX (K : PySem.W.Frag) (C CH CQ CN : Addr) : Sp := fun vs H Q E => ∃ (a : Addr) (ns : List Str) (tbl : List (List Int)) (h g x : V) (r : Option V), vs = [.ref a, h, g, x] ∧ TabAt H C a ns tbl ∧ HdIs K H ns h r ∧ (∀ v, r = some v → Flies CH "name" v H E) ∧
  (r = none → ∃ (d : Addr) (kvs : List (Key × V)), h = .ref d ∧ H d = some (.dK kvs) ∧ ((BadHand K H kvs g ∧ Flies CN "name" g H E) ∨ ((∃ y, g = .str y ∧ (valV kvs (Sum.inr y)).isSome = true) ∧ BadAsk K H ns x ∧ Flies CQ "name" x H E)))
def spSafeX (K : PySem.W.Frag) (C CH CQ CB : Addr) : Sp := fun vs H Q E => ∃ (a : Addr) (ns : List Str) (tbl : List (List Int)) (h g x : V) (r : Option V), vs = [.ref a, h, g, x] ∧ TabAt H C a ns tbl ∧ HdIs K H ns h r ∧ (∀ v, r = some v → Flies CH "name" v H E) ∧
  (r = none → ((BadCnt K H g ∧ Flies CB "thing" g H E) ∨ ((∃ k : Int, g = .int k ∧ 0 ≤ k) ∧ BadAsk K H ns x ∧ Flies CQ "name" x H E)))
section
variable {P : Program} {w : World} {K : PySem.W.Frag} {mg : Str → Option Value} {base : Heap} {f fCt fI' C CH CQ CN CB fQ fI fPl fPr aF aL aO aK aA aB : Addr} {fd fdCt fdI : FuncData}
theorem ok_isIntG (F : Fun K "is_integer" "is_integer" sIsInt f fd) (gI : mg "isinstance" = none) (gInt : mg "int" = none) (gB : mg "bool" = none) : FnOk P w K mg base CX0 1 f fd ["thing"] (spIsIntG K) := by
  refine F.ok scIsInt (fun vs H Q E h => by obtain ⟨k, e, _⟩ := h; rw [e]; rfl) fun cdv A outer s H vs Q E hr hsp => ?_
  obtain ⟨v, rfl, hq⟩ := hsp
  refine ⟨_, pss_one (ps_ret (pe_and (pe_callB (r := rIsi K) call_isi rfl gI boot_isi (pa_cons (pv 0) (pa_cons (pe_bltn (v := .ty "int") rfl gInt boot_int' rfl) pa_nil)))
    (pe_one (pe_not (pe_callB (r := rIsi K) call_isi rfl gI boot_isi (pa_cons (pv 0) (pa_cons (pe_bltn (v := .ty "bool") rfl gB boot_bool' rfl) pa_nil))))))), ?_⟩
  rcases hq with ⟨k, rfl, hq⟩ | ⟨hn, hq⟩
  · exact ⟨_, rfl, _, _, _, _, true, rfl, .ty _, .base (.int k), kit_ty (by decide +kernel), true, rfl, iteT ⟨_, rfl, _, _, _, _, false, rfl, .ty _, .base (.int k), kit_ty (by decide +kernel), false, rfl, hq⟩⟩
  · cases hn with
    | bl b => exact ⟨_, rfl, _, _, _, _, true, rfl, .ty _, .base (.bl b), kit_ty (by decide +kernel), true, rfl, iteT ⟨_, rfl, _, _, _, _, true, rfl, .ty _, .base (.bl b), kit_ty (by decide +kernel), true, rfl, hq⟩⟩
    | ty h k => exact ⟨_, rfl, _, _, _, _, false, rfl, .ty _, h, kit_ty k, false, rfl, iteF hq⟩
theorem ok_isCountG (F : Fun K "is_count" "is_count" sIsCount f fd) (FI : Fun K "is_integer" "is_integer" sIsInt fI fdI) (gI : mg "is_integer" = some (.ref fI)) (nI : mg "isinstance" = none) (nInt : mg "int" = none) (nB : mg "bool" = none) : FnOk P w K mg base CX0 2 f fd ["thing"] (spIsCountG K) := by
  have GI : FnOk P w K mg base CX0 1 fI fdI ["thing"] (spIsIntG K) := ok_isIntG FI nI nInt nB
  have bI := FI.binds (ps := ["thing"]) fun _ _ _ _ _ _ us hl => match us, hl with | [_], _ => rfl
  refine F.ok scIsCount (fun vs H Q E h => by obtain ⟨k, e, _⟩ := h; rw [e]; rfl) fun cdv A outer s H vs Q E hr hsp => ?_
  obtain ⟨v, rfl, hq⟩ := hsp
  refine ⟨_, pss_one (ps_ret (pe_and (pe_call GI hr rfl gI FI.kp bI .nil pass0 (pa_cons (pv 0) pa_nil)) (pe_one (pe_cmpR op_ge (pv 0) pe_int (nomark _))))), ?_⟩
  rcases hq with ⟨k, rfl, hq⟩ | ⟨hn, hq⟩
  · exact ⟨_, rfl, _, rfl, .inl ⟨k, rfl, _, rfl, iteT ⟨_, rfl, _, _, rfl, rfl, hq⟩⟩⟩
  · exact ⟨_, rfl, _, rfl, .inr ⟨hn, _, rfl, iteF hq⟩⟩
theorem ok_isOneK (F : Fun K "is_one_of" "is_one_of" sIsOne f fd) (gI : mg "isinstance" = none) (gS : mg "str" = none) : FnOk P w K mg base CX0 1 f fd ["names", "thing"] (spIsOneK K) := by
  refine F.ok scIsOne (fun vs H Q E h => by obtain ⟨d, kvs, x, e, _⟩ := h; rw [e]; rfl) fun cdv A outer s H vs Q E hr hsp => ?_
  obtain ⟨d, kvs, v, rfl, hd, hq⟩ := hsp
  have hu := hu_of hr
  refine ⟨_, pss_one (ps_ret (pe_and (pe_callB (r := rIsi K) call_isi rfl gI boot_isi (pa_cons (pv 1) (pa_cons (pe_bltn (v := .ty "str") rfl gS boot_str' rfl) pa_nil)))
    (pe_one (pe_cmp (pc_din hu (pv 1) (pv 0)))))), ?_⟩
  rcases hq with ⟨x, rfl, hq⟩ | ⟨⟨t, h1, h2⟩, hq⟩
  · exact ⟨_, rfl, _, _, _, _, true, rfl, .ty _, .base (.str x), kit_ty (by decide +kernel), _, rfl, iteT ⟨_, rfl, _, rfl, d, _, rfl, DGet.k (k := Sum.inr x) hd, hq⟩⟩
  · exact ⟨_, rfl, _, _, _, _, false, rfl, .ty _, h1, kit_ty h2, _, rfl, iteF hq⟩
theorem ok_mayX (F : Fun K "may_tell" "may_tell" sMayTell f fd) (T : TabM K C fQ fI fPl fPr) (Ck : Chk K mg aF aL aO aK aA aB) (W : HRef P w K mg base C CH CQ) (EN : ErrF P w K mg base "NoHand" CN "name") : FnOk P w K mg base (L2.CX P w) 4 f fd ["field", "hands", "name", "asked"] (spMayX K C CH CQ CN) := by
  obtain ⟨fdQ, FQ⟩ := T.Q
  have GQ := ok_qs (P := P) (w := w) (mg := mg) (base := base) FQ T.toTabC Ck.nL
  have bQ := FQ.binds (ps := ["self"]) fun _ _ _ _ _ _ us hl => match us, hl with | [_], _ => rfl
  obtain ⟨fH, fdH, gH, FH, GH⟩ := W.H
  have bH := FH.binds (ps := ["names", "hands"]) fun _ _ _ _ _ _ us hl => match us, hl with | [_, _], _ => rfl
  obtain ⟨fA, fdA, gA, FA, GA⟩ := W.A
  have bA := FA.binds (ps := ["names", "asked"]) fun _ _ _ _ _ _ us hl => match us, hl with | [_, _], _ => rfl
  obtain ⟨fdO, FO⟩ := Ck.O
  have GO : FnOk P w K mg base CX0 1 aO fdO ["names", "thing"] (spIsOneK K) := ok_isOneK FO Ck.nI Ck.nS
  have bO := FO.binds (ps := ["names", "thing"]) fun _ _ _ _ _ _ us hl => match us, hl with | [_, _], _ => rfl
  refine F.okX scMy (fun vs H Q E h => by obtain ⟨a, ns, tbl, h, g, x, r, e, _⟩ := h; rw [e]; rfl) fun cdv A outer s H vs Q E hr hsp => ?_
  obtain ⟨a, ns, tbl, h, g, x, r, rfl, tab, hd, hbad, hok⟩ := hsp
  refine ⟨_, pss_cons (ps_expr (pe_callS GH hr rfl gH FH.kp bH (fun σ => passAt (takes_of rfl rfl rfl rfl) σ) (pa_cons (pe_meth0 (pv 0) T.cl T.mQ GQ (hr.mono (by decide)) bQ .nil pass0) (pa_cons (pv 1) pa_nil))))
    (pss_cons (ps_if (pt_not (pt_val (pe_call GO (hr.mono (by decide)) rfl Ck.gO FO.kp bO .nil pass0 (pa_cons (pv 1) (pa_cons (pv 2) pa_nil))))) (pss_one (ps_raiseE rfl (takes_of rfl rfl rfl rfl) EN (hr.mono (by decide)) rfl (pv 2))) pss_nil)
    (pss_cons (ps_expr (pe_callS GA hr rfl gA FA.kp bA (fun σ => passAt (takes_of rfl rfl rfl rfl) σ) (pa_cons (pe_meth0 (pv 0) T.cl T.mQ GQ (hr.mono (by decide)) bQ .nil pass0) (pa_cons (pv 3) pa_nil)))) pss_never)), ?_⟩
  obtain ⟨dx, qa, ra, ha, hqa, hra⟩ := id tab.ex
  refine ⟨_, rfl, a, dx, _, rfl, ha, rfl, a, ns, tbl, rfl, tab, fun H1 q1 n1 o1 k1 => ?_⟩
  refine ⟨_, rfl, ckH_call o1 (hd.same k1) (fun v e => (hbad v e).same k1) fun er H2 k2 => ?_⟩
  have k12 := k1.trans k2
  obtain ⟨d, kvs, rfl, od, hc⟩ := hok er
  refine ⟨_, rfl, _, rfl, d, kvs, g, rfl, k12 _ _ od, ?_⟩
  rcases hc with ⟨⟨y, rfl, hy⟩ | hN, hf⟩ | ⟨⟨y, rfl, hy⟩, hb, hf⟩
  · exact .inl ⟨y, rfl, _, rfl, by rw [hy]; exact iteT ⟨_, rfl, (hf.same k12).up EN⟩⟩
  · exact .inr ⟨hN.same k12, _, rfl, iteT ⟨_, rfl, (hf.same k12).up EN⟩⟩
  · refine .inl ⟨y, rfl, _, rfl, ?_⟩
    rw [hy]
    refine iteF ⟨_, rfl, a, dx, _, rfl, k12 _ _ ha, rfl, a, ns, tbl, rfl, tab.same k12, fun H5 q5 n5 o5 k5 => ?_⟩
    have k15 := k12.trans k5
    exact ⟨_, rfl, q5, ns, x, rfl, SqL.of o5, .inr ⟨hb.same k15, hf.same k15⟩⟩
theorem ok_safeX (F : Fun K "is_safe" "is_safe" sIsSafe f fd) (T : TabM K C fQ fI fPl fPr) (nL : mg "list" = none) (W : HRef P w K mg base C CH CQ) (EB : ErrF P w K mg base "BadNumber" CB "thing") (FCt : Fun K "is_count" "is_count" sIsCount fCt fdCt) (gCt : mg "is_count" = some (.ref fCt)) (GCt : FnOk P w K mg base CX0 2 fCt fdCt ["thing"] (spIsCountG K)) :
    FnOk P w K mg base (L2.CX P w) 4 f fd ["field", "hands", "most", "asked"] (spSafeX K C CH CQ CB) := by
  obtain ⟨fdQ, FQ⟩ := T.Q
  have GQ := ok_qs (P := P) (w := w) (mg := mg) (base := base) FQ T.toTabC nL
  have bQ := FQ.binds (ps := ["self"]) fun _ _ _ _ _ _ us hl => match us, hl with | [_], _ => rfl
  obtain ⟨fH, fdH, gH, FH, GH⟩ := W.H
  have bH := FH.binds (ps := ["names", "hands"]) fun _ _ _ _ _ _ us hl => match us, hl with | [_, _], _ => rfl
  obtain ⟨fA, fdA, gA, FA, GA⟩ := W.A
  have bA := FA.binds (ps := ["names", "asked"]) fun _ _ _ _ _ _ us hl => match us, hl with | [_, _], _ => rfl
  have bCt := FCt.binds (ps := ["thing"]) fun _ _ _ _ _ _ us hl => match us, hl with | [_], _ => rfl
  refine F.okX scSf (fun vs H Q E h => by obtain ⟨a, ns, tbl, h, g, x, r, e, _⟩ := h; rw [e]; rfl) fun cdv A outer s H vs Q E hr hsp => ?_
  obtain ⟨a, ns, tbl, h, g, x, r, rfl, tab, hd, hbad, hok⟩ := hsp
  refine ⟨_, pss_cons (ps_expr (pe_callS GH hr rfl gH FH.kp bH (fun σ => passAt (takes_of rfl rfl rfl rfl) σ) (pa_cons (pe_meth0 (pv 0) T.cl T.mQ GQ (hr.mono (by decide)) bQ .nil pass0) (pa_cons (pv 1) pa_nil))))
    (pss_cons (ps_if (pt_not (pt_val (pe_call GCt (hr.mono (by decide)) rfl gCt FCt.kp bCt .nil pass0 (pa_cons (pv 2) pa_nil)))) (pss_one (ps_raiseE rfl (takes_of rfl rfl rfl rfl) EB (hr.mono (by decide)) rfl (pv 2))) pss_nil)
    (pss_cons (ps_expr (pe_callS GA hr rfl gA FA.kp bA (fun σ => passAt (takes_of rfl rfl rfl rfl) σ) (pa_cons (pe_meth0 (pv 0) T.cl T.mQ GQ (hr.mono (by decide)) bQ .nil pass0) (pa_cons (pv 3) pa_nil)))) pss_never)), ?_⟩
  obtain ⟨dx, qa, ra, ha, hqa, hra⟩ := id tab.ex
  refine ⟨_, rfl, a, dx, _, rfl, ha, rfl, a, ns, tbl, rfl, tab, fun H1 q1 n1 o1 k1 => ?_⟩
  refine ⟨_, rfl, ckH_call o1 (hd.same k1) (fun v e => (hbad v e).same k1) fun er H2 k2 => ?_⟩
  have k12 := k1.trans k2
  refine ⟨_, rfl, g, rfl, ?_⟩
  rcases hok er with ⟨⟨k, rfl, hk⟩ | hN, hf⟩ | ⟨⟨k, rfl, hk⟩, hb, hf⟩
  · exact .inl ⟨k, rfl, _, rfl, by rw [decide_eq_false (by omega : ¬ 0 ≤ k)]; exact iteT ⟨_, rfl, (hf.same k12).up EB⟩⟩
  · exact .inr ⟨hN.same k12, _, rfl, iteT ⟨_, rfl, (hf.same k12).up EB⟩⟩
  · refine .inl ⟨k, rfl, _, rfl, ?_⟩
    rw [decide_eq_true hk]
    refine iteF ⟨_, rfl, a, dx, _, rfl, k12 _ _ ha, rfl, a, ns, tbl, rfl, tab.same k12, fun H5 q5 n5 o5 k5 => ?_⟩
    have k15 := k12.trans k5
    exact ⟨_, rfl, q5, ns, x, rfl, SqL.of o5, .inr ⟨hb.same k15, hf.same k15⟩⟩
end
end L2.TB
/-! a refused call, as _law_tried tells it -/
namespace L2.TB
open PySem PySem.Spec PyProof.Rows LamX
theorem tried_by {cs : List Clz} {c : Clz} {n : Nat} {v : V} {tr : Tr} {H : Hp} {Q : VK} (hc : c ∈ cs) (th : Thg H n v tr) (h : ∀ H' u, Same H H' → FzAt H' (.tu [.one (.str c.tag), tr]) u → Q u H') :
    ∀ E : XK, (∀ cls d H', EchT cs (spFrozen (n + 1)) Q cls d H' → E cls d H') → Flies c.C c.fld v H E := by
  intro E hE d H' s nd hd
  refine hE _ _ _ ⟨c, d, _, v, hc, rfl, rfl, hd, by simp [List.lookup], fun t nt => ?_⟩
  have st := same_new (o := .tup [.str c.tag, v]) nt
  refine ⟨.ref t, .tu [.one (.str c.tag), tr], rfl, .seq (.inr upd_same) rfl (by show 2 < 1000; omega) (fun i x y e1 e2 => ?_), fun H2 u s2 fu => h H2 u ((s.trans st).trans s2) fu⟩
  match i, e1, e2 with
  | 0, e1, e2 =>
    obtain rfl := Option.some.inj e1
    obtain rfl := Option.some.inj e2
    have z : ∀ m, Thg (upd H' t (.tup [.str c.tag, v])) m (.str c.tag) (.one (.str c.tag)) := fun m => by
      induction m with
      | zero => exact .one (.str _)
      | succ m ih => exact .up ih
    exact z n
  | 1, e1, e2 =>
    obtain rfl := Option.some.inj e1
    obtain rfl := Option.some.inj e2
    exact th.same (s.trans st)
  | i + 2, e1, e2 => cases e1
abbrev NEn : List Str := ["table", "names", "odd", "due", "found"]
theorem scEn : FnScope NEn ["table", "names"] (defScope sEng) := ⟨rfl, rfl, rfl, by decide +kernel, rfl, by decide +kernel, by decide +kernel⟩
/-- what a def with lambdas knows of _law_tried and of its own code -/
structure Trd (P : Program) (w : World) (K : PySem.W.Frag) (mg : Str → Option Value) (CK CQ CH CG CN CB : Addr) : Prop where
  O : ClzOk K mg (clz6 CK CQ CH CG CN CB)
  T : ∃ g fd, mg "_law_tried" = some (.ref g) ∧ Fun K "_law_tried" "_law_tried" sTried g fd
  Z : ∃ fz fdz, mg "_law_frozen" = some (.ref fz) ∧ Fun K "_law_frozen" "_law_frozen" sFrozen fz fdz
  M : FzM mg
/-- _law_tried(lambda: body) -/
theorem pe_tried {X : Cx} {CK CQ CH CG CN CB : Addr} (R : Trd X.prog X.w X.K X.mg CK CQ CH CG CN CB) (n : Nat) {T : List (Addr × Str)} {c Pt : Addr} {k : Nat} {params : Arguments} {body : Expr} {scope : Scope} {t : XK → TE} {p lpos pos : Pos} (hg : Gl X "_law_tried")
    (TB : TabB X.base X.mg c Pt) (hcode : X.env.code = .ref c) (hmT : (Pt, X.env.qual ++ "<lambda>") ∈ T) (hu : ∀ p ∈ T, p.1 = Pt → p.2 = X.env.qual ++ "<lambda>") (hr : Room (k + 2) X.A) (hn : n + 1 ≤ k) (L : LamS X.env.scope scope) (hdef : defaultsOf params X.env = ([], []))
    (hbind : ∀ (q : Str) (cl : List (Str × Addr)) (pm cv ctv : Value), bindArgs (PySem.W.kla_fn "<lambda>" q params body scope cl pm cv ctv) ⟨[], []⟩ = pure [])
    (hbody : ∀ (A : Around) (outer : List Env) (s : Shared) (H : Hp) (E : XK) (f c' : Addr), Room k (A.deeper (lamEnv X scope s.heap.objs.size f c')) → PE (lamCx X A outer s H E scope f c') body (t E)) :
    PE X (.Call (.Name "_law_tried" p) [.Lambda params body scope lpos] [] pos) (tLam T (TTr (clz6 CK CQ CH CG CN CB) (spFrozen n)) t) := by
  obtain ⟨g, fd, gT, FT⟩ := R.T
  obtain ⟨fz, fdz, gZ, FZ⟩ := R.Z
  have bT := FT.binds (ps := ["ask"]) fun _ _ _ _ _ _ us hl => match us, hl with | [_], _ => rfl
  have kp := FT.kp
  obtain ⟨oc, od, kV, doc, pm, an, cdv, ct, osl, rfl, lk, hcd⟩ := FT.ex
  have GZ : FnOk X.prog X.w X.K X.mg X.base CX0 (n + 1) fz fdz ["thing"] (spFrozen n) := ok_frozen FZ gZ R.M n
  exact pe_lamcall (Ng := NTd) (a := "ask") hg gT kp lk hcd bT scTd rfl (.inl rfl) (tried_gives (k := n + 1) R.O (hr.mono (by omega)) GZ FZ gZ) TB hcode hmT hu hr L hdef hbind hbody
end L2.TB
/-! refused calls gathered in a list -/
namespace L2.TB
open PySem PySem.Spec PyProof.Rows LamX
theorem FzAt.ext {H H' : Hp} {t : Tr} {v : V} (h : FzAt H t v) (s : ExtN H H') : FzAt H' t v := by
  induction h with
  | one h => exact .one h
  | tu h len sh _ ih => exact .tu (s _ _ h (fun _ z => by cases z)) len sh ih
  | di h at_ => exact .di (s _ _ h (fun _ z => by cases z)) at_
/-- all but the list at q and the tables stays -/
def GrowQ (q : Addr) (H H' : Hp) : Prop := ∀ b o, b ≠ q → H b = some o → (∀ ps, o ≠ .tbl ps) → H' b = some o
theorem GrowQ.trans {q : Addr} {H H1 H2 : Hp} (a : GrowQ q H H1) (b : GrowQ q H1 H2) : GrowQ q H H2 := fun c o n e no => b c o n (a c o n e no) no
theorem GrowQ.of {q : Addr} {H H' : Hp} (s : ExtN H H') : GrowQ q H H' := fun b o _ e no => s b o e no
/-- the list at q holds m of what is frozen tr -/
def FoundAt (H : Hp) (q : Addr) (tr : Tr) (m : Nat) : Prop := ∃ us : List V, H q = some (.lst us) ∧ us.length = m ∧ ∀ u ∈ us, FzAt H tr u
theorem Tabs.list {T : List (Addr × Str)} {H : Hp} {q : Addr} {us vs : List V} (t : Tabs T H) (hq : H q = some (.lst us)) : Tabs T (upd H q (.lst vs)) := fun p hp => by
  obtain ⟨ps, h1, h2, h3⟩ := t p hp
  refine ⟨ps, by rw [upd_ne (fun z => by rw [z, hq] at h1; cases h1)]; exact h1, h2, fun pos cv hc => ?_⟩
  obtain ⟨c, e1, e2⟩ := h3 pos cv hc
  refine ⟨c, e1, ?_⟩
  have ne : c ≠ q := fun z => by
    rw [z, hq] at e2
    have e3 := Option.some.inj e2
    unfold CodeO at e3
    cases e3
  rw [upd_ne ne]
  exact e2
section
variable {K : PySem.W.Frag} {cs : List Clz} {n m j : Nat} {T : List (Addr × Str)} {t : XK → TE} {D : Ends} {σ : L2.St} {H : Hp} {q : Addr} {tr : Tr} {c : Clz} {v : V}
/-- found.append(_law_tried(lambda: ..)) -/
theorem app_read (hσ : σ[j]? = some (some (.ref q))) (FA : FoundAt H q (.tu [.one (.str c.tag), tr]) m) (hm : m < 100) (TH : Tabs T H) (hc : c ∈ cs) (th : ∀ H1, ExtN H H1 → Thg H1 n v tr)
    (call : ∀ (H1 : Hp) (E : XK) (R : VK), ExtN H H1 → Tabs T H1 → Flies c.C c.fld v H1 E → t E σ H1 R) (next : ∀ H', GrowQ q H H' → Tabs T H' → FoundAt H' q (.tu [.one (.str c.tag), tr]) (m + 1) → D.nx σ H') :
    tDrop (tBM K "list" rAppend (tVar j) (tCons (tLam T (TTr cs (spFrozen (n + 1))) t) tNil)) D σ H := by
  obtain ⟨us, hq, lu, fu⟩ := FA
  refine ⟨_, hσ, .inl ⟨rfl, _, SqL.of hq⟩, TH, fun H1 eN T1 E R hE => call H1 E R eN T1 (tried_by hc (th H1 eN) (fun H2 u s2 f2 => ?_) E hE)⟩
  have q1 : H1 q = some (.lst us) := eN _ _ hq (fun _ z => by cases z)
  have q2 : H2 q = some (.lst us) := s2 _ _ q1
  refine ⟨q, us, u, rfl, rfl, q2, by rw [sizeLine_eq]; omega, next _ (fun b o nb e no => by rw [upd_ne nb]; exact s2 _ _ (eN _ _ e no)) (Tabs.list (T1.ext s2) q2) ⟨us ++ [u], upd_same, by simp [lu], fun x hx => ?_⟩⟩
  have keep : ∀ b o, b ≠ q → H2 b = some o → upd H2 q (.lst (us ++ [u])) b = some o := fun b o nb e => by rw [upd_ne nb]; exact e
  rcases List.mem_append.mp hx with hx | hx
  · exact (((fu x hx).ext eN).same s2).but q2 keep
  · obtain rfl : x = u := by simpa using hx
    exact f2.but q2 keep
/-- found = [_law_tried(lambda: ..)] -/
theorem set_read {i : Nat} (TH : Tabs T H) (hc : c ∈ cs) (th : ∀ H1, ExtN H H1 → Thg H1 n v tr)
    (call : ∀ (H1 : Hp) (E : XK) (R : VK), ExtN H H1 → Tabs T H1 → Flies c.C c.fld v H1 E → t E σ H1 R) (next : ∀ H' q, (∀ o, H q = some o → ∃ ps, o = .tbl ps) → ExtN H H' → Tabs T H' → FoundAt H' q (.tu [.one (.str c.tag), tr]) 1 → gName i (.ref q) σ H' D.nx) :
    tAsg (tLst (tCons (tLam T (TTr cs (spFrozen (n + 1))) t) tNil)) (gName i) D σ H := by
  refine ⟨TH, fun H1 eN T1 E R hE => call H1 E R eN T1 (tried_by hc (th H1 eN) (fun H2 u s2 f2 => ?_) E hE)⟩
  refine ⟨(by show 1 ≤ sizeLine; decide), fun q nq => ?_⟩
  have st := same_new (o := .lst [u]) nq
  have e2 : ExtN H (upd H2 q (.lst [u])) := eN.trans (ExtN.of (s2.trans st))
  refine next _ q ?_ e2 (T1.ext (s2.trans st)) ⟨[u], upd_same, rfl, fun x hx => ?_⟩
  · intro o e
    by_cases no : ∀ ps, o ≠ .tbl ps
    · rw [s2 _ _ (eN _ _ e no)] at nq; cases nq
    · exact Classical.byContradiction fun z => no fun ps y => z ⟨ps, y⟩
  · obtain rfl : x = u := by simpa using hx
    exact f2.same st
end
end L2.TB
/-! _law_engine_refused -/
namespace L2.TB
open PySem PySem.Spec PyProof.Rows LamX
def bodyE1 : List Stmt := match (defBody sEng).getD 0 (.Pass ⟨0, 0, 0, 0⟩) with
  | .For _ _ b _ _ => b
  | _ => []
abbrev qEng : Str := "_law_engine_refused" ++ ".<locals>."
def spRf (K : PySem.W.Frag) : Sp := fun _ _ _ _ => False
structure EngF (P : Program) (w : World) (K : PySem.W.Frag) (mg : Str → Option Value) (base : Heap) (C CK CQ CH CG CN CB : Addr) : Prop where
  R : Trd P w K mg CK CQ CH CG CN CB
  told : ∃ f fd, mg "told_by" = some (.ref f) ∧ Fun K "told_by" "told_by" sToldBy f fd ∧ FnOk P w K mg base (L2.CX P w) 5 f fd ["field", "known"] (spRefK K C CK)
  clos : ∃ f fd, mg "is_closed" = some (.ref f) ∧ Fun K "is_closed" "is_closed" sIsClosed f fd ∧ FnOk P w K mg base (L2.CX P w) 5 f fd ["field", "known"] (spRefK K C CK)
  need : ∃ f fd, mg "needless" = some (.ref f) ∧ Fun K "needless" "needless" sNeedless f fd ∧ FnOk P w K mg base (L2.CX P w) 5 f fd ["field", "known", "asked"] (spRefB K C CK CQ)
  thin : ∃ f fd, mg "thinned" = some (.ref f) ∧ Fun K "thinned" "thinned" sThinned f fd ∧ FnOk P w K mg base (L2.CX P w) 5 f fd ["field", "known", "asked"] (spRefB K C CK CQ)
  least : ∃ f fd, mg "least_files" = some (.ref f) ∧ PySem.W.keepIn K (.ref f) = true ∧ Binds K fd ["field", "asked", "of"] [] ∧ FnOk P w K mg base (L2.CX P w) 5 f fd ["field", "asked", "of"] (spRefF K C CK CQ)
  secr : ∃ f fd, mg "secrets" = some (.ref f) ∧ PySem.W.keepIn K (.ref f) = true ∧ Binds K fd ["field", "asked", "of"] [] ∧ FnOk P w K mg base (L2.CX P w) 5 f fd ["field", "asked", "of"] (spRefF K C CK CQ)
  nded : ∃ f fd, mg "needed" = some (.ref f) ∧ PySem.W.keepIn K (.ref f) = true ∧ Binds K fd ["field", "asked", "of"] [] ∧ FnOk P w K mg base (L2.CX P w) 5 f fd ["field", "asked", "of"] (spRefF K C CK CQ)
  idle : ∃ f fd, mg "idle" = some (.ref f) ∧ PySem.W.keepIn K (.ref f) = true ∧ Binds K fd ["field", "asked", "of"] [] ∧ FnOk P w K mg base (L2.CX P w) 5 f fd ["field", "asked", "of"] (spRefF K C CK CQ)
theorem ty_ext {K : PySem.W.Frag} {H H' : Hp} {v : V} {t : String} (h : TyX K H v (.type t)) (s : ExtN H H') : TyX K H' v (.type t) := by
  have k : ∀ {b : Addr} {o : HO}, H b = some o → (∀ ps, o ≠ .tbl ps) → H' b = some o := fun e n => s _ _ e n
  generalize e : Value.type t = u at h
  cases h with
  | base b =>
    refine .base ?_
    cases b with
    | non => exact .non
    | bl x => exact .bl x
    | int i => exact .int i
    | str x => exact .str x
    | flt x => exact .flt x
    | lst q => exact .lst (k q fun _ z => by cases z)
    | frz q => exact .frz (k q fun _ z => by cases z)
    | tup q => exact .tup (k q fun _ z => by cases z)
    | dK q => exact .dK (k q fun _ z => by cases z)
    | dT q => exact .dT (k q fun _ z => by cases z)
    | ins q => cases e
  | byt b => exact .byt b
  | set q => exact .set (k q fun _ z => by cases z)
  | kList q c => exact .kList q c
  | kTuple q c => exact .kTuple q c
  | kDict q c => exact .kDict q c
  | fTuple q => exact .fTuple (k q fun _ z => by cases z)
  | fDict q => exact .fDict (k q fun _ z => by cases z)
theorem Bad.ext {K : PySem.W.Frag} {H H' : Hp} {ns : List Str} {v : V} {r : Option Nat} (h : Bad K H ns v r) (s : ExtN H H') : Bad K H' ns v r := by
  cases h with
  | no h => exact .no (let ⟨t, a, b⟩ := h; ⟨t, ty_ext a s, b⟩)
  | seq h a l => exact .seq (h.imp (fun e => s _ _ e (fun _ z => by cases z)) (fun e => s _ _ e (fun _ z => by cases z))) a l
theorem TabAt.ext {H H' : Hp} {C a : Addr} {ns : List Str} {tbl : List (List Int)} (t : TabAt H C a ns tbl) (s : ExtN H H') : TabAt H' C a ns tbl := by
  obtain ⟨dx, qa, ra, h1, h2, ps, o, r⟩ := t.ex
  exact ⟨dx, qa, ra, s _ _ h1 (fun _ z => by cases z), s _ _ h2 (fun _ z => by cases z), ps, s _ _ o (fun _ z => by cases z), Paired.mapP r fun p vs h => ⟨s _ _ h.1 (fun _ z => by cases z), h.2⟩⟩
/-- nothing stands at q but a table -/
def Fresh (H : Hp) (q : Addr) : Prop := ∀ o, H q = some o → ∃ ps, o = .tbl ps
theorem grow_on {H0 H1 H2 : Hp} {q : Addr} (f : Fresh H0 q) (e : ExtN H0 H1) (g : GrowQ q H1 H2) : ExtN H0 H2 := fun b o h no => g b o (fun z => by
  rw [z] at h
  obtain ⟨ps, y⟩ := f o h
  exact no ps y) (e b o h no) no
section
variable {P : Program} {w : World} {K : PySem.W.Frag} {mg : Str → Option Value} {base : Heap} {f C CK CQ CH CG CN CB c Pt : Addr} {T : List (Addr × Str)} {A : Around} {outer : List Env} {s : Shared} {H : Hp} {E : XK}
theorem eng_1 (F : EngF P w K mg base C CK CQ CH CG CN CB) (TB : TabB base mg c Pt) (hm : (Pt, (envOfC "_law_engine_refused" (defScope sEng) s.heap.objs.size f (.ref c)).qual ++ "<lambda>") ∈ T) (hu : ∀ p ∈ T, p.1 = Pt → p.2 = (envOfC "_law_engine_refused" (defScope sEng) s.heap.objs.size f (.ref c)).qual ++ "<lambda>")
    (hr : Room 8 (A.deeper (envOfC "_law_engine_refused" (defScope sEng) s.heap.objs.size f (.ref c)))) {rest : List Stmt} {u : TS} (hrest : PSs (cxOf CX0 P w K mg base NEn "_law_engine_refused" (defScope sEng) f (.ref c) A outer s H E).nox rest u) :
    ∃ t, PSs (cxOf CX0 P w K mg base NEn "_law_engine_refused" (defScope sEng) f (.ref c) A outer s H E).nox (bodyE1.take 8 ++ rest) t ∧ ∀ (D : Ends) (H0 : Hp) (a nm : Addr) (ns : List Str) (tbl : List (List Int)) (v : V) (i : Nat) (s3 s4 : Option V),
      TabAt H0 C a ns tbl → H0 nm = some (.lst (ns.map V.str)) → ns ≠ [] → Bad K H0 ns v (some i) → Bad K H0 ns (if v = .non then .int 5 else v) (some i) → Tabs T H0 →
      (∀ H' q, Fresh H0 q → ExtN H0 H' → Tabs T H' → FoundAt H' q (.tu [.one (.str "known"), .one (.int i)]) 8 → u D [some (.ref a), some (.ref nm), some v, s3, some (.ref q)] H') →
      t D [some (.ref a), some (.ref nm), some v, s3, s4] H0 := by
  obtain ⟨fT, fdT, gT, FT, GT⟩ := F.told
  obtain ⟨fC, fdC, gC, FC, GC⟩ := F.clos
  obtain ⟨fN, fdN, gN, FN, GN⟩ := F.need
  obtain ⟨fH, fdH, gH, FH, GH⟩ := F.thin
  obtain ⟨f1, fd1, g1, k1, b1, G1⟩ := F.least
  obtain ⟨f2, fd2, g2, k2, b2, G2⟩ := F.secr
  obtain ⟨f3, fd3, g3, k3, b3, G3⟩ := F.nded
  obtain ⟨f4, fd4, g4, k4, b4, G4⟩ := F.idle
  have bT := FT.binds (ps := ["field", "known"]) fun _ _ _ _ _ _ us hl => match us, hl with | [_, _], _ => rfl
  have bC := FC.binds (ps := ["field", "known"]) fun _ _ _ _ _ _ us hl => match us, hl with | [_, _], _ => rfl
  have bN := FN.binds (ps := ["field", "known", "asked"]) fun _ _ _ _ _ _ us hl => match us, hl with | [_, _, _], _ => rfl
  have bH := FH.binds (ps := ["field", "known", "asked"]) fun _ _ _ _ _ _ us hl => match us, hl with | [_, _, _], _ => rfl
  have nd := scEn.nd
  refine ⟨_, pss_cons (ps_asg (pe_lst (pa_cons (pe_tried F.R 2 rfl TB rfl hm hu hr (by decide) (lamS_by (by show lamSB (defScope sEng) _ = true; decide +kernel)) rfl (fun _ _ _ _ _ => rfl) (fun A outer s H E f c' hr => pe_callS GT (hr.mono (by decide)) rfl gT FT.kp bT (fun σ => passAt (takes_of rfl rfl rfl rfl) σ) (pa_cons (pv 0) (pa_cons (pv 2) pa_nil)))) pa_nil)) (pg_name (i := 4) nd rfl (Or.inl rfl)))
    (pss_cons (ps_expr (pe_bm PySem.F.plainAttrs_list PySem.F.slot_list_append PySem.F.type_list_append mt_append (pv 4) (pa_cons (pe_tried F.R 2 rfl TB rfl hm hu hr (by decide) (lamS_by (by show lamSB (defScope sEng) _ = true; decide +kernel)) rfl (fun _ _ _ _ _ => rfl) (fun A outer s H E f c' hr => pe_callS GC (hr.mono (by decide)) rfl gC FC.kp bC (fun σ => passAt (takes_of rfl rfl rfl rfl) σ) (pa_cons (pv 0) (pa_cons (pv 2) pa_nil)))) pa_nil)))
    (pss_cons (ps_expr (pe_bm PySem.F.plainAttrs_list PySem.F.slot_list_append PySem.F.type_list_append mt_append (pv 4) (pa_cons (pe_tried F.R 2 rfl TB rfl hm hu hr (by decide) (lamS_by (by show lamSB (defScope sEng) _ = true; decide +kernel)) rfl (fun _ _ _ _ _ => rfl) (fun A outer s H E f c' hr => pe_callS GN (hr.mono (by decide)) rfl gN FN.kp bN (fun σ => passAt (takes_of rfl rfl rfl rfl) σ) (pa_cons (pv 0) (pa_cons (pv 2) (pa_cons pe_non pa_nil))))) pa_nil)))
    (pss_cons (ps_expr (pe_bm PySem.F.plainAttrs_list PySem.F.slot_list_append PySem.F.type_list_append mt_append (pv 4) (pa_cons (pe_tried F.R 2 rfl TB rfl hm hu hr (by decide) (lamS_by (by show lamSB (defScope sEng) _ = true; decide +kernel)) rfl (fun _ _ _ _ _ => rfl) (fun A outer s H E f c' hr => pe_callS GH (hr.mono (by decide)) rfl gH FH.kp bH (fun σ => passAt (takes_of rfl rfl rfl rfl) σ) (pa_cons (pv 0) (pa_cons (pv 2) (pa_cons pe_non pa_nil))))) pa_nil)))
    (pss_cons (ps_expr (pe_bm PySem.F.plainAttrs_list PySem.F.slot_list_append PySem.F.type_list_append mt_append (pv 4) (pa_cons (pe_tried F.R 2 rfl TB rfl hm hu hr (by decide) (lamS_by (by show lamSB (defScope sEng) _ = true; decide +kernel)) rfl (fun _ _ _ _ _ => rfl) (fun A outer s H E f c' hr => pe_callS G1 (hr.mono (by decide)) rfl g1 k1 b1 (fun σ => passAt (takes_of rfl rfl rfl rfl) σ) (pa_cons (pv 0) (pa_cons (pe_ix (r := rIxL K) ix_list (pv 1) pe_int (fun _ _ => rfl)) (pa_cons (pe_ifExp (pt_cmp (pc_notN (pv 2))) (pv 2) pe_int) pa_nil))))) pa_nil)))
    (pss_cons (ps_expr (pe_bm PySem.F.plainAttrs_list PySem.F.slot_list_append PySem.F.type_list_append mt_append (pv 4) (pa_cons (pe_tried F.R 2 rfl TB rfl hm hu hr (by decide) (lamS_by (by show lamSB (defScope sEng) _ = true; decide +kernel)) rfl (fun _ _ _ _ _ => rfl) (fun A outer s H E f c' hr => pe_callS G2 (hr.mono (by decide)) rfl g2 k2 b2 (fun σ => passAt (takes_of rfl rfl rfl rfl) σ) (pa_cons (pv 0) (pa_cons (pe_ix (r := rIxL K) ix_list (pv 1) pe_int (fun _ _ => rfl)) (pa_cons (pe_ifExp (pt_cmp (pc_notN (pv 2))) (pv 2) pe_int) pa_nil))))) pa_nil)))
    (pss_cons (ps_expr (pe_bm PySem.F.plainAttrs_list PySem.F.slot_list_append PySem.F.type_list_append mt_append (pv 4) (pa_cons (pe_tried F.R 2 rfl TB rfl hm hu hr (by decide) (lamS_by (by show lamSB (defScope sEng) _ = true; decide +kernel)) rfl (fun _ _ _ _ _ => rfl) (fun A outer s H E f c' hr => pe_callS G3 (hr.mono (by decide)) rfl g3 k3 b3 (fun σ => passAt (takes_of rfl rfl rfl rfl) σ) (pa_cons (pv 0) (pa_cons (pe_ix (r := rIxL K) ix_list (pv 1) pe_int (fun _ _ => rfl)) (pa_cons (pe_ifExp (pt_cmp (pc_notN (pv 2))) (pv 2) pe_int) pa_nil))))) pa_nil)))
    (pss_cons (ps_expr (pe_bm PySem.F.plainAttrs_list PySem.F.slot_list_append PySem.F.type_list_append mt_append (pv 4) (pa_cons (pe_tried F.R 2 rfl TB rfl hm hu hr (by decide) (lamS_by (by show lamSB (defScope sEng) _ = true; decide +kernel)) rfl (fun _ _ _ _ _ => rfl) (fun A outer s H E f c' hr => pe_callS G4 (hr.mono (by decide)) rfl g4 k4 b4 (fun σ => passAt (takes_of rfl rfl rfl rfl) σ) (pa_cons (pv 0) (pa_cons (pe_ix (r := rIxL K) ix_list (pv 1) pe_int (fun _ _ => rfl)) (pa_cons (pe_ifExp (pt_cmp (pc_notN (pv 2))) (pv 2) pe_int) pa_nil))))) pa_nil))) hrest))))))), ?_⟩
  intro D H0 a nm ns tbl v i s3 s4 tab onm nn hB hB5 T0 fin
  have hc : (⟨"BadKnown", CK, "known", "index"⟩ : Clz) ∈ clz6 CK CQ CH CG CN CB := by simp [clz6]
  have th : ∀ H1 : Hp, Thg H1 1 (.int (i : Nat)) (.one (.int (i : Nat))) := fun H1 => .up (.one (.int _))
  obtain ⟨y, ns', rfl⟩ : ∃ y ns', ns = y :: ns' := by
    cases ns with
    | nil => exact absurd rfl nn
    | cons y r => exact ⟨y, r, rfl⟩
  refine set_read (c := ⟨"BadKnown", CK, "known", "index"⟩) (v := .int (i : Nat)) (tr := .one (.int (i : Nat))) T0 hc (fun H1 _ => th H1) (fun H1 E R e1 T1 hf => ⟨_, rfl, _, rfl, a, _, tbl, v, i, rfl, tab.ext e1, hB.ext e1, hf⟩) fun H1 q fq e1 T1 F1 => ?_
  refine app_read (c := ⟨"BadKnown", CK, "known", "index"⟩) (v := .int (i : Nat)) (tr := .one (.int (i : Nat))) rfl F1 (by omega) T1 hc (fun H1 _ => th H1) (fun H3 E R e3 T3 hf => ⟨_, rfl, _, rfl, a, _, tbl, v, i, rfl, tab.ext (e1.trans e3), hB.ext (e1.trans e3), hf⟩) fun H2 g2 T2 F2 => ?_
  have e2 := grow_on fq e1 g2
  refine app_read (c := ⟨"BadKnown", CK, "known", "index"⟩) (v := .int (i : Nat)) (tr := .one (.int (i : Nat))) rfl F2 (by omega) T2 hc (fun H1 _ => th H1) (fun H3 E R e3 T3 hf => ⟨_, rfl, _, rfl, a, _, tbl, v, .non, some i, rfl, tab.ext (e2.trans e3), hB.ext (e2.trans e3), .inl ⟨i, rfl, hf⟩⟩) fun H3 g3 T3 F3 => ?_
  have e3 := grow_on fq e2 g3
  refine app_read (c := ⟨"BadKnown", CK, "known", "index"⟩) (v := .int (i : Nat)) (tr := .one (.int (i : Nat))) rfl F3 (by omega) T3 hc (fun H1 _ => th H1) (fun H4 E R e4 T4 hf => ⟨_, rfl, _, rfl, a, _, tbl, v, .non, some i, rfl, tab.ext (e3.trans e4), hB.ext (e3.trans e4), .inl ⟨i, rfl, hf⟩⟩) fun H4 g4 T4 F4 => ?_
  have e4 := grow_on fq e3 g4
  have ay : atI (V.str y :: ns'.map V.str) 0 = some (.str y) := atI_nat (xs := V.str y :: ns'.map V.str) (j := 0) (v := .str y) rfl
  have onm' : H0 nm = some (.lst (V.str y :: ns'.map V.str)) := onm
  by_cases hv : v = .non
  · rw [if_pos hv] at hB5
    refine app_read (c := ⟨"BadKnown", CK, "known", "index"⟩) (v := .int (i : Nat)) (tr := .one (.int (i : Nat))) rfl F4 (by omega) T4 hc (fun H1 _ => th H1) (fun H9 E R e9 T9 hf => ⟨_, rfl, _, rfl, nm, _, 0, .str y, rfl, rfl, SqL.of ((e4.trans e9) _ _ onm' (fun _ z => by cases z)), ay, _, rfl, _, rfl, by rw [hv]; exact iteF ⟨a, _, tbl, .str y, .int 5, rfl, tab.ext (e4.trans e9), .inr ⟨y, i, rfl, by simp, (by intro z; cases z), hB5.ext (e4.trans e9), hf⟩⟩⟩) fun H5 g5 T5 F5 => ?_
    have e5 := grow_on fq e4 g5
    refine app_read (c := ⟨"BadKnown", CK, "known", "index"⟩) (v := .int (i : Nat)) (tr := .one (.int (i : Nat))) rfl F5 (by omega) T5 hc (fun H1 _ => th H1) (fun H9 E R e9 T9 hf => ⟨_, rfl, _, rfl, nm, _, 0, .str y, rfl, rfl, SqL.of ((e5.trans e9) _ _ onm' (fun _ z => by cases z)), ay, _, rfl, _, rfl, by rw [hv]; exact iteF ⟨a, _, tbl, .str y, .int 5, rfl, tab.ext (e5.trans e9), .inr ⟨y, i, rfl, by simp, (by intro z; cases z), hB5.ext (e5.trans e9), hf⟩⟩⟩) fun H6 g6 T6 F6 => ?_
    have e6 := grow_on fq e5 g6
    refine app_read (c := ⟨"BadKnown", CK, "known", "index"⟩) (v := .int (i : Nat)) (tr := .one (.int (i : Nat))) rfl F6 (by omega) T6 hc (fun H1 _ => th H1) (fun H9 E R e9 T9 hf => ⟨_, rfl, _, rfl, nm, _, 0, .str y, rfl, rfl, SqL.of ((e6.trans e9) _ _ onm' (fun _ z => by cases z)), ay, _, rfl, _, rfl, by rw [hv]; exact iteF ⟨a, _, tbl, .str y, .int 5, rfl, tab.ext (e6.trans e9), .inr ⟨y, i, rfl, by simp, (by intro z; cases z), hB5.ext (e6.trans e9), hf⟩⟩⟩) fun H7 g7 T7 F7 => ?_
    have e7 := grow_on fq e6 g7
    refine app_read (c := ⟨"BadKnown", CK, "known", "index"⟩) (v := .int (i : Nat)) (tr := .one (.int (i : Nat))) rfl F7 (by omega) T7 hc (fun H1 _ => th H1) (fun H9 E R e9 T9 hf => ⟨_, rfl, _, rfl, nm, _, 0, .str y, rfl, rfl, SqL.of ((e7.trans e9) _ _ onm' (fun _ z => by cases z)), ay, _, rfl, _, rfl, by rw [hv]; exact iteF ⟨a, _, tbl, .str y, .int 5, rfl, tab.ext (e7.trans e9), .inr ⟨y, i, rfl, by simp, (by intro z; cases z), hB5.ext (e7.trans e9), hf⟩⟩⟩) fun H8 g8 T8 F8 => ?_
    have e8 := grow_on fq e7 g8
    exact fin H8 q fq e8 T8 F8
  · rw [if_neg hv] at hB5
    refine app_read (c := ⟨"BadKnown", CK, "known", "index"⟩) (v := .int (i : Nat)) (tr := .one (.int (i : Nat))) rfl F4 (by omega) T4 hc (fun H1 _ => th H1) (fun H9 E R e9 T9 hf => ⟨_, rfl, _, rfl, nm, _, 0, .str y, rfl, rfl, SqL.of ((e4.trans e9) _ _ onm' (fun _ z => by cases z)), ay, _, rfl, _, rfl, by rw [decide_eq_false hv]; exact iteT ⟨_, rfl, a, _, tbl, .str y, v, rfl, tab.ext (e4.trans e9), .inr ⟨y, i, rfl, by simp, hv, hB5.ext (e4.trans e9), hf⟩⟩⟩) fun H5 g5 T5 F5 => ?_
    have e5 := grow_on fq e4 g5
    refine app_read (c := ⟨"BadKnown", CK, "known", "index"⟩) (v := .int (i : Nat)) (tr := .one (.int (i : Nat))) rfl F5 (by omega) T5 hc (fun H1 _ => th H1) (fun H9 E R e9 T9 hf => ⟨_, rfl, _, rfl, nm, _, 0, .str y, rfl, rfl, SqL.of ((e5.trans e9) _ _ onm' (fun _ z => by cases z)), ay, _, rfl, _, rfl, by rw [decide_eq_false hv]; exact iteT ⟨_, rfl, a, _, tbl, .str y, v, rfl, tab.ext (e5.trans e9), .inr ⟨y, i, rfl, by simp, hv, hB5.ext (e5.trans e9), hf⟩⟩⟩) fun H6 g6 T6 F6 => ?_
    have e6 := grow_on fq e5 g6
    refine app_read (c := ⟨"BadKnown", CK, "known", "index"⟩) (v := .int (i : Nat)) (tr := .one (.int (i : Nat))) rfl F6 (by omega) T6 hc (fun H1 _ => th H1) (fun H9 E R e9 T9 hf => ⟨_, rfl, _, rfl, nm, _, 0, .str y, rfl, rfl, SqL.of ((e6.trans e9) _ _ onm' (fun _ z => by cases z)), ay, _, rfl, _, rfl, by rw [decide_eq_false hv]; exact iteT ⟨_, rfl, a, _, tbl, .str y, v, rfl, tab.ext (e6.trans e9), .inr ⟨y, i, rfl, by simp, hv, hB5.ext (e6.trans e9), hf⟩⟩⟩) fun H7 g7 T7 F7 => ?_
    have e7 := grow_on fq e6 g7
    refine app_read (c := ⟨"BadKnown", CK, "known", "index"⟩) (v := .int (i : Nat)) (tr := .one (.int (i : Nat))) rfl F7 (by omega) T7 hc (fun H1 _ => th H1) (fun H9 E R e9 T9 hf => ⟨_, rfl, _, rfl, nm, _, 0, .str y, rfl, rfl, SqL.of ((e7.trans e9) _ _ onm' (fun _ z => by cases z)), ay, _, rfl, _, rfl, by rw [decide_eq_false hv]; exact iteT ⟨_, rfl, a, _, tbl, .str y, v, rfl, tab.ext (e7.trans e9), .inr ⟨y, i, rfl, by simp, hv, hB5.ext (e7.trans e9), hf⟩⟩⟩) fun H8 g8 T8 F8 => ?_
    have e8 := grow_on fq e7 g8
    exact fin H8 q fq e8 T8 F8
end
end L2.TB
/-! found != [('known', due)] * 8 -/
namespace L2.TB
open PySem PySem.Spec PyProof.Rows LamX
theorem fz_dp {K : PySem.W.Frag} {H : Hp} {s : Str} {i : Int} {u : V} (h : FzAt H (.tu [.one (.str s), .one (.int i)]) u) : Dp K H u (.tuple [.str s, .int i]) := by
  generalize e : Tr.tu [.one (.str s), .one (.int i)] = t at h
  cases h with
  | one h => cases e
  | di h a => cases e
  | @tu a us ts h len sh al =>
    cases e
    match us, len with
    | [x, y], _ =>
      have h0 := al 0 x _ rfl rfl
      have h1 := al 1 y _ rfl rfl
      cases h0
      cases h1
      exact .tup (SqT.of h) (.cons (.str s) (.cons (.int i) .nil))
theorem found_dp {K : PySem.W.Frag} {H : Hp} {s : Str} {i : Int} : ∀ us : List V, (∀ u ∈ us, FzAt H (.tu [.one (.str s), .one (.int i)]) u) → DpAll K H us (List.replicate us.length (.tuple [.str s, .int i]))
  | [], _ => .nil
  | u :: us, h => .cons (fz_dp (h u (by simp))) (found_dp us fun x hx => h x (by simp [hx]))
theorem pair_shape {s : Str} {i : Int} (hs : PyData.strOk s = true) : ∀ n : Nat, PyData.canLayAll0 (List.replicate n (PyData.tuple [.str s, .int i])) = true ∧ PyData.depthAll (List.replicate n (PyData.tuple [.str s, .int i])) ≤ 2
  | 0 => ⟨by simp [PyData.canLayAll0], by simp [PyData.depthAll]⟩
  | n + 1 => by
    obtain ⟨h1, h2⟩ := pair_shape hs (i := i) n
    rw [List.replicate_succ]
    exact ⟨by simp [PyData.canLayAll0, PyData.canLay0, hs, h1], by simp [PyData.depthAll, PyData.depth]; omega⟩
theorem pairs_shaped {s : Str} {i : Int} (hs : PyData.strOk s = true) (n : Nat) : SeqAt.shaped (.list (List.replicate n (PyData.tuple [.str s, .int i]))) = true := by
  obtain ⟨h1, h2⟩ := pair_shape hs (i := i) n
  unfold SeqAt.shaped
  rw [Bool.and_eq_true]
  refine ⟨by simp [PyData.canLay0, h1], decide_eq_true ?_⟩
  simp only [PyData.depth]
  omega
section
variable {P : Program} {w : World} {K : PySem.W.Frag} {mg : Str → Option Value} {base : Heap} {f c : Addr} {A : Around} {outer : List Env} {s : Shared} {H : Hp} {E : XK}
theorem eng_2 (hr : Room 8 (A.deeper (envOfC "_law_engine_refused" (defScope sEng) s.heap.objs.size f (.ref c)))) :
    ∃ t, PSs (cxOf CX0 P w K mg base NEn "_law_engine_refused" (defScope sEng) f (.ref c) A outer s H E).nox (bodyE1.drop 8) t ∧ ∀ (D : Ends) (H0 : Hp) (i : Nat) (q : Addr) (s0 s1 s2 : Option V), FoundAt H0 q (.tu [.one (.str "known"), .one (.int i)]) 8 →
      (∀ H', Same H0 H' → D.nx [s0, s1, s2, some (.int i), some (.ref q)] H') → t D [s0, s1, s2, some (.int i), some (.ref q)] H0 := by
  have hu64 := hr.units
  refine ⟨_, pss_one (ps_if (pt_cmpR (r := rNeD K) (op_neD hu64) (pv 4) (pe_op op_rep (pe_lst (pa_cons (pe_tup (pa_cons pe_str (pa_cons (pv 3) pa_nil))) pa_nil)) pe_int) (nomark _)) (pss_one ps_never) pss_nil), ?_⟩
  intro D H0 i q s0 s1 s2 F fin
  obtain ⟨us, hq, lu, fu⟩ := F
  refine ⟨_, rfl, _, rfl, (by show 2 ≤ sizeLine; decide), fun t nt => ⟨(by show 1 ≤ sizeLine; decide), fun p np => ?_⟩⟩
  have st := same_new (o := .tup [.str "known", .int (i : Nat)]) nt
  have sp := same_new (o := .lst [.ref t]) np
  refine ⟨p, 8, [.ref t], rfl, rfl, upd_same, by decide, by decide, (by show 1 * 8 ≤ sizeLine; rw [sizeLine_eq]; omega), fun p2 np2 => ?_⟩
  have s2 := same_new (o := .lst (List.replicate (Int.toNat 8) [V.ref t]).flatten) np2
  have all := (st.trans sp).trans s2
  have d1 := Dp.lst (K := K) (SqL.of (all _ _ hq)) (found_dp us fun u hu => (fu u hu).same all)
  rw [lu] at d1
  have ot : ∀ u ∈ List.replicate 8 (V.ref t), FzAt (upd (upd (upd H0 t (.tup [.str "known", .int (i : Nat)])) p (.lst [.ref t])) p2 (.lst (List.replicate (Int.toNat 8) [V.ref t]).flatten)) (.tu [.one (.str "known"), .one (.int (i : Nat))]) u := fun u hu => by
    obtain rfl := List.eq_of_mem_replicate hu
    refine .tu ((sp.trans s2) _ _ upd_same) rfl (by show 2 < 1000; omega) fun j x y e1 e2 => ?_
    match j, e1, e2 with
    | 0, e1, e2 =>
      obtain rfl := Option.some.inj e1
      obtain rfl := Option.some.inj e2
      exact .one (.str _)
    | 1, e1, e2 =>
      obtain rfl := Option.some.inj e1
      obtain rfl := Option.some.inj e2
      exact .one (.int _)
    | j + 2, e1, e2 => cases e1
  have d2 := Dp.lst (K := K) (SqL.of (show _ = some (HO.lst (List.replicate 8 (V.ref t))) from upd_same)) (found_dp _ ot)
  have hs : PyData.strOk "known" = true := by decide +kernel
  refine ⟨_, _, d1, d2, pairs_shaped hs 8, pairs_shaped hs _, ?_⟩
  have e : PyData.eqv (.list (List.replicate 8 (PyData.tuple [.str "known", .int (i : Nat)]))) (.list (List.replicate 8 (PyData.tuple [.str "known", .int (i : Nat)]))) = true := SeqAt.eqv_refl _ (by
    have z := pairs_shaped (s := "known") (i := (i : Nat)) hs 8
    exact (Bool.and_eq_true_iff.mp z).1)
  refine ⟨_, rfl, ?_⟩
  show if (!PyData.eqv (.list (List.replicate 8 (PyData.tuple [.str "known", .int (i : Nat)]))) (.list (List.replicate 8 (PyData.tuple [.str "known", .int (i : Nat)])))) = true then _ else _
  rw [e]
  exact iteF (fin _ all)
end
end L2.TB
/-! the engine's first walk -/
namespace L2.TB
open PySem PySem.Spec PyProof.Rows LamX
theorem badAt_five (full : List Str) : ∀ (xs us : List Str) (n : Nat), (∀ x ∈ xs, x ∈ full) → (us ++ xs).Nodup → badAt full (xs.map V.str ++ [.int 5]) us n = some (n + xs.length)
  | [], us, n, _, _ => by simp [badAt, strOf]
  | x :: xs, us, n, h, nd => by
    have nx : x ∉ us := fun m => by
      rw [List.nodup_append] at nd
      exact nd.2.2 x m x (by simp) rfl
    have e : us ++ x :: xs = (us ++ [x]) ++ xs := by simp
    rw [e] at nd
    have ih := badAt_five full xs (us ++ [x]) (n + 1) (fun z hz => h z (by simp [hz])) nd
    show (if x ∈ full ∧ x ∉ us then badAt full (xs.map V.str ++ [.int 5]) (us ++ [x]) (n + 1) else some n) = _
    rw [if_pos ⟨h x (by simp), nx⟩, ih]
    simp
    omega
section
variable {P : Program} {w : World} {K : PySem.W.Frag} {mg : Str → Option Value} {base : Heap} {f C CK CQ CH CG CN CB c Pt : Addr} {T : List (Addr × Str)} {A : Around} {outer : List Env} {s : Shared} {H : Hp} {E : XK}
/-- one of the walk's pairs -/
structure OddAt (K : PySem.W.Frag) (H : Hp) (ns : List Str) (t : Addr) (v : V) (i : Nat) : Prop where
  o : H t = some (.tup [v, .int (i : Nat)])
  b : Bad K H ns v (some i)
  b5 : Bad K H ns (if v = .non then .int 5 else v) (some i)
theorem OddAt.ext {K : PySem.W.Frag} {H H' : Hp} {ns : List Str} {t : Addr} {v : V} {i : Nat} (h : OddAt K H ns t v i) (s : ExtN H H') : OddAt K H' ns t v i := ⟨s _ _ h.o (fun _ z => by cases z), h.b.ext s, h.b5.ext s⟩
theorem eng_walk (F : EngF P w K mg base C CK CQ CH CG CN CB) (TB : TabB base mg c Pt) (hm : (Pt, (envOfC "_law_engine_refused" (defScope sEng) s.heap.objs.size f (.ref c)).qual ++ "<lambda>") ∈ T) (hu : ∀ p ∈ T, p.1 = Pt → p.2 = (envOfC "_law_engine_refused" (defScope sEng) s.heap.objs.size f (.ref c)).qual ++ "<lambda>")
    (nN : mg "len" = none) (hr : Room 8 (A.deeper (envOfC "_law_engine_refused" (defScope sEng) s.heap.objs.size f (.ref c)))) :
    ∃ t, PS (cxOf CX0 P w K mg base NEn "_law_engine_refused" (defScope sEng) f (.ref c) A outer s H E).nox ((defBody sEng).getD 0 (.Pass ⟨0, 0, 0, 0⟩)) t ∧ ∀ (D : Ends) (H0 : Hp) (a nm : Addr) (ns : List Str) (tbl : List (List Int)) (s2 s3 s4 : Option V), TabAt H0 C a ns tbl → H0 nm = some (.lst (ns.map V.str)) → ns ≠ [] → ns.Nodup → ns.length < 900 → Tabs T H0 →
      (∀ H' s2 s3 s4, ExtN H0 H' → Tabs T H' → D.nx [some (.ref a), some (.ref nm), s2, s3, s4] H') → t D [some (.ref a), some (.ref nm), s2, s3, s4] H0 := by
  obtain ⟨t2, p2, r2⟩ := eng_2 (P := P) (w := w) (K := K) (mg := mg) (base := base) (outer := outer) (H := H) (E := E) hr
  obtain ⟨t1, p1, r1⟩ := eng_1 F TB hm hu hr p2
  have nd := scEn.nd
  refine ⟨_, ps_for PassesOwn.never rfl (pi_list (pe_lst (pa_cons (pe_tup (pa_cons pe_non (pa_cons pe_int pa_nil))) (pa_cons (pe_tup (pa_cons (pe_ix (r := rIxL K) ix_list (pv 1) pe_int (fun _ _ => rfl)) (pa_cons pe_int pa_nil)))
    (pa_cons (pe_tup (pa_cons pe_dnewK (pa_cons pe_int pa_nil))) (pa_cons (pe_tup (pa_cons (pe_lst (pa_cons (pe_ix (r := rIxL K) ix_list (pv 1) pe_int (fun _ _ => rfl)) (pa_cons (pe_ix (r := rIxL K) ix_list (pv 1) pe_int (fun _ _ => rfl)) pa_nil))) (pa_cons pe_int pa_nil)))
    (pa_cons (pe_tup (pa_cons (pe_op op_cat (pv 1) (pe_lst (pa_cons pe_int pa_nil))) (pa_cons (pe_callB call_len_seq rfl nN boot_len (pa_cons (pv 1) pa_nil)) pa_nil))) pa_nil)))))))
    (pg_tup rfl (pgs_cons (pg_name (i := 2) nd rfl (Or.inr rfl)) (pgs_cons (pg_name (i := 3) nd rfl (Or.inl rfl)) pgs_nil))) p1, ?_⟩
  intro D H0 a nm ns tbl s2 s3 s4 tab onm nn nds sh T0 fin
  obtain ⟨y, ns', rfl⟩ : ∃ y ns', ns = y :: ns' := by
    cases ns with
    | nil => exact absurd rfl nn
    | cons y r => exact ⟨y, r, rfl⟩
  have ay : atI (V.str y :: ns'.map V.str) 0 = some (.str y) := atI_nat (xs := V.str y :: ns'.map V.str) (j := 0) (v := .str y) rfl
  have onm' : H0 nm = some (.lst (V.str y :: ns'.map V.str)) := onm
  refine ⟨(by show 2 ≤ sizeLine; decide), fun t1 n1 => ?_⟩
  have k1 := same_new (o := .tup [.non, .int 0]) n1
  have o1 : upd H0 t1 (.tup [.non, .int 0]) t1 = some (.tup [.non, .int 0]) := upd_same
  generalize upd H0 t1 (.tup [.non, .int 0]) = H1 at k1 o1
  refine ⟨_, rfl, nm, _, 0, .str y, rfl, rfl, SqL.of (k1 _ _ onm'), ay, (by show 2 ≤ sizeLine; decide), fun t2 n2 => ?_⟩
  have k2 := same_new (o := .tup [.str y, .int 0]) n2
  have o2 : upd H1 t2 (.tup [.str y, .int 0]) t2 = some (.tup [.str y, .int 0]) := upd_same
  generalize upd H1 t2 (.tup [.str y, .int 0]) = H2 at k2 o2
  refine fun d nd3 => ⟨(by show 2 ≤ sizeLine; decide), fun t3 n3 => ?_⟩
  have kd := same_new (o := .dK []) nd3
  have od : upd H2 d (.dK []) d = some (.dK []) := upd_same
  generalize upd H2 d (.dK []) = H3 at kd od n3
  have k3 := same_new (o := .tup [.ref d, .int 0]) n3
  have o3 : upd H3 t3 (.tup [.ref d, .int 0]) t3 = some (.tup [.ref d, .int 0]) := upd_same
  generalize upd H3 t3 (.tup [.ref d, .int 0]) = H4 at k3 o3
  have k04 := ((k1.trans k2).trans kd).trans k3
  refine ⟨_, rfl, nm, _, 0, .str y, rfl, rfl, SqL.of (k04 _ _ onm'), ay, _, rfl, nm, _, 0, .str y, rfl, rfl, SqL.of (k04 _ _ onm'), ay, (by show 2 ≤ sizeLine; decide), fun l nl => ⟨(by show 2 ≤ sizeLine; decide), fun t4 n4 => ?_⟩⟩
  have kl := same_new (o := .lst [.str y, .str y]) nl
  have ol : upd H4 l (.lst [.str y, .str y]) l = some (.lst [.str y, .str y]) := upd_same
  generalize upd H4 l (.lst [.str y, .str y]) = H5 at kl ol n4
  have k4 := same_new (o := .tup [.ref l, .int 1]) n4
  have o4 : upd H5 t4 (.tup [.ref l, .int 1]) t4 = some (.tup [.ref l, .int 1]) := upd_same
  generalize upd H5 t4 (.tup [.ref l, .int 1]) = H6 at k4 o4
  have k06 := (k04.trans kl).trans k4
  refine ⟨_, rfl, (by show 1 ≤ sizeLine; decide), fun l5 n5 => ⟨nm, l5, (y :: ns').map V.str, [.int 5], rfl, rfl, same_new n5 _ _ (k06 _ _ onm), upd_same, (by rw [sizeLine_eq, List.length_map]; simp at sh ⊢; omega), fun l6 n6 => ?_⟩⟩
  have k5 := same_new (o := .lst [.int 5]) n5
  generalize upd H6 l5 (.lst [.int 5]) = H7 at k5 n6
  have k6 := same_new (o := .lst ((y :: ns').map V.str ++ [.int 5])) n6
  have o6 : upd H7 l6 (.lst ((y :: ns').map V.str ++ [.int 5])) l6 = some (.lst ((y :: ns').map V.str ++ [.int 5])) := upd_same
  generalize upd H7 l6 (.lst ((y :: ns').map V.str ++ [.int 5])) = H8 at k6 o6
  have k08 := (k06.trans k5).trans k6
  refine ⟨_, rfl, nm, _, rfl, .inl (SqL.of (k08 _ _ onm)), (by show 2 ≤ sizeLine; decide), fun t5 n7 => ⟨(by show 5 ≤ sizeLine; decide), fun L nL => ?_⟩⟩
  rw [List.length_map] at nL ⊢
  have k7 := same_new (o := .tup [.ref l6, .int ((y :: ns').length : Nat)]) n7
  have o7 : upd H8 t5 (.tup [.ref l6, .int ((y :: ns').length : Nat)]) t5 = some (.tup [.ref l6, .int ((y :: ns').length : Nat)]) := upd_same
  generalize upd H8 t5 (.tup [.ref l6, .int ((y :: ns').length : Nat)]) = H9 at k7 o7 nL
  have k8 := same_new (o := .lst [.ref t1, .ref t2, .ref t3, .ref t4, .ref t5]) nL
  have oL : upd H9 L (.lst [.ref t1, .ref t2, .ref t3, .ref t4, .ref t5]) L = some (.lst [.ref t1, .ref t2, .ref t3, .ref t4, .ref t5]) := upd_same
  generalize upd H9 L (.lst [.ref t1, .ref t2, .ref t3, .ref t4, .ref t5]) = HL at k8 oL
  have k0L := (k08.trans k7).trans k8
  have k2L := (((((((kd.trans k3).trans kl).trans k4).trans k5).trans k6).trans k7).trans k8)
  have k4L := ((((kl.trans k4).trans k5).trans k6).trans k7).trans k8
  have k6L := ((k5.trans k6).trans k7).trans k8
  have all : ∀ x ∈ [V.ref t1, .ref t2, .ref t3, .ref t4, .ref t5], ∃ t v i, x = .ref t ∧ OddAt K HL (y :: ns') t v i := by
    intro x hx
    simp only [List.mem_cons, List.not_mem_nil, or_false] at hx
    have nonS : NoSeq K HL .non := ⟨_, .base .non, by decide +kernel, by decide +kernel⟩
    have fiveS : NoSeq K HL (.int 5) := ⟨_, .base (.int 5), by decide +kernel, by decide +kernel⟩
    rcases hx with rfl | rfl | rfl | rfl | rfl
    · exact ⟨t1, .non, 0, rfl, (k2.trans k2L) _ _ o1, .no nonS, by rw [if_pos rfl]; exact .no fiveS⟩
    · have z : Bad K HL (y :: ns') (.str y) (some 0) := .no ⟨_, .base (.str y), by decide +kernel, by decide +kernel⟩
      exact ⟨t2, .str y, 0, rfl, k2L _ _ o2, z, by rw [if_neg (by intro z; cases z)]; exact z⟩
    · have z : Bad K HL (y :: ns') (.ref d) (some 0) := .no ⟨_, .base (.dK ((k3.trans k4L) _ _ od)), by decide +kernel, by decide +kernel⟩
      exact ⟨t3, .ref d, 0, rfl, k4L _ _ o3, z, by rw [if_neg (by intro z; cases z)]; exact z⟩
    · have z : Bad K HL (y :: ns') (.ref l) (some 1) := by
        have e : badAt (y :: ns') [.str y, .str y] [] 0 = some 1 := by simp [badAt, strOf]
        rw [← e]
        exact .seq (.inl ((k4.trans k6L) _ _ ol)) (fun x hx => by simp at hx; rw [hx]; exact .str y) (by show 2 < 1000; omega)
      exact ⟨t4, .ref l, 1, rfl, k6L _ _ o4, z, by rw [if_neg (by intro z; cases z)]; exact z⟩
    · have z : Bad K HL (y :: ns') (.ref l6) (some (y :: ns').length) := by
        have e := badAt_five (y :: ns') (y :: ns') [] 0 (fun x hx => hx) (by simpa using nds)
        rw [Nat.zero_add] at e
        rw [← e]
        refine .seq (.inl ((k7.trans k8) _ _ o6)) (fun x hx => ?_) (by rw [List.length_append, List.length_map]; simp at sh ⊢; omega)
        rcases List.mem_append.mp hx with hx | hx
        · obtain ⟨z, _, rfl⟩ := List.mem_map.mp hx; exact .str z
        · simp at hx; rw [hx]; exact .int 5
      exact ⟨t5, .ref l6, _, rfl, k8 _ _ o7, z, by rw [if_neg (by intro z; cases z)]; exact z⟩
  refine ⟨L, rfl, ⟨_, SqL.of oL⟩, for_list (xs := [V.ref t1, .ref t2, .ref t3, .ref t4, .ref t5]) (fun i σ H' => ExtN HL H' ∧ Tabs T H' ∧ ∃ s2 s3 s4, σ = [some (.ref a), some (.ref nm), s2, s3, s4]) ⟨ExtN.refl _, T0.ext k0L, _, _, _, rfl⟩ (fun i σ H' _ h => SqL.of (h.1 _ _ oL (fun _ z => by cases z))) ?_ ?_⟩
  · rintro i x σ H' ex ⟨e, TH, s2, s3, s4, rfl⟩
    obtain ⟨t, v, j, rfl, O⟩ := all x (List.mem_of_getElem? ex)
    have O' := O.ext e
    have e0 := (ExtN.of k0L).trans e
    refine ⟨t, _, rfl, SqT.of O'.o, rfl, _, _, rfl, _, _, rfl, rfl, ?_⟩
    exact r1 _ _ a nm (y :: ns') tbl v j (some (.int (j : Nat))) s4 (tab.ext e0) (e0 _ _ onm (fun _ z => by cases z)) nn O'.b O'.b5 TH (fun H2 q fq e2 T2 F2 => r2 _ _ j q _ _ _ F2 (fun H3 s3' => ⟨(e.trans e2).trans (ExtN.of s3'), T2.ext s3', _, _, _, rfl⟩))
  · rintro σ H' ⟨e, TH, s2, s3, s4, rfl⟩
    exact fin H' _ _ _ ((ExtN.of k0L).trans e) TH
end
end L2.TB
/-! frozen alike is the same; _law_engine_refused's second walk -/
namespace L2.TB
open PySem PySem.Spec PyProof.Rows LamX
/-- how deep a frozen thing is -/
inductive TrD : Nat → Tr → Prop
  | one (v : V) : TrD 0 (.one v)
  | di {kvs : List (Key × V)} (nd : (kvs.map (·.1)).Nodup) : TrD 0 (.di kvs)
  | tu {n : Nat} {ts : List Tr} (h : ∀ (i : Nat) (t : Tr), ts[i]? = some t → TrD n t) : TrD (n + 1) (.tu ts)
  | up {n : Nat} {t : Tr} (h : TrD n t) : TrD (n + 1) t
theorem fz_alk {H : Hp} {n : Nat} {t : Tr} (d : TrD n t) : ∀ {u v : V}, FzAt H t u → FzAt H t v → AlkF H n u v := by
  induction d with
  | one v0 =>
    intro u v hu hv
    cases hu with
    | one h => cases hv with
      | one h' => exact .one h
  | di nd =>
    intro u v hu hv
    cases hu with
    | di h a => cases hv with
      | di h' a' => exact .dic h h' nd a
  | @tu n ts _ ih =>
    intro u v hu hv
    cases hu with
    | @tu a us _ h len sh al => cases hv with
      | @tu b us' _ h' len' sh' al' =>
        refine .tup h h' (by rw [len, len']) sh fun i x y ex ey => ?_
        have lt : i < ts.length := by rw [← len]; exact (List.getElem?_eq_some_iff.mp ex).1
        have et : ts[i]? = some ts[i] := List.getElem?_eq_getElem lt
        exact ih i _ et (al i x _ ex et) (al' i y _ ey et)
  | up _ ih => exact fun hu hv => .up (ih hu hv)
theorem badAt_all (full : List Str) : ∀ (xs us : List Str) (n : Nat), (∀ x ∈ xs, x ∈ full) → (us ++ xs).Nodup → badAt full (xs.map V.str) us n = none
  | [], us, n, _, _ => rfl
  | x :: xs, us, n, h, nd => by
    have nx : x ∉ us := fun m => by
      rw [List.nodup_append] at nd
      exact nd.2.2 x m x (by simp) rfl
    have e : us ++ x :: xs = (us ++ [x]) ++ xs := by simp
    rw [e] at nd
    show (if x ∈ full ∧ x ∉ us then badAt full (xs.map V.str) (us ++ [x]) (n + 1) else some n) = _
    rw [if_pos ⟨h x (by simp), nx⟩]
    exact badAt_all full xs (us ++ [x]) (n + 1) (fun z hz => h z (by simp [hz])) nd
def bodyE2 : List Stmt := match (defBody sEng).getD 1 (.Pass ⟨0, 0, 0, 0⟩) with
  | .For _ _ b _ _ => b
  | _ => []
theorem BadAsk.ext {K : PySem.W.Frag} {H H' : Hp} {ns : List Str} {v : V} (h : BadAsk K H ns v) (s : ExtN H H') : BadAsk K H' ns v := h.imp id fun ⟨t, a, b⟩ => ⟨t, ty_ext a s, b⟩
section
variable {P : Program} {w : World} {K : PySem.W.Frag} {mg : Str → Option Value} {base : Heap} {f C CK CQ CH CG CN CB c Pt : Addr} {T : List (Addr × Str)} {A : Around} {outer : List Env} {s : Shared} {H : Hp} {E : XK}
theorem eng_3 (F : EngF P w K mg base C CK CQ CH CG CN CB) (TB : TabB base mg c Pt) (hm : (Pt, (envOfC "_law_engine_refused" (defScope sEng) s.heap.objs.size f (.ref c)).qual ++ "<lambda>") ∈ T) (hu : ∀ p ∈ T, p.1 = Pt → p.2 = (envOfC "_law_engine_refused" (defScope sEng) s.heap.objs.size f (.ref c)).qual ++ "<lambda>")
    (hr : Room 8 (A.deeper (envOfC "_law_engine_refused" (defScope sEng) s.heap.objs.size f (.ref c)))) {rest : List Stmt} {u : TS} (hrest : PSs (cxOf CX0 P w K mg base NEn "_law_engine_refused" (defScope sEng) f (.ref c) A outer s H E).nox rest u) :
    ∃ t, PSs (cxOf CX0 P w K mg base NEn "_law_engine_refused" (defScope sEng) f (.ref c) A outer s H E).nox (bodyE2.take 6 ++ rest) t ∧ ∀ (D : Ends) (H0 : Hp) (a nm : Addr) (ns : List Str) (tbl : List (List Int)) (v : V) (tr : Tr) (s3 s4 : Option V),
      TabAt H0 C a ns tbl → H0 nm = some (.lst (ns.map V.str)) → ns.Nodup → ns.length < 900 → BadAsk K H0 ns v → (∀ H1, ExtN H0 H1 → Thg H1 1 v tr) → Tabs T H0 →
      (∀ H' q, Fresh H0 q → ExtN H0 H' → Tabs T H' → FoundAt H' q (.tu [.one (.str "question"), tr]) 6 → u D [some (.ref a), some (.ref nm), some v, s3, some (.ref q)] H') →
      t D [some (.ref a), some (.ref nm), some v, s3, s4] H0 := by
  obtain ⟨fN, fdN, gN, FN, GN⟩ := F.need
  obtain ⟨fH, fdH, gH, FH, GH⟩ := F.thin
  obtain ⟨f1, fd1, g1, k1, b1, G1⟩ := F.least
  obtain ⟨f2, fd2, g2, k2, b2, G2⟩ := F.secr
  obtain ⟨f3, fd3, g3, k3, b3, G3⟩ := F.nded
  obtain ⟨f4, fd4, g4, k4, b4, G4⟩ := F.idle
  have bN := FN.binds (ps := ["field", "known", "asked"]) fun _ _ _ _ _ _ us hl => match us, hl with | [_, _, _], _ => rfl
  have bH := FH.binds (ps := ["field", "known", "asked"]) fun _ _ _ _ _ _ us hl => match us, hl with | [_, _, _], _ => rfl
  have nd := scEn.nd
  refine ⟨_, pss_cons (ps_asg (pe_lst (pa_cons (pe_tried F.R 2 rfl TB rfl hm hu hr (by decide) (lamS_by (by show lamSB (defScope sEng) _ = true; decide +kernel)) rfl (fun _ _ _ _ _ => rfl) (fun A outer s H E f c' hr => pe_callS GN (hr.mono (by decide)) rfl gN FN.kp bN (fun σ => passAt (takes_of rfl rfl rfl rfl) σ) (pa_cons (pv 0) (pa_cons (pe_lst pa_nil) (pa_cons (pv 2) pa_nil))))) pa_nil)) (pg_name (i := 4) nd rfl (Or.inl rfl)))
    (pss_cons (ps_expr (pe_bm PySem.F.plainAttrs_list PySem.F.slot_list_append PySem.F.type_list_append mt_append (pv 4) (pa_cons (pe_tried F.R 2 rfl TB rfl hm hu hr (by decide) (lamS_by (by show lamSB (defScope sEng) _ = true; decide +kernel)) rfl (fun _ _ _ _ _ => rfl) (fun A outer s H E f c' hr => pe_callS GH (hr.mono (by decide)) rfl gH FH.kp bH (fun σ => passAt (takes_of rfl rfl rfl rfl) σ) (pa_cons (pv 0) (pa_cons (pv 1) (pa_cons (pv 2) pa_nil))))) pa_nil)))
    (pss_cons (ps_expr (pe_bm PySem.F.plainAttrs_list PySem.F.slot_list_append PySem.F.type_list_append mt_append (pv 4) (pa_cons (pe_tried F.R 2 rfl TB rfl hm hu hr (by decide) (lamS_by (by show lamSB (defScope sEng) _ = true; decide +kernel)) rfl (fun _ _ _ _ _ => rfl) (fun A outer s H E f c' hr => pe_callS G1 (hr.mono (by decide)) rfl g1 k1 b1 (fun σ => passAt (takes_of rfl rfl rfl rfl) σ) (pa_cons (pv 0) (pa_cons (pv 2) (pa_cons pe_int pa_nil))))) pa_nil)))
    (pss_cons (ps_expr (pe_bm PySem.F.plainAttrs_list PySem.F.slot_list_append PySem.F.type_list_append mt_append (pv 4) (pa_cons (pe_tried F.R 2 rfl TB rfl hm hu hr (by decide) (lamS_by (by show lamSB (defScope sEng) _ = true; decide +kernel)) rfl (fun _ _ _ _ _ => rfl) (fun A outer s H E f c' hr => pe_callS G2 (hr.mono (by decide)) rfl g2 k2 b2 (fun σ => passAt (takes_of rfl rfl rfl rfl) σ) (pa_cons (pv 0) (pa_cons (pv 2) (pa_cons pe_int pa_nil))))) pa_nil)))
    (pss_cons (ps_expr (pe_bm PySem.F.plainAttrs_list PySem.F.slot_list_append PySem.F.type_list_append mt_append (pv 4) (pa_cons (pe_tried F.R 2 rfl TB rfl hm hu hr (by decide) (lamS_by (by show lamSB (defScope sEng) _ = true; decide +kernel)) rfl (fun _ _ _ _ _ => rfl) (fun A outer s H E f c' hr => pe_callS G3 (hr.mono (by decide)) rfl g3 k3 b3 (fun σ => passAt (takes_of rfl rfl rfl rfl) σ) (pa_cons (pv 0) (pa_cons (pv 2) (pa_cons pe_int pa_nil))))) pa_nil)))
    (pss_cons (ps_expr (pe_bm PySem.F.plainAttrs_list PySem.F.slot_list_append PySem.F.type_list_append mt_append (pv 4) (pa_cons (pe_tried F.R 2 rfl TB rfl hm hu hr (by decide) (lamS_by (by show lamSB (defScope sEng) _ = true; decide +kernel)) rfl (fun _ _ _ _ _ => rfl) (fun A outer s H E f c' hr => pe_callS G4 (hr.mono (by decide)) rfl g4 k4 b4 (fun σ => passAt (takes_of rfl rfl rfl rfl) σ) (pa_cons (pv 0) (pa_cons (pv 2) (pa_cons pe_int pa_nil))))) pa_nil))) hrest))))), ?_⟩
  intro D H0 a nm ns tbl v tr s3 s4 tab onm nds sh hB th T0 fin
  have hc : (⟨"NoQuestion", CQ, "question", "name"⟩ : Clz) ∈ clz6 CK CQ CH CG CN CB := by simp [clz6]
  have none_ : ∀ {H1 : Hp} {b : Addr} {xs : List Str}, H1 b = some (.lst (xs.map V.str)) → xs.length < 900 → badAt ns (xs.map V.str) [] 0 = none → Bad K H1 ns (.ref b) none := fun {H1 b xs} e l z => by
    rw [← z]
    exact .seq (.inl e) (fun x hx => by obtain ⟨y, _, rfl⟩ := List.mem_map.mp hx; exact .str y) (by rw [List.length_map]; omega)
  have self := badAt_all ns ns [] 0 (fun x hx => hx) (by simpa using nds)
  refine set_read (c := ⟨"NoQuestion", CQ, "question", "name"⟩) (v := v) (tr := tr) T0 hc th (fun H1 E R e1 T1 hf => ⟨_, rfl, (by show 0 ≤ sizeLine; omega), fun l nl => ?_⟩) fun H1 q fq e1 T1 F1 => ?_
  · have kl := same_new (o := .lst []) nl
    exact ⟨_, rfl, a, ns, tbl, .ref l, v, none, rfl, (tab.ext e1).same kl, none_ (xs := []) upd_same (by show 0 < 900; omega) rfl, .inr ⟨rfl, (hB.ext e1).same kl, hf.same kl⟩⟩
  refine app_read (c := ⟨"NoQuestion", CQ, "question", "name"⟩) (v := v) (tr := tr) rfl F1 (by omega) T1 hc (fun H3 e3 => th H3 (e1.trans e3)) (fun H3 E R e3 T3 hf => ⟨_, rfl, _, rfl, _, rfl, a, ns, tbl, .ref nm, v, none, rfl, tab.ext (e1.trans e3), none_ ((e1.trans e3) _ _ onm (fun _ z => by cases z)) sh self, .inr ⟨rfl, hB.ext (e1.trans e3), hf⟩⟩) fun H2 g2 T2 F2 => ?_
  have e2 := grow_on fq e1 g2
  refine app_read (c := ⟨"NoQuestion", CQ, "question", "name"⟩) (v := v) (tr := tr) rfl F2 (by omega) T2 hc (fun H9 e9 => th H9 (e2.trans e9)) (fun H9 E R e9 T9 hf => ⟨_, rfl, _, rfl, a, ns, tbl, v, .int 5, rfl, tab.ext (e2.trans e9), .inl ⟨hB.ext (e2.trans e9), hf⟩⟩) fun H3 g3 T3 F3 => ?_
  have e3 := grow_on fq e2 g3
  refine app_read (c := ⟨"NoQuestion", CQ, "question", "name"⟩) (v := v) (tr := tr) rfl F3 (by omega) T3 hc (fun H9 e9 => th H9 (e3.trans e9)) (fun H9 E R e9 T9 hf => ⟨_, rfl, _, rfl, a, ns, tbl, v, .int 5, rfl, tab.ext (e3.trans e9), .inl ⟨hB.ext (e3.trans e9), hf⟩⟩) fun H4 g4 T4 F4 => ?_
  have e4 := grow_on fq e3 g4
  refine app_read (c := ⟨"NoQuestion", CQ, "question", "name"⟩) (v := v) (tr := tr) rfl F4 (by omega) T4 hc (fun H9 e9 => th H9 (e4.trans e9)) (fun H9 E R e9 T9 hf => ⟨_, rfl, _, rfl, a, ns, tbl, v, .int 5, rfl, tab.ext (e4.trans e9), .inl ⟨hB.ext (e4.trans e9), hf⟩⟩) fun H5 g5 T5 F5 => ?_
  have e5 := grow_on fq e4 g5
  refine app_read (c := ⟨"NoQuestion", CQ, "question", "name"⟩) (v := v) (tr := tr) rfl F5 (by omega) T5 hc (fun H9 e9 => th H9 (e5.trans e9)) (fun H9 E R e9 T9 hf => ⟨_, rfl, _, rfl, a, ns, tbl, v, .int 5, rfl, tab.ext (e5.trans e9), .inl ⟨hB.ext (e5.trans e9), hf⟩⟩) fun H6 g6 T6 F6 => ?_
  have e6 := grow_on fq e5 g6
  exact fin H6 q fq e6 T6 F6
end
end L2.TB
/-! not _law_same(found, [('question', _law_frozen(odd))] * 6) -/
namespace L2.TB
open PySem PySem.Spec PyProof.Rows LamX
section
variable {P : Program} {w : World} {K : PySem.W.Frag} {mg : Str → Option Value} {base : Heap} {f C CK CQ CH CG CN CB c fS : Addr} {fdS : FuncData} {A : Around} {outer : List Env} {s : Shared} {H : Hp} {E : XK}
theorem eng_4 (R : Trd P w K mg CK CQ CH CG CN CB) (FS : Fun K "_law_same" "_law_same" sSame fS fdS) (gS : mg "_law_same" = some (.ref fS)) (M : Sm mg) (hr : Room 8 (A.deeper (envOfC "_law_engine_refused" (defScope sEng) s.heap.objs.size f (.ref c)))) :
    ∃ t, PSs (cxOf CX0 P w K mg base NEn "_law_engine_refused" (defScope sEng) f (.ref c) A outer s H E).nox (bodyE2.drop 6) t ∧ ∀ (D : Ends) (H0 : Hp) (v : V) (tr : Tr) (q : Addr) (s0 s1 s3 : Option V), FoundAt H0 q (.tu [.one (.str "question"), tr]) 6 → Thg H0 1 v tr → TrD 1 tr →
      (∀ H', Same H0 H' → D.nx [s0, s1, some v, s3, some (.ref q)] H') → t D [s0, s1, some v, s3, some (.ref q)] H0 := by
  obtain ⟨fz, fdz, gZ, FZ⟩ := R.Z
  have GZ : FnOk P w K mg base CX0 2 fz fdz ["thing"] (spFrozen 1) := ok_frozen FZ gZ R.M 1
  have bZ := FZ.binds (ps := ["thing"]) fun _ _ _ _ _ _ us hl => match us, hl with | [_], _ => rfl
  have GS : FnOk P w K mg base CX0 4 fS fdS ["found", "due"] (spSameF 3) := ok_sameF FS gS M 3
  have bS := FS.binds (ps := ["found", "due"]) fun _ _ _ _ _ _ us hl => match us, hl with | [_, _], _ => rfl
  refine ⟨_, pss_one (ps_if (pt_not (pt_val (pe_call GS (hr.mono (by decide)) rfl gS FS.kp bS .nil pass0 (pa_cons (pv 4) (pa_cons (pe_op op_rep (pe_lst (pa_cons (pe_tup (pa_cons pe_str (pa_cons (pe_call GZ (hr.mono (by decide)) rfl gZ FZ.kp bZ .nil pass0 (pa_cons (pv 2) pa_nil)) pa_nil))) pa_nil)) pe_int) pa_nil))))) (pss_one ps_never) pss_nil), ?_⟩
  intro D H0 v tr q s0 s1 s3 F th td fin
  obtain ⟨us, hq, lu, fu⟩ := F
  refine ⟨_, rfl, _, rfl, v, tr, rfl, th, fun H1 u s1 fz1 => ⟨(by show 2 ≤ sizeLine; decide), fun t nt => ⟨(by show 1 ≤ sizeLine; decide), fun p np => ?_⟩⟩⟩
  have st := same_new (o := .tup [.str "question", u]) nt
  have sp := same_new (o := .lst [.ref t]) np
  refine ⟨p, 6, [.ref t], rfl, rfl, upd_same, by decide, by decide, (by show 1 * 6 ≤ sizeLine; rw [sizeLine_eq]; omega), fun p2 np2 => ?_⟩
  have s2 := same_new (o := .lst (List.replicate (Int.toNat 6) [V.ref t]).flatten) np2
  have all := ((s1.trans st).trans sp).trans s2
  have td2 : TrD 2 (.tu [.one (.str "question"), tr]) := .tu fun i t e => by
    match i, e with
    | 0, e => obtain rfl := Option.some.inj e; exact .up (.one _)
    | 1, e => obtain rfl := Option.some.inj e; exact td
    | i + 2, e => cases e
  have ot : FzAt (upd (upd (upd H1 t (.tup [.str "question", u])) p (.lst [.ref t])) p2 (.lst (List.replicate (Int.toNat 6) [V.ref t]).flatten)) (.tu [.one (.str "question"), tr]) (.ref t) := by
    refine .tu ((sp.trans s2) _ _ upd_same) rfl (by show 2 < 1000; omega) fun j x y e1 e2 => ?_
    match j, e1, e2 with
    | 0, e1, e2 =>
      obtain rfl := Option.some.inj e1
      obtain rfl := Option.some.inj e2
      exact .one (.str _)
    | 1, e1, e2 =>
      obtain rfl := Option.some.inj e1
      obtain rfl := Option.some.inj e2
      exact fz1.same ((st.trans sp).trans s2)
    | j + 2, e1, e2 => cases e1
  have ol : upd (upd (upd H1 t (.tup [.str "question", u])) p (.lst [.ref t])) p2 (.lst (List.replicate (Int.toNat 6) [V.ref t]).flatten) p2 = some (.lst (List.replicate 6 (V.ref t))) := upd_same
  refine ⟨.ref q, .ref p2, rfl, .lst (all _ _ hq) ol (by rw [lu, List.length_replicate]) (by rw [lu]; omega) (fun i x y ex ey => ?_), fun H' s' => ⟨_, rfl, iteF (fin _ (all.trans s'))⟩⟩
  obtain rfl := List.eq_of_mem_replicate (List.mem_of_getElem? ey)
  exact fz_alk td2 ((fu x (List.mem_of_getElem? ex)).same all) ot
end
end L2.TB
/-! the engine's second walk -/
namespace L2.TB
open PySem PySem.Spec PyProof.Rows LamX
theorem no_one : ¬ NmOk "no one" := fun h => by
  have z := h.2.2 32 (by decide +kernel)
  revert z
  decide +kernel
theorem Thg.ext {H H' : Hp} {n : Nat} {t : Tr} {v : V} (h : Thg H n v t) (s : ExtN H H') : Thg H' n v t := by
  induction h with
  | one h => exact .one h
  | seq h len sh _ ih => exact .seq (h.imp (fun e => s _ _ e (fun _ z => by cases z)) (fun e => s _ _ e (fun _ z => by cases z))) len sh ih
  | dic h sh nd at_ => exact .dic (s _ _ h (fun _ z => by cases z)) sh nd at_
  | up _ ih => exact .up ih
section
variable {P : Program} {w : World} {K : PySem.W.Frag} {mg : Str → Option Value} {base : Heap} {f C CK CQ CH CG CN CB c Pt fS : Addr} {fdS : FuncData} {T : List (Addr × Str)} {A : Around} {outer : List Env} {s : Shared} {H : Hp} {E : XK}
/-- one of the walk's odd things -/
def AskAt (K : PySem.W.Frag) (H : Hp) (ns : List Str) (v : V) : Prop := BadAsk K H ns v ∧ ∃ tr, Thg H 1 v tr ∧ TrD 1 tr
theorem eng_walk2 (F : EngF P w K mg base C CK CQ CH CG CN CB) (TB : TabB base mg c Pt) (hm : (Pt, (envOfC "_law_engine_refused" (defScope sEng) s.heap.objs.size f (.ref c)).qual ++ "<lambda>") ∈ T) (hu : ∀ p ∈ T, p.1 = Pt → p.2 = (envOfC "_law_engine_refused" (defScope sEng) s.heap.objs.size f (.ref c)).qual ++ "<lambda>")
    (FS : Fun K "_law_same" "_law_same" sSame fS fdS) (gS : mg "_law_same" = some (.ref fS)) (M : Sm mg) (hr : Room 8 (A.deeper (envOfC "_law_engine_refused" (defScope sEng) s.heap.objs.size f (.ref c)))) :
    ∃ t, PS (cxOf CX0 P w K mg base NEn "_law_engine_refused" (defScope sEng) f (.ref c) A outer s H E).nox ((defBody sEng).getD 1 (.Pass ⟨0, 0, 0, 0⟩)) t ∧ ∀ (D : Ends) (H0 : Hp) (a nm : Addr) (ns : List Str) (tbl : List (List Int)) (s2 s3 s4 : Option V), TabAt H0 C a ns tbl → H0 nm = some (.lst (ns.map V.str)) → ns ≠ [] → ns.Nodup → ns.length < 900 → (∀ x ∈ ns, NmOk x) → Tabs T H0 →
      (∀ H' s2 s3 s4, ExtN H0 H' → Tabs T H' → D.nx [some (.ref a), some (.ref nm), s2, s3, s4] H') → t D [some (.ref a), some (.ref nm), s2, s3, s4] H0 := by
  obtain ⟨t2, p2, r2⟩ := eng_4 (P := P) (w := w) (K := K) (mg := mg) (base := base) (outer := outer) (H := H) (E := E) F.R FS gS M hr
  obtain ⟨t1, p1, r1⟩ := eng_3 F TB hm hu hr p2
  have nd := scEn.nd
  refine ⟨_, ps_for PassesOwn.never rfl (pi_list (pe_lst (pa_cons pe_non (pa_cons pe_int (pa_cons pe_str (pa_cons (pe_lst (pa_cons (pe_ix (r := rIxL K) ix_list (pv 1) pe_int (fun _ _ => rfl)) pa_nil)) (pa_cons pe_dnewK (pa_cons pe_bl pa_nil))))))))
    (pg_name (i := 2) nd rfl (Or.inr rfl)) p1, ?_⟩
  intro D H0 a nm ns tbl s2 s3 s4 tab onm nn nds sh nok T0 fin
  obtain ⟨y, ns', rfl⟩ : ∃ y ns', ns = y :: ns' := by
    cases ns with
    | nil => exact absurd rfl nn
    | cons y r => exact ⟨y, r, rfl⟩
  have ay : atI (V.str y :: ns'.map V.str) 0 = some (.str y) := atI_nat (xs := V.str y :: ns'.map V.str) (j := 0) (v := .str y) rfl
  have onm' : H0 nm = some (.lst (V.str y :: ns'.map V.str)) := onm
  refine ⟨_, rfl, nm, _, 0, .str y, rfl, rfl, SqL.of onm', ay, (by show 1 ≤ sizeLine; decide), fun l nl => ?_⟩
  have kl := same_new (o := .lst [.str y]) nl
  have ol : upd H0 l (.lst [.str y]) l = some (.lst [.str y]) := upd_same
  generalize upd H0 l (.lst [.str y]) = H1 at kl ol
  refine fun d nd3 => ⟨(by show 6 ≤ sizeLine; decide), fun L nL => ?_⟩
  have kd := same_new (o := .dK []) nd3
  have od : upd H1 d (.dK []) d = some (.dK []) := upd_same
  generalize upd H1 d (.dK []) = H2 at kd od nL
  have kL := same_new (o := .lst [.non, .int 5, .str "no one", .ref l, .ref d, .bl true]) nL
  have oL : upd H2 L (.lst [.non, .int 5, .str "no one", .ref l, .ref d, .bl true]) L = some (.lst [.non, .int 5, .str "no one", .ref l, .ref d, .bl true]) := upd_same
  generalize upd H2 L (.lst [.non, .int 5, .str "no one", .ref l, .ref d, .bl true]) = HL at kL oL
  have k0L := (kl.trans kd).trans kL
  have all : ∀ x ∈ [V.non, .int 5, .str "no one", .ref l, .ref d, .bl true], AskAt K HL (y :: ns') x := by
    intro x hx
    simp only [List.mem_cons, List.not_mem_nil, or_false] at hx
    rcases hx with rfl | rfl | rfl | rfl | rfl | rfl
    · exact ⟨.inr ⟨_, .base .non, by decide +kernel⟩, _, .up (.one .non), .up (.one _)⟩
    · exact ⟨.inr ⟨_, .base (.int 5), by decide +kernel⟩, _, .up (.one (.int 5)), .up (.one _)⟩
    · exact ⟨.inl ⟨_, rfl, fun m => no_one (nok _ m)⟩, _, .up (.one (.str _)), .up (.one _)⟩
    · refine ⟨.inr ⟨_, .base (.lst ((kd.trans kL) _ _ ol)), by decide +kernel⟩, .tu [.one (.str y)], .seq (.inl ((kd.trans kL) _ _ ol)) rfl (by show 1 < 1000; omega) (fun i x t e1 e2 => ?_), .tu fun i t e => ?_⟩
      · match i, e1, e2 with
        | 0, e1, e2 =>
          obtain rfl := Option.some.inj e1
          obtain rfl := Option.some.inj e2
          exact .one (.str y)
        | i + 1, e1, e2 => cases e1
      · match i, e with
        | 0, e => obtain rfl := Option.some.inj e; exact .one _
        | i + 1, e => cases e
    · exact ⟨.inr ⟨_, .base (.dK (kL _ _ od)), by decide +kernel⟩, .di [], .dic (kL _ _ od) (by show 0 < 1000; omega) .nil (fun _ h => by cases h), .up (.di .nil)⟩
    · exact ⟨.inr ⟨_, .base (.bl true), by decide +kernel⟩, _, .up (.one (.bl true)), .up (.one _)⟩
  refine ⟨L, rfl, ⟨_, SqL.of oL⟩, for_list (xs := [V.non, .int 5, .str "no one", .ref l, .ref d, .bl true]) (fun i σ H' => ExtN HL H' ∧ Tabs T H' ∧ ∃ s2 s3 s4, σ = [some (.ref a), some (.ref nm), s2, s3, s4]) ⟨ExtN.refl _, T0.ext k0L, _, _, _, rfl⟩ (fun i σ H' _ h => SqL.of (h.1 _ _ oL (fun _ z => by cases z))) ?_ ?_⟩
  · rintro i x σ H' ex ⟨e, TH, s2, s3, s4, rfl⟩
    obtain ⟨hb, tr, th, td⟩ := all x (List.mem_of_getElem? ex)
    have e0 := (ExtN.of k0L).trans e
    exact r1 _ _ a nm (y :: ns') tbl x tr s3 s4 (tab.ext e0) (e0 _ _ onm (fun _ z => by cases z)) nds sh (hb.ext e) (fun H1 e1 => th.ext (e.trans e1)) TH
      (fun H2 q fq e2 T2 F2 => r2 _ _ x tr q _ _ _ F2 (th.ext (e.trans e2)) td (fun H3 s3' => ⟨(e.trans e2).trans (ExtN.of s3'), T2.ext s3', _, _, _, rfl⟩))
  · rintro σ H' ⟨e, TH, s2, s3, s4, rfl⟩
    exact fin H' _ _ _ ((ExtN.of k0L).trans e) TH
end
end L2.TB
/-! _law_engine_refused whole -/
namespace L2.TB
open PySem PySem.Spec PyProof.Rows LamX
/-- what a table's refusals begin with -/
structure TbNm (H : Hp) (C a nm : Addr) (ns : List Str) (tbl : List (List Int)) : Prop where
  t : TabAt H C a ns tbl
  o : H nm = some (.lst (ns.map V.str))
  ne : ns ≠ []
  nd : ns.Nodup
  sh : ns.length < 900
  ok : ∀ x ∈ ns, NmOk x
theorem TbNm.ext {H H' : Hp} {C a nm : Addr} {ns : List Str} {tbl : List (List Int)} (h : TbNm H C a nm ns tbl) (s : ExtN H H') : TbNm H' C a nm ns tbl := ⟨h.t.ext s, s _ _ h.o (fun _ z => by cases z), h.ne, h.nd, h.sh, h.ok⟩
def spEng (C : Addr) (T : List (Addr × Str)) : Sp := fun vs H Q _ => ∃ (a nm : Addr) (ns : List Str) (tbl : List (List Int)), vs = [.ref a, .ref nm] ∧ TbNm H C a nm ns tbl ∧ Tabs T H ∧ ∀ H', ExtN H H' → Tabs T H' → Q (.bl true) H'
section
variable {P : Program} {w : World} {K : PySem.W.Frag} {mg : Str → Option Value} {base : Heap} {f C CK CQ CH CG CN CB c Pt fS : Addr} {fd fdS : FuncData} {T : List (Addr × Str)}
theorem ok_eng (FE : Fun K "_law_engine_refused" "_law_engine_refused" sEng f fd) (hc : fd.code = .ref c) (F : EngF P w K mg base C CK CQ CH CG CN CB) (TB : TabB base mg c Pt) (hm : (Pt, ("_law_engine_refused" : Str) ++ ".<locals>." ++ "<lambda>") ∈ T) (hu : ∀ p ∈ T, p.1 = Pt → p.2 = ("_law_engine_refused" : Str) ++ ".<locals>." ++ "<lambda>")
    (FS : Fun K "_law_same" "_law_same" sSame fS fdS) (gS : mg "_law_same" = some (.ref fS)) (M : Sm mg) : FnOk P w K mg base CX0 9 f fd ["table", "names"] (spEng C T) := by
  obtain ⟨oc, od, kV, doc, pm, an, cdv, ct, osl, rfl, lk, hcd⟩ := FE.ex
  obtain rfl : cdv = .ref c := hc
  refine fn_of lk hcd scEn (fun vs H Q E h => by obtain ⟨a, nm, ns, tbl, e, _⟩ := h; rw [e]; rfl) fun A outer s H vs Q E hr hsp => ?_
  obtain ⟨a, nm, ns, tbl, rfl, I, T0, hq⟩ := hsp
  obtain ⟨t1, p1, r1⟩ := eng_walk (P := P) (w := w) (outer := outer) (H := H) (E := E) F TB hm hu M.nN hr
  obtain ⟨t2, p2, r2⟩ := eng_walk2 (P := P) (w := w) (outer := outer) (H := H) (E := E) F TB hm hu FS gS M hr
  refine ⟨_, PSs.nox (st := defBody sEng) (pss_cons p1 (pss_cons p2 (pss_one (ps_ret pe_bl)))), ?_⟩
  refine r1 _ _ a nm ns tbl none none none I.t I.o I.ne I.nd I.sh T0 fun H1 s2 s3 s4 e1 T1 => ?_
  have I1 := I.ext e1
  refine r2 _ _ a nm ns tbl s2 s3 s4 I1.t I1.o I1.ne I1.nd I1.sh I1.ok T1 fun H2 s2 s3 s4 e2 T2 => ?_
  exact hq _ (e1.trans e2) T2
end
end L2.TB
/-! _law_groups_refused: a group refused -/
namespace L2.TB
open PySem PySem.Spec PyProof.Rows LamX
theorem EnB.ext {K : PySem.W.Frag} {H H' : Hp} {ns : List Str} {kv : Key × V} {b : Bool} (h : EnB K H ns kv b) (s : ExtN H H') : EnB K H' ns kv b := by
  cases h with
  | key h => exact .key h
  | val h b => exact .val h (b.ext s)
theorem HdBad.ext {K : PySem.W.Frag} {H H' : Hp} {ns : List Str} {d : Addr} {kvs : List (Key × V)} {j : Nat} (h : HdBad K H ns d kvs j) (s : ExtN H H') : HdBad K H' ns d kvs j :=
  ⟨s _ _ h.o (fun _ z => by cases z), h.nd, h.sh, h.few, fun i kv lt e => (h.good i kv lt e).ext s⟩
/-- right hands with these names -/
structure GoodH (K : PySem.W.Frag) (H : Hp) (ns : List Str) (d : Addr) (kvs : List (Key × V)) (hn : List Str) : Prop where
  ne : kvs ≠ []
  b : HdBad K H ns d kvs kvs.length
  k : kvs.map (·.1) = hn.map Sum.inr
theorem GoodH.ext {K : PySem.W.Frag} {H H' : Hp} {ns : List Str} {d : Addr} {kvs : List (Key × V)} {hn : List Str} (h : GoodH K H ns d kvs hn) (s : ExtN H H') : GoodH K H' ns d kvs hn := ⟨h.ne, h.b.ext s, h.k⟩
abbrev NGf : List Str := ["table", "names", "hands", "odd", "due", "found"]
theorem scGf : FnScope NGf ["table", "names"] (defScope sGro) := ⟨rfl, rfl, rfl, by decide +kernel, rfl, by decide +kernel, by decide +kernel⟩
def bodyG1 : List Stmt := match (defBody sGro).getD 1 (.Pass ⟨0, 0, 0, 0⟩) with
  | .For _ _ b _ _ => b
  | _ => []
section
variable {P : Program} {w : World} {K : PySem.W.Frag} {mg : Str → Option Value} {base : Heap} {f C CK CQ CH CG CN CB c Pt fK : Addr} {fdK : FuncData} {T : List (Addr × Str)} {A : Around} {outer : List Env} {s : Shared} {H : Hp} {E : XK}
theorem gro_1 (R : Trd P w K mg CK CQ CH CG CN CB) (FK : Fun K "knows" "knows" sKnows fK fdK) (gK : mg "knows" = some (.ref fK)) (GK : FnOk P w K mg base (L2.CX P w) 4 fK fdK ["field", "hands", "group", "asked"] (spKnowsX K C CH CQ CG))
    (TB : TabB base mg c Pt) (hm : (Pt, (envOfC "_law_groups_refused" (defScope sGro) s.heap.objs.size f (.ref c)).qual ++ "<lambda>") ∈ T) (hu : ∀ p ∈ T, p.1 = Pt → p.2 = (envOfC "_law_groups_refused" (defScope sGro) s.heap.objs.size f (.ref c)).qual ++ "<lambda>")
    (hr : Room 8 (A.deeper (envOfC "_law_groups_refused" (defScope sGro) s.heap.objs.size f (.ref c)))) :
    ∃ t, PSs (cxOf CX0 P w K mg base NGf "_law_groups_refused" (defScope sGro) f (.ref c) A outer s H E).nox bodyG1 t ∧ ∀ (D : Ends) (H0 : Hp) (a nm d : Addr) (ns hn : List Str) (kvs : List (Key × V)) (tbl : List (List Int)) (v : V) (i : Nat) (s5 : Option V),
      TabAt H0 C a ns tbl → GoodH K H0 ns d kvs hn → Bad K H0 hn v (some i) → Tabs T H0 →
      (∀ H', ExtN H0 H' → Tabs T H' → D.nx [some (.ref a), some (.ref nm), some (.ref d), some v, some (.int i), s5] H') → t D [some (.ref a), some (.ref nm), some (.ref d), some v, some (.int i), s5] H0 := by
  have bK := FK.binds (ps := ["field", "hands", "group", "asked"]) fun _ _ _ _ _ _ us hl => match us, hl with | [_, _, _, _], _ => rfl
  have hu64 := hr.units
  refine ⟨_, pss_one (ps_if (pt_cmpR (r := rNeD K) (op_neD hu64) (pe_tried R 1 rfl TB rfl hm hu hr (by decide) (lamS_by (by show lamSB (defScope sGro) _ = true; decide +kernel)) rfl (fun _ _ _ _ _ => rfl)
    (fun A outer s H E f c' hr => pe_callS GK (hr.mono (by decide)) rfl gK FK.kp bK (fun σ => passAt (takes_of rfl rfl rfl rfl) σ) (pa_cons (pv 0) (pa_cons (pv 2) (pa_cons (pv 3) (pa_cons pe_non pa_nil))))))
    (pe_tup (pa_cons pe_str (pa_cons (pv 4) pa_nil))) (nomark _)) (pss_one ps_never) pss_nil), ?_⟩
  intro D H0 a nm d ns hn kvs tbl v i s5 tab G hB T0 fin
  have hc : (⟨"BadGroup", CG, "group", "index"⟩ : Clz) ∈ clz6 CK CQ CH CG CN CB := by simp [clz6]
  refine ⟨T0, fun H1 eN T1 E R hE => ?_⟩
  have G1 := G.ext eN
  refine ⟨_, rfl, _, rfl, _, rfl, a, ns, tbl, .ref d, v, .non, none, rfl, tab.ext eN, .good G1.ne G1.b, fun _ z => (by cases z), fun _ => ⟨d, kvs, hn, some i, rfl, G1.b.o, G.k, hB.ext eN, fun j ej => ?_, fun z => by cases z⟩⟩
  obtain rfl : i = j := Option.some.inj ej
  refine tried_by (c := ⟨"BadGroup", CG, "group", "index"⟩) (n := 0) (v := .int (i : Nat)) (tr := .one (.int (i : Nat))) hc (.one (.int _)) (fun H2 u s2 fu => ?_) E hE
  refine ⟨_, rfl, (by show 2 ≤ sizeLine; decide), fun t nt => ?_⟩
  have st := same_new (o := .tup [.str "group", .int (i : Nat)]) nt
  have d1 : Dp K (upd H2 t (.tup [.str "group", .int (i : Nat)])) u (.tuple [.str "group", .int (i : Nat)]) := fz_dp (fu.same st)
  have d2 : Dp K (upd H2 t (.tup [.str "group", .int (i : Nat)])) (.ref t) (.tuple [.str "group", .int (i : Nat)]) := .tup (SqT.of upd_same) (.cons (.str _) (.cons (.int _) .nil))
  have hs : PyData.strOk "group" = true := by decide +kernel
  have sh : SeqAt.shaped (.tuple [.str "group", .int (i : Nat)]) = true := by
    unfold SeqAt.shaped
    rw [Bool.and_eq_true]
    exact ⟨by simp [PyData.canLay0, PyData.canLayAll0, hs], decide_eq_true (by simp [PyData.depth, PyData.depthAll])⟩
  refine ⟨_, _, d1, d2, sh, sh, _, rfl, ?_⟩
  have e : PyData.eqv (.tuple [.str "group", .int (i : Nat)]) (.tuple [.str "group", .int (i : Nat)]) = true := SeqAt.eqv_refl _ (Bool.and_eq_true_iff.mp sh).1
  show if (!PyData.eqv (.tuple [.str "group", .int (i : Nat)]) (.tuple [.str "group", .int (i : Nat)])) = true then _ else _
  rw [e]
  exact iteF (fin _ (eN.trans (ExtN.of (s2.trans st))) ((T1.ext s2).ext st))
end
end L2.TB
/-! _law_groups_refused: a hand, a number refused -/
namespace L2.TB
open PySem PySem.Spec PyProof.Rows LamX
def bodyG2 : List Stmt := match (defBody sGro).getD 2 (.Pass ⟨0, 0, 0, 0⟩) with
  | .For _ _ b _ _ => b
  | _ => []
def bodyG3 : List Stmt := match (defBody sGro).getD 3 (.Pass ⟨0, 0, 0, 0⟩) with
  | .For _ _ b _ _ => b
  | _ => []
theorem NoInt.ext {K : PySem.W.Frag} {H H' : Hp} {v : V} (h : NoInt K H v) (s : ExtN H H') : NoInt K H' v := by
  cases h with
  | bl b => exact .bl b
  | ty h k => exact .ty (ty_ext h s) k
theorem BadCnt.ext {K : PySem.W.Frag} {H H' : Hp} {v : V} (h : BadCnt K H v) (s : ExtN H H') : BadCnt K H' v := h.imp id fun h => h.ext s
theorem BadHand.ext {K : PySem.W.Frag} {H H' : Hp} {kvs : List (Key × V)} {v : V} (h : BadHand K H kvs v) (s : ExtN H H') : BadHand K H' kvs v := h.imp id fun ⟨t, a, b⟩ => ⟨t, ty_ext a s, b⟩
section
variable {P : Program} {w : World} {K : PySem.W.Frag} {mg : Str → Option Value} {base : Heap} {f C CK CQ CH CG CN CB c Pt fK fS : Addr} {fdK fdS : FuncData} {T : List (Addr × Str)} {A : Around} {outer : List Env} {s : Shared} {H : Hp} {E : XK}
theorem gro_2 (R : Trd P w K mg CK CQ CH CG CN CB) (FK : Fun K "may_tell" "may_tell" sMayTell fK fdK) (gK : mg "may_tell" = some (.ref fK)) (GK : FnOk P w K mg base (L2.CX P w) 4 fK fdK ["field", "hands", "name", "asked"] (spMayX K C CH CQ CN))
    (FS : Fun K "_law_same" "_law_same" sSame fS fdS) (gS : mg "_law_same" = some (.ref fS)) (M : Sm mg) (TB : TabB base mg c Pt) (hm : (Pt, (envOfC "_law_groups_refused" (defScope sGro) s.heap.objs.size f (.ref c)).qual ++ "<lambda>") ∈ T) (hu : ∀ p ∈ T, p.1 = Pt → p.2 = (envOfC "_law_groups_refused" (defScope sGro) s.heap.objs.size f (.ref c)).qual ++ "<lambda>")
    (hr : Room 8 (A.deeper (envOfC "_law_groups_refused" (defScope sGro) s.heap.objs.size f (.ref c)))) :
    ∃ t, PSs (cxOf CX0 P w K mg base NGf "_law_groups_refused" (defScope sGro) f (.ref c) A outer s H E).nox bodyG2 t ∧ ∀ (D : Ends) (H0 : Hp) (a nm d : Addr) (ns hn : List Str) (kvs : List (Key × V)) (tbl : List (List Int)) (v : V) (tr : Tr) (s4 s5 : Option V),
      TabAt H0 C a ns tbl → GoodH K H0 ns d kvs hn → BadHand K H0 kvs v → Thg H0 1 v tr → TrD 1 tr → Tabs T H0 →
      (∀ H', ExtN H0 H' → Tabs T H' → D.nx [some (.ref a), some (.ref nm), some (.ref d), some v, s4, s5] H') → t D [some (.ref a), some (.ref nm), some (.ref d), some v, s4, s5] H0 := by
  have bK := FK.binds (ps := ["field", "hands", "name", "asked"]) fun _ _ _ _ _ _ us hl => match us, hl with | [_, _, _, _], _ => rfl
  obtain ⟨fz, fdz, gZ, FZ⟩ := id R.Z
  have GZ : FnOk P w K mg base CX0 2 fz fdz ["thing"] (spFrozen 1) := ok_frozen FZ gZ R.M 1
  have bZ := FZ.binds (ps := ["thing"]) fun _ _ _ _ _ _ us hl => match us, hl with | [_], _ => rfl
  have GS : FnOk P w K mg base CX0 3 fS fdS ["found", "due"] (spSameF 2) := ok_sameF FS gS M 2
  have bS := FS.binds (ps := ["found", "due"]) fun _ _ _ _ _ _ us hl => match us, hl with | [_, _], _ => rfl
  refine ⟨_, pss_one (ps_if (pt_not (pt_val (pe_call GS (hr.mono (by decide)) rfl gS FS.kp bS .nil pass0 (pa_cons (pe_tried R 2 rfl TB rfl hm hu hr (by decide) (lamS_by (by show lamSB (defScope sGro) _ = true; decide +kernel)) rfl (fun _ _ _ _ _ => rfl)
      (fun A outer s H E f c' hr => pe_callS GK (hr.mono (by decide)) rfl gK FK.kp bK (fun σ => passAt (takes_of rfl rfl rfl rfl) σ) (pa_cons (pv 0) (pa_cons (pv 2) (pa_cons (pv 3) (pa_cons pe_non pa_nil))))))
    (pa_cons (pe_tup (pa_cons pe_str (pa_cons (pe_call GZ (hr.mono (by decide)) rfl gZ FZ.kp bZ .nil pass0 (pa_cons (pv 3) pa_nil)) pa_nil))) pa_nil))))) (pss_one ps_never) pss_nil), ?_⟩
  intro D H0 a nm d ns hn kvs tbl v tr s4 s5 tab G hB th td T0 fin
  have hc : (⟨"NoHand", CN, "hand", "name"⟩ : Clz) ∈ clz6 CK CQ CH CG CN CB := by simp [clz6]
  refine ⟨T0, fun H1 eN T1 E R hE => ?_⟩
  have G1 := G.ext eN
  have fly := tried_by (c := ⟨"NoHand", CN, "hand", "name"⟩) (n := 1) (v := v) (tr := tr) hc (th.ext eN) (fun H2 u s2 fu => ?_) E hE
  · exact ⟨_, rfl, _, rfl, _, rfl, a, ns, tbl, .ref d, v, .non, none, rfl, tab.ext eN, .good G1.ne G1.b, fun _ z => (by cases z), fun _ => ⟨d, kvs, rfl, G1.b.o, .inl ⟨hB.ext eN, fly⟩⟩⟩
  refine ⟨_, rfl, v, tr, rfl, (th.ext eN).same s2, fun H3 x s3 fx => ⟨(by show 2 ≤ sizeLine; decide), fun t nt => ?_⟩⟩
  have st := same_new (o := .tup [.str "hand", x]) nt
  have td2 : TrD 2 (.tu [.one (.str "hand"), tr]) := .tu fun i t e => by
    match i, e with
    | 0, e => obtain rfl := Option.some.inj e; exact .up (.one _)
    | 1, e => obtain rfl := Option.some.inj e; exact td
    | i + 2, e => cases e
  have ot : FzAt (upd H3 t (.tup [.str "hand", x])) (.tu [.one (.str "hand"), tr]) (.ref t) := by
    refine .tu upd_same rfl (by show 2 < 1000; omega) fun j x' y e1 e2 => ?_
    match j, e1, e2 with
    | 0, e1, e2 =>
      obtain rfl := Option.some.inj e1
      obtain rfl := Option.some.inj e2
      exact .one (.str _)
    | 1, e1, e2 =>
      obtain rfl := Option.some.inj e1
      obtain rfl := Option.some.inj e2
      exact fx.same st
    | j + 2, e1, e2 => cases e1
  have s24 := (s3.trans st)
  exact ⟨u, .ref t, rfl, fz_alk td2 (fu.same s24) ot, fun H' s' => ⟨_, rfl, iteF (fin _ (eN.trans (ExtN.of ((s2.trans s24).trans s'))) ((T1.ext s2).ext (s24.trans s')))⟩⟩
theorem gro_3 (R : Trd P w K mg CK CQ CH CG CN CB) (FK : Fun K "is_safe" "is_safe" sIsSafe fK fdK) (gK : mg "is_safe" = some (.ref fK)) (GK : FnOk P w K mg base (L2.CX P w) 4 fK fdK ["field", "hands", "most", "asked"] (spSafeX K C CH CQ CB))
    (FS : Fun K "_law_same" "_law_same" sSame fS fdS) (gS : mg "_law_same" = some (.ref fS)) (M : Sm mg) (TB : TabB base mg c Pt) (hm : (Pt, (envOfC "_law_groups_refused" (defScope sGro) s.heap.objs.size f (.ref c)).qual ++ "<lambda>") ∈ T) (hu : ∀ p ∈ T, p.1 = Pt → p.2 = (envOfC "_law_groups_refused" (defScope sGro) s.heap.objs.size f (.ref c)).qual ++ "<lambda>")
    (hr : Room 8 (A.deeper (envOfC "_law_groups_refused" (defScope sGro) s.heap.objs.size f (.ref c)))) :
    ∃ t, PSs (cxOf CX0 P w K mg base NGf "_law_groups_refused" (defScope sGro) f (.ref c) A outer s H E).nox bodyG3 t ∧ ∀ (D : Ends) (H0 : Hp) (a nm d : Addr) (ns hn : List Str) (kvs : List (Key × V)) (tbl : List (List Int)) (v : V) (tr : Tr) (s4 s5 : Option V),
      TabAt H0 C a ns tbl → GoodH K H0 ns d kvs hn → BadCnt K H0 v → Thg H0 1 v tr → TrD 1 tr → Tabs T H0 →
      (∀ H', ExtN H0 H' → Tabs T H' → D.nx [some (.ref a), some (.ref nm), some (.ref d), some v, s4, s5] H') → t D [some (.ref a), some (.ref nm), some (.ref d), some v, s4, s5] H0 := by
  have bK := FK.binds (ps := ["field", "hands", "most", "asked"]) fun _ _ _ _ _ _ us hl => match us, hl with | [_, _, _, _], _ => rfl
  obtain ⟨fz, fdz, gZ, FZ⟩ := id R.Z
  have GZ : FnOk P w K mg base CX0 2 fz fdz ["thing"] (spFrozen 1) := ok_frozen FZ gZ R.M 1
  have bZ := FZ.binds (ps := ["thing"]) fun _ _ _ _ _ _ us hl => match us, hl with | [_], _ => rfl
  have GS : FnOk P w K mg base CX0 3 fS fdS ["found", "due"] (spSameF 2) := ok_sameF FS gS M 2
  have bS := FS.binds (ps := ["found", "due"]) fun _ _ _ _ _ _ us hl => match us, hl with | [_, _], _ => rfl
  refine ⟨_, pss_one (ps_if (pt_not (pt_val (pe_call GS (hr.mono (by decide)) rfl gS FS.kp bS .nil pass0 (pa_cons (pe_tried R 2 rfl TB rfl hm hu hr (by decide) (lamS_by (by show lamSB (defScope sGro) _ = true; decide +kernel)) rfl (fun _ _ _ _ _ => rfl)
      (fun A outer s H E f c' hr => pe_callS GK (hr.mono (by decide)) rfl gK FK.kp bK (fun σ => passAt (takes_of rfl rfl rfl rfl) σ) (pa_cons (pv 0) (pa_cons (pv 2) (pa_cons (pv 3) (pa_cons pe_non pa_nil))))))
    (pa_cons (pe_tup (pa_cons pe_str (pa_cons (pe_call GZ (hr.mono (by decide)) rfl gZ FZ.kp bZ .nil pass0 (pa_cons (pv 3) pa_nil)) pa_nil))) pa_nil))))) (pss_one ps_never) pss_nil), ?_⟩
  intro D H0 a nm d ns hn kvs tbl v tr s4 s5 tab G hB th td T0 fin
  have hc : (⟨"BadNumber", CB, "number", "thing"⟩ : Clz) ∈ clz6 CK CQ CH CG CN CB := by simp [clz6]
  refine ⟨T0, fun H1 eN T1 E R hE => ?_⟩
  have G1 := G.ext eN
  have fly := tried_by (c := ⟨"BadNumber", CB, "number", "thing"⟩) (n := 1) (v := v) (tr := tr) hc (th.ext eN) (fun H2 u s2 fu => ?_) E hE
  · exact ⟨_, rfl, _, rfl, _, rfl, a, ns, tbl, .ref d, v, .non, none, rfl, tab.ext eN, .good G1.ne G1.b, fun _ z => (by cases z), fun _ => .inl ⟨hB.ext eN, fly⟩⟩
  refine ⟨_, rfl, v, tr, rfl, (th.ext eN).same s2, fun H3 x s3 fx => ⟨(by show 2 ≤ sizeLine; decide), fun t nt => ?_⟩⟩
  have st := same_new (o := .tup [.str "number", x]) nt
  have td2 : TrD 2 (.tu [.one (.str "number"), tr]) := .tu fun i t e => by
    match i, e with
    | 0, e => obtain rfl := Option.some.inj e; exact .up (.one _)
    | 1, e => obtain rfl := Option.some.inj e; exact td
    | i + 2, e => cases e
  have ot : FzAt (upd H3 t (.tup [.str "number", x])) (.tu [.one (.str "number"), tr]) (.ref t) := by
    refine .tu upd_same rfl (by show 2 < 1000; omega) fun j x' y e1 e2 => ?_
    match j, e1, e2 with
    | 0, e1, e2 =>
      obtain rfl := Option.some.inj e1
      obtain rfl := Option.some.inj e2
      exact .one (.str _)
    | 1, e1, e2 =>
      obtain rfl := Option.some.inj e1
      obtain rfl := Option.some.inj e2
      exact fx.same st
    | j + 2, e1, e2 => cases e1
  have s24 := (s3.trans st)
  exact ⟨u, .ref t, rfl, fz_alk td2 (fu.same s24) ot, fun H' s' => ⟨_, rfl, iteF (fin _ (eN.trans (ExtN.of ((s2.trans s24).trans s'))) ((T1.ext s2).ext (s24.trans s')))⟩⟩
end
end L2.TB
/-! _law_groups_refused: a question refused -/
namespace L2.TB
open PySem PySem.Spec PyProof.Rows LamX
def bodyG4 : List Stmt := match (defBody sGro).getD 4 (.Pass ⟨0, 0, 0, 0⟩) with
  | .For _ _ b _ _ => b
  | _ => []
structure GroF (P : Program) (w : World) (K : PySem.W.Frag) (mg : Str → Option Value) (base : Heap) (C CK CQ CH CG CN CB : Addr) : Prop where
  R : Trd P w K mg CK CQ CH CG CN CB
  kn : ∃ f fd, mg "knows" = some (.ref f) ∧ Fun K "knows" "knows" sKnows f fd ∧ FnOk P w K mg base (L2.CX P w) 4 f fd ["field", "hands", "group", "asked"] (spKnowsX K C CH CQ CG)
  lg : ∃ f fd, mg "least_groups" = some (.ref f) ∧ Fun K "least_groups" "least_groups" sLeastG f fd ∧ FnOk P w K mg base (L2.CX P w) 5 f fd ["field", "hands", "asked"] (spCkHAX K C CH CQ)
  ou : ∃ f fd, mg "outsiders" = some (.ref f) ∧ Fun K "outsiders" "outsiders" sOutsiders f fd ∧ FnOk P w K mg base (L2.CX P w) 5 f fd ["field", "hands", "asked"] (spCkHAX K C CH CQ)
  my : ∃ f fd, mg "may_tell" = some (.ref f) ∧ Fun K "may_tell" "may_tell" sMayTell f fd ∧ FnOk P w K mg base (L2.CX P w) 4 f fd ["field", "hands", "name", "asked"] (spMayX K C CH CQ CN)
  sf : ∃ f fd, mg "is_safe" = some (.ref f) ∧ Fun K "is_safe" "is_safe" sIsSafe f fd ∧ FnOk P w K mg base (L2.CX P w) 4 f fd ["field", "hands", "most", "asked"] (spSafeX K C CH CQ CB)
section
variable {P : Program} {w : World} {K : PySem.W.Frag} {mg : Str → Option Value} {base : Heap} {f C CK CQ CH CG CN CB c Pt : Addr} {T : List (Addr × Str)} {A : Around} {outer : List Env} {s : Shared} {H : Hp} {E : XK}
theorem gro_4 (F : GroF P w K mg base C CK CQ CH CG CN CB) (TB : TabB base mg c Pt) (hm : (Pt, (envOfC "_law_groups_refused" (defScope sGro) s.heap.objs.size f (.ref c)).qual ++ "<lambda>") ∈ T) (hu : ∀ p ∈ T, p.1 = Pt → p.2 = (envOfC "_law_groups_refused" (defScope sGro) s.heap.objs.size f (.ref c)).qual ++ "<lambda>")
    (hr : Room 8 (A.deeper (envOfC "_law_groups_refused" (defScope sGro) s.heap.objs.size f (.ref c)))) {rest : List Stmt} {u : TS} (hrest : PSs (cxOf CX0 P w K mg base NGf "_law_groups_refused" (defScope sGro) f (.ref c) A outer s H E).nox rest u) :
    ∃ t, PSs (cxOf CX0 P w K mg base NGf "_law_groups_refused" (defScope sGro) f (.ref c) A outer s H E).nox (bodyG4.take 5 ++ rest) t ∧ ∀ (D : Ends) (H0 : Hp) (a nm d : Addr) (ns hn : List Str) (kvs : List (Key × V)) (tbl : List (List Int)) (v : V) (tr : Tr) (s4 s5 : Option V),
      TabAt H0 C a ns tbl → GoodH K H0 ns d kvs hn → (valV kvs (Sum.inr "h1")).isSome = true → BadAsk K H0 ns v → (∀ H1, ExtN H0 H1 → Thg H1 1 v tr) → Tabs T H0 →
      (∀ H' q, Fresh H0 q → ExtN H0 H' → Tabs T H' → FoundAt H' q (.tu [.one (.str "question"), tr]) 5 → u D [some (.ref a), some (.ref nm), some (.ref d), some v, s4, some (.ref q)] H') →
      t D [some (.ref a), some (.ref nm), some (.ref d), some v, s4, s5] H0 := by
  obtain ⟨f1, fd1, g1, F1, G1⟩ := F.kn
  have b1 := F1.binds (ps := ["field", "hands", "group", "asked"]) fun _ _ _ _ _ _ us hl => match us, hl with | [_, _, _, _], _ => rfl
  obtain ⟨f2, fd2, g2, F2, G2⟩ := F.lg
  have b2 := F2.binds (ps := ["field", "hands", "asked"]) fun _ _ _ _ _ _ us hl => match us, hl with | [_, _, _], _ => rfl
  obtain ⟨f3, fd3, g3, F3, G3⟩ := F.ou
  have b3 := F3.binds (ps := ["field", "hands", "asked"]) fun _ _ _ _ _ _ us hl => match us, hl with | [_, _, _], _ => rfl
  obtain ⟨f4, fd4, g4, F4, G4⟩ := F.my
  have b4 := F4.binds (ps := ["field", "hands", "name", "asked"]) fun _ _ _ _ _ _ us hl => match us, hl with | [_, _, _, _], _ => rfl
  obtain ⟨f5, fd5, g5, F5, G5⟩ := F.sf
  have b5 := F5.binds (ps := ["field", "hands", "most", "asked"]) fun _ _ _ _ _ _ us hl => match us, hl with | [_, _, _, _], _ => rfl
  have nd := scGf.nd
  refine ⟨_, pss_cons (ps_asg (pe_lst (pa_cons (pe_tried F.R 2 rfl TB rfl hm hu hr (by decide) (lamS_by (by show lamSB (defScope sGro) _ = true; decide +kernel)) rfl (fun _ _ _ _ _ => rfl) (fun A outer s H E f c' hr => pe_callS G1 (hr.mono (by decide)) rfl g1 F1.kp b1 (fun σ => passAt (takes_of rfl rfl rfl rfl) σ) (pa_cons (pv 0) (pa_cons (pv 2) (pa_cons (pe_lst pa_nil) (pa_cons (pv 3) pa_nil)))))) pa_nil)) (pg_name (i := 5) nd rfl (Or.inl rfl)))
    (pss_cons (ps_expr (pe_bm PySem.F.plainAttrs_list PySem.F.slot_list_append PySem.F.type_list_append mt_append (pv 5) (pa_cons (pe_tried F.R 2 rfl TB rfl hm hu hr (by decide) (lamS_by (by show lamSB (defScope sGro) _ = true; decide +kernel)) rfl (fun _ _ _ _ _ => rfl) (fun A outer s H E f c' hr => pe_callS G2 (hr.mono (by decide)) rfl g2 F2.kp b2 (fun σ => passAt (takes_of rfl rfl rfl rfl) σ) (pa_cons (pv 0) (pa_cons (pv 2) (pa_cons (pv 3) pa_nil))))) pa_nil)))
    (pss_cons (ps_expr (pe_bm PySem.F.plainAttrs_list PySem.F.slot_list_append PySem.F.type_list_append mt_append (pv 5) (pa_cons (pe_tried F.R 2 rfl TB rfl hm hu hr (by decide) (lamS_by (by show lamSB (defScope sGro) _ = true; decide +kernel)) rfl (fun _ _ _ _ _ => rfl) (fun A outer s H E f c' hr => pe_callS G3 (hr.mono (by decide)) rfl g3 F3.kp b3 (fun σ => passAt (takes_of rfl rfl rfl rfl) σ) (pa_cons (pv 0) (pa_cons (pv 2) (pa_cons (pv 3) pa_nil))))) pa_nil)))
    (pss_cons (ps_expr (pe_bm PySem.F.plainAttrs_list PySem.F.slot_list_append PySem.F.type_list_append mt_append (pv 5) (pa_cons (pe_tried F.R 2 rfl TB rfl hm hu hr (by decide) (lamS_by (by show lamSB (defScope sGro) _ = true; decide +kernel)) rfl (fun _ _ _ _ _ => rfl) (fun A outer s H E f c' hr => pe_callS G4 (hr.mono (by decide)) rfl g4 F4.kp b4 (fun σ => passAt (takes_of rfl rfl rfl rfl) σ) (pa_cons (pv 0) (pa_cons (pv 2) (pa_cons pe_str (pa_cons (pv 3) pa_nil)))))) pa_nil)))
    (pss_cons (ps_expr (pe_bm PySem.F.plainAttrs_list PySem.F.slot_list_append PySem.F.type_list_append mt_append (pv 5) (pa_cons (pe_tried F.R 2 rfl TB rfl hm hu hr (by decide) (lamS_by (by show lamSB (defScope sGro) _ = true; decide +kernel)) rfl (fun _ _ _ _ _ => rfl) (fun A outer s H E f c' hr => pe_callS G5 (hr.mono (by decide)) rfl g5 F5.kp b5 (fun σ => passAt (takes_of rfl rfl rfl rfl) σ) (pa_cons (pv 0) (pa_cons (pv 2) (pa_cons pe_int (pa_cons (pv 3) pa_nil)))))) pa_nil))) hrest)))), ?_⟩
  intro D H0 a nm d ns hn kvs tbl v tr s4 s5 tab G h1 hB th T0 fin
  have hc : (⟨"NoQuestion", CQ, "question", "name"⟩ : Clz) ∈ clz6 CK CQ CH CG CN CB := by simp [clz6]
  refine set_read (c := ⟨"NoQuestion", CQ, "question", "name"⟩) (v := v) (tr := tr) T0 hc th (fun H1 E R e1 T1 hf => ⟨_, rfl, _, rfl, (by show 0 ≤ sizeLine; omega), fun l nl => ?_⟩) fun H1 q fq e1 T1 FA1 => ?_
  · have kl := ExtN.of (same_new (o := .lst []) nl)
    have e2 := e1.trans kl
    have G2 := G.ext e2
    exact ⟨_, rfl, a, ns, tbl, .ref d, .ref l, v, none, rfl, tab.ext e2, .good G2.ne G2.b, fun _ z => (by cases z), fun _ => ⟨d, kvs, hn, none, rfl, G2.b.o, G2.k, .seq (xs := []) (.inl upd_same) (fun _ h => by cases h) (by show 0 < 1000; omega), fun _ z => (by cases z), fun _ => ⟨hB.ext e2, hf.same (same_new nl)⟩⟩⟩
  refine app_read (c := ⟨"NoQuestion", CQ, "question", "name"⟩) (v := v) (tr := tr) rfl FA1 (by omega) T1 hc (fun H9 e9 => th H9 (e1.trans e9)) (fun H9 E R e9 T9 hf => ⟨_, rfl, _, rfl, _, rfl, a, ns, tbl, .ref d, v, none, rfl, tab.ext (e1.trans e9), .good G.ne (G.ext (e1.trans e9)).b, fun _ z => (by cases z), fun _ => ⟨hB.ext (e1.trans e9), hf⟩⟩) fun H2 g2' T2 FA2 => ?_
  have e2 := grow_on fq e1 g2'
  refine app_read (c := ⟨"NoQuestion", CQ, "question", "name"⟩) (v := v) (tr := tr) rfl FA2 (by omega) T2 hc (fun H9 e9 => th H9 (e2.trans e9)) (fun H9 E R e9 T9 hf => ⟨_, rfl, _, rfl, _, rfl, a, ns, tbl, .ref d, v, none, rfl, tab.ext (e2.trans e9), .good G.ne (G.ext (e2.trans e9)).b, fun _ z => (by cases z), fun _ => ⟨hB.ext (e2.trans e9), hf⟩⟩) fun H3 g3' T3 FA3 => ?_
  have e3 := grow_on fq e2 g3'
  refine app_read (c := ⟨"NoQuestion", CQ, "question", "name"⟩) (v := v) (tr := tr) rfl FA3 (by omega) T3 hc (fun H9 e9 => th H9 (e3.trans e9)) (fun H9 E R e9 T9 hf => ⟨_, rfl, _, rfl, _, rfl, a, ns, tbl, .ref d, .str "h1", v, none, rfl, tab.ext (e3.trans e9), .good G.ne (G.ext (e3.trans e9)).b, fun _ z => (by cases z), fun _ => ⟨d, kvs, rfl, (G.ext (e3.trans e9)).b.o, .inr ⟨⟨_, rfl, h1⟩, hB.ext (e3.trans e9), hf⟩⟩⟩) fun H4 g4' T4 FA4 => ?_
  have e4 := grow_on fq e3 g4'
  refine app_read (c := ⟨"NoQuestion", CQ, "question", "name"⟩) (v := v) (tr := tr) rfl FA4 (by omega) T4 hc (fun H9 e9 => th H9 (e4.trans e9)) (fun H9 E R e9 T9 hf => ⟨_, rfl, _, rfl, _, rfl, a, ns, tbl, .ref d, .int 1, v, none, rfl, tab.ext (e4.trans e9), .good G.ne (G.ext (e4.trans e9)).b, fun _ z => (by cases z), fun _ => .inr ⟨⟨1, rfl, by decide⟩, hB.ext (e4.trans e9), hf⟩⟩) fun H5 g5' T5 FA5 => ?_
  have e5 := grow_on fq e4 g5'
  exact fin H5 q fq e5 T5 FA5
end
end L2.TB
/-! _law_groups_refused: not _law_same(found, [('question', _law_frozen(odd))] * 5) -/
namespace L2.TB
open PySem PySem.Spec PyProof.Rows LamX
section
variable {P : Program} {w : World} {K : PySem.W.Frag} {mg : Str → Option Value} {base : Heap} {f C CK CQ CH CG CN CB c fS : Addr} {fdS : FuncData} {A : Around} {outer : List Env} {s : Shared} {H : Hp} {E : XK}
theorem gro_5 (R : Trd P w K mg CK CQ CH CG CN CB) (FS : Fun K "_law_same" "_law_same" sSame fS fdS) (gS : mg "_law_same" = some (.ref fS)) (M : Sm mg) (hr : Room 8 (A.deeper (envOfC "_law_groups_refused" (defScope sGro) s.heap.objs.size f (.ref c)))) :
    ∃ t, PSs (cxOf CX0 P w K mg base NGf "_law_groups_refused" (defScope sGro) f (.ref c) A outer s H E).nox (bodyG4.drop 5) t ∧ ∀ (D : Ends) (H0 : Hp) (v : V) (tr : Tr) (q : Addr) (s0 s1 s2' s3 : Option V), FoundAt H0 q (.tu [.one (.str "question"), tr]) 5 → Thg H0 1 v tr → TrD 1 tr →
      (∀ H', Same H0 H' → D.nx [s0, s1, s2', some v, s3, some (.ref q)] H') → t D [s0, s1, s2', some v, s3, some (.ref q)] H0 := by
  obtain ⟨fz, fdz, gZ, FZ⟩ := R.Z
  have GZ : FnOk P w K mg base CX0 2 fz fdz ["thing"] (spFrozen 1) := ok_frozen FZ gZ R.M 1
  have bZ := FZ.binds (ps := ["thing"]) fun _ _ _ _ _ _ us hl => match us, hl with | [_], _ => rfl
  have GS : FnOk P w K mg base CX0 4 fS fdS ["found", "due"] (spSameF 3) := ok_sameF FS gS M 3
  have bS := FS.binds (ps := ["found", "due"]) fun _ _ _ _ _ _ us hl => match us, hl with | [_, _], _ => rfl
  refine ⟨_, pss_one (ps_if (pt_not (pt_val (pe_call GS (hr.mono (by decide)) rfl gS FS.kp bS .nil pass0 (pa_cons (pv 5) (pa_cons (pe_op op_rep (pe_lst (pa_cons (pe_tup (pa_cons pe_str (pa_cons (pe_call GZ (hr.mono (by decide)) rfl gZ FZ.kp bZ .nil pass0 (pa_cons (pv 3) pa_nil)) pa_nil))) pa_nil)) pe_int) pa_nil))))) (pss_one ps_never) pss_nil), ?_⟩
  intro D H0 v tr q s0 s1 s2' s3 F th td fin
  obtain ⟨us, hq, lu, fu⟩ := F
  refine ⟨_, rfl, _, rfl, v, tr, rfl, th, fun H1 u s1 fz1 => ⟨(by show 2 ≤ sizeLine; decide), fun t nt => ⟨(by show 1 ≤ sizeLine; decide), fun p np => ?_⟩⟩⟩
  have st := same_new (o := .tup [.str "question", u]) nt
  have sp := same_new (o := .lst [.ref t]) np
  refine ⟨p, 5, [.ref t], rfl, rfl, upd_same, by decide, by decide, (by show 1 * 5 ≤ sizeLine; rw [sizeLine_eq]; omega), fun p2 np2 => ?_⟩
  have s2 := same_new (o := .lst (List.replicate (Int.toNat 5) [V.ref t]).flatten) np2
  have all := ((s1.trans st).trans sp).trans s2
  have td2 : TrD 2 (.tu [.one (.str "question"), tr]) := .tu fun i t e => by
    match i, e with
    | 0, e => obtain rfl := Option.some.inj e; exact .up (.one _)
    | 1, e => obtain rfl := Option.some.inj e; exact td
    | i + 2, e => cases e
  have ot : FzAt (upd (upd (upd H1 t (.tup [.str "question", u])) p (.lst [.ref t])) p2 (.lst (List.replicate (Int.toNat 5) [V.ref t]).flatten)) (.tu [.one (.str "question"), tr]) (.ref t) := by
    refine .tu ((sp.trans s2) _ _ upd_same) rfl (by show 2 < 1000; omega) fun j x y e1 e2 => ?_
    match j, e1, e2 with
    | 0, e1, e2 =>
      obtain rfl := Option.some.inj e1
      obtain rfl := Option.some.inj e2
      exact .one (.str _)
    | 1, e1, e2 =>
      obtain rfl := Option.some.inj e1
      obtain rfl := Option.some.inj e2
      exact fz1.same ((st.trans sp).trans s2)
    | j + 2, e1, e2 => cases e1
  have ol : upd (upd (upd H1 t (.tup [.str "question", u])) p (.lst [.ref t])) p2 (.lst (List.replicate (Int.toNat 5) [V.ref t]).flatten) p2 = some (.lst (List.replicate 5 (V.ref t))) := upd_same
  refine ⟨.ref q, .ref p2, rfl, .lst (all _ _ hq) ol (by rw [lu, List.length_replicate]) (by rw [lu]; omega) (fun i x y ex ey => ?_), fun H' s' => ⟨_, rfl, iteF (fin _ (all.trans s'))⟩⟩
  obtain rfl := List.eq_of_mem_replicate (List.mem_of_getElem? ey)
  exact fz_alk td2 ((fu x (List.mem_of_getElem? ex)).same all) ot
end
end L2.TB
/-! _law_groups_refused's fourth walk whole -/
namespace L2.TB
open PySem PySem.Spec PyProof.Rows LamX
section
variable {P : Program} {w : World} {K : PySem.W.Frag} {mg : Str → Option Value} {base : Heap} {f C CK CQ CH CG CN CB c Pt fS : Addr} {fdS : FuncData} {T : List (Addr × Str)} {A : Around} {outer : List Env} {s : Shared} {H : Hp} {E : XK}
theorem gro_walk4 (F : GroF P w K mg base C CK CQ CH CG CN CB) (TB : TabB base mg c Pt) (hm : (Pt, (envOfC "_law_groups_refused" (defScope sGro) s.heap.objs.size f (.ref c)).qual ++ "<lambda>") ∈ T) (hu : ∀ p ∈ T, p.1 = Pt → p.2 = (envOfC "_law_groups_refused" (defScope sGro) s.heap.objs.size f (.ref c)).qual ++ "<lambda>")
    (FS : Fun K "_law_same" "_law_same" sSame fS fdS) (gS : mg "_law_same" = some (.ref fS)) (M : Sm mg) (hr : Room 8 (A.deeper (envOfC "_law_groups_refused" (defScope sGro) s.heap.objs.size f (.ref c)))) :
    ∃ t, PS (cxOf CX0 P w K mg base NGf "_law_groups_refused" (defScope sGro) f (.ref c) A outer s H E).nox ((defBody sGro).getD 4 (.Pass ⟨0, 0, 0, 0⟩)) t ∧ ∀ (D : Ends) (H0 : Hp) (a nm d : Addr) (ns hn : List Str) (kvs : List (Key × V)) (tbl : List (List Int)) (s3 s4 s5 : Option V), TbNm H0 C a nm ns tbl → GoodH K H0 ns d kvs hn → (valV kvs (Sum.inr "h1")).isSome = true → Tabs T H0 →
      (∀ H' s3 s4 s5, ExtN H0 H' → Tabs T H' → D.nx [some (.ref a), some (.ref nm), some (.ref d), s3, s4, s5] H') → t D [some (.ref a), some (.ref nm), some (.ref d), s3, s4, s5] H0 := by
  obtain ⟨t2, p2, r2⟩ := gro_5 (P := P) (w := w) (K := K) (mg := mg) (base := base) (outer := outer) (H := H) (E := E) F.R FS gS M hr
  obtain ⟨t1, p1, r1⟩ := gro_4 F TB hm hu hr p2
  have nd := scGf.nd
  refine ⟨_, ps_for PassesOwn.never rfl (pi_list (pe_lst (pa_cons pe_non (pa_cons pe_int (pa_cons pe_str (pa_cons (pe_lst (pa_cons (pe_ix (r := rIxL K) ix_list (pv 1) pe_int (fun _ _ => rfl)) pa_nil)) (pa_cons pe_dnewK pa_nil)))))))
    (pg_name (i := 3) nd rfl (Or.inr rfl)) p1, ?_⟩
  intro D H0 a nm d ns hn kvs tbl s3 s4 s5 I G h1 T0 fin
  obtain ⟨y, ns', rfl⟩ : ∃ y ns', ns = y :: ns' := by
    cases ns with
    | nil => exact absurd rfl I.ne
    | cons y r => exact ⟨y, r, rfl⟩
  have ay : atI (V.str y :: ns'.map V.str) 0 = some (.str y) := atI_nat (xs := V.str y :: ns'.map V.str) (j := 0) (v := .str y) rfl
  have onm' : H0 nm = some (.lst (V.str y :: ns'.map V.str)) := I.o
  refine ⟨_, rfl, nm, _, 0, .str y, rfl, rfl, SqL.of onm', ay, (by show 1 ≤ sizeLine; decide), fun l nl => ?_⟩
  have kl := same_new (o := .lst [.str y]) nl
  have ol : upd H0 l (.lst [.str y]) l = some (.lst [.str y]) := upd_same
  generalize upd H0 l (.lst [.str y]) = H1 at kl ol
  refine fun e nd3 => ⟨(by show 5 ≤ sizeLine; decide), fun L nL => ?_⟩
  have kd := same_new (o := .dK []) nd3
  have od : upd H1 e (.dK []) e = some (.dK []) := upd_same
  generalize upd H1 e (.dK []) = H2 at kd od nL
  have kL := same_new (o := .lst [.non, .int 5, .str "no one", .ref l, .ref e]) nL
  have oL : upd H2 L (.lst [.non, .int 5, .str "no one", .ref l, .ref e]) L = some (.lst [.non, .int 5, .str "no one", .ref l, .ref e]) := upd_same
  generalize upd H2 L (.lst [.non, .int 5, .str "no one", .ref l, .ref e]) = HL at kL oL
  have k0L := (kl.trans kd).trans kL
  have all : ∀ x ∈ [V.non, .int 5, .str "no one", .ref l, .ref e], AskAt K HL (y :: ns') x := by
    intro x hx
    simp only [List.mem_cons, List.not_mem_nil, or_false] at hx
    rcases hx with rfl | rfl | rfl | rfl | rfl
    · exact ⟨.inr ⟨_, .base .non, by decide +kernel⟩, _, .up (.one .non), .up (.one _)⟩
    · exact ⟨.inr ⟨_, .base (.int 5), by decide +kernel⟩, _, .up (.one (.int 5)), .up (.one _)⟩
    · exact ⟨.inl ⟨_, rfl, fun m => no_one (I.ok _ m)⟩, _, .up (.one (.str _)), .up (.one _)⟩
    · refine ⟨.inr ⟨_, .base (.lst ((kd.trans kL) _ _ ol)), by decide +kernel⟩, .tu [.one (.str y)], .seq (.inl ((kd.trans kL) _ _ ol)) rfl (by show 1 < 1000; omega) (fun i x t e1 e2 => ?_), .tu fun i t e => ?_⟩
      · match i, e1, e2 with
        | 0, e1, e2 =>
          obtain rfl := Option.some.inj e1
          obtain rfl := Option.some.inj e2
          exact .one (.str y)
        | i + 1, e1, e2 => cases e1
      · match i, e with
        | 0, e => obtain rfl := Option.some.inj e; exact .one _
        | i + 1, e => cases e
    · exact ⟨.inr ⟨_, .base (.dK (kL _ _ od)), by decide +kernel⟩, .di [], .dic (kL _ _ od) (by show 0 < 1000; omega) .nil (fun _ h => by cases h), .up (.di .nil)⟩
  refine ⟨L, rfl, ⟨_, SqL.of oL⟩, for_list (xs := [V.non, .int 5, .str "no one", .ref l, .ref e]) (fun i σ H' => ExtN HL H' ∧ Tabs T H' ∧ ∃ s3 s4 s5, σ = [some (.ref a), some (.ref nm), some (.ref d), s3, s4, s5]) ⟨ExtN.refl _, T0.ext k0L, _, _, _, rfl⟩ (fun i σ H' _ h => SqL.of (h.1 _ _ oL (fun _ z => by cases z))) ?_ ?_⟩
  · rintro i x σ H' ex ⟨e, TH, s3, s4, s5, rfl⟩
    obtain ⟨hb, tr, th, td⟩ := all x (List.mem_of_getElem? ex)
    have e0 := (ExtN.of k0L).trans e
    exact r1 _ _ a nm d (y :: ns') hn kvs tbl x tr s4 s5 (I.t.ext e0) (G.ext e0) h1 (hb.ext e) (fun H1 e1 => th.ext (e.trans e1)) TH
      (fun H2 q fq e2 T2 F2 => r2 _ _ x tr q _ _ _ _ F2 (th.ext (e.trans e2)) td (fun H3 s3' => ⟨(e.trans e2).trans (ExtN.of s3'), T2.ext s3', _, _, _, rfl⟩))
  · rintro σ H' ⟨e, TH, s3, s4, s5, rfl⟩
    exact fin H' _ _ _ ((ExtN.of k0L).trans e) TH
end
end L2.TB
/-! lists of odd things: what is displayed, each with what is known of it -/
namespace L2.TB
open PySem PySem.Spec PyProof.Rows LamX
/-- e gives a thing of which R holds, wherever I holds; what stood stays -/
def Gives (te : TE) (σ : L2.St) (I : Hp → Prop) (R : V → Hp → Prop) : Prop := ∀ (H : Hp) (Q : VK), I H → (∀ v H', Same H H' → R v H' → Q v H') → te σ H Q
def GivesA (ta : TA) (σ : L2.St) (I : Hp → Prop) (R : V → Hp → Prop) (n : Nat) : Prop := ∀ (H : Hp) (Q : List V → Hp → Prop), I H → (∀ vs H', Same H H' → vs.length = n → (∀ v ∈ vs, R v H') → Q vs H') → ta σ H Q
section
variable {σ : L2.St} {I : Hp → Prop} {R R' : V → Hp → Prop} {te : TE} {ta : TA} {n : Nat}
theorem gvA_nil : GivesA tNil σ I R 0 := fun H Q _ h => h [] H (Same.refl _) rfl (fun _ z => by cases z)
theorem gvA_cons (sI : ∀ H H', Same H H' → I H → I H') (sR : ∀ v H H', Same H H' → R v H → R v H') (h : Gives te σ I R) (r : GivesA ta σ I R n) : GivesA (tCons te ta) σ I R (n + 1) := fun H Q i k =>
  h H _ i fun v H1 s1 q1 => r H1 _ (sI _ _ s1 i) fun vs H2 s2 l q2 => k (v :: vs) H2 (s1.trans s2) (by rw [List.length_cons, l]) (fun x hx => by
    rcases List.mem_cons.mp hx with rfl | hx
    · exact sR _ _ _ s2 q1
    · exact q2 x hx)
theorem gv_lst {H : Hp} {Q : VK} (sR : ∀ v H H', Same H H' → R v H → R v H') (hn : n ≤ 1000) (h : GivesA ta σ I R n) (i : I H) (k : ∀ L xs H', Same H H' → H' L = some (.lst xs) → xs.length = n → (∀ x ∈ xs, R x H') → Q (.ref L) H') : tLst ta σ H Q :=
  h H _ i fun vs H1 s1 l q1 => ⟨by rw [sizeLine_eq]; omega, fun p np => k p vs _ (s1.trans (same_new np)) upd_same l (fun x hx => sR _ _ _ (same_new np) (q1 x hx))⟩
/-- a thing that is no object -/
theorem gv_c {v : V} (h : ∀ H, I H → R v H) : Gives (tC v) σ I R := fun H Q i k => k _ _ (Same.refl _) (h H i)
/-- one new object -/
theorem gv_new (sI : ∀ H H', Same H H' → I H → I H') (o : HO) (h : ∀ (H : Hp) (Q : VK), I H → (∀ p, H p = none → Q (.ref p) (upd H p o)) → te σ H Q) (r : ∀ H p, I H → H p = some o → R (.ref p) H) : Gives te σ I R := fun H Q i k =>
  h H Q i fun p np => k _ _ (same_new np) (r _ _ (sI _ _ (same_new np) i) upd_same)
/-- (e, i) -/
theorem gv_pair {i : Int} (sI : ∀ H H', Same H H' → I H → I H') (sR : ∀ v H H', Same H H' → R' v H → R' v H') (h : Gives te σ I R') (r : ∀ H t v, I H → R' v H → H t = some (.tup [v, .int i]) → R (.ref t) H) : Gives (tTup (tCons te (tCons (tC (.int i)) tNil))) σ I R := fun H Q j k =>
  h H _ j fun v H1 s1 q1 => ⟨(by show 2 ≤ sizeLine; decide), fun p np => k _ _ (s1.trans (same_new np)) (r _ _ _ (sI _ _ (s1.trans (same_new np)) j) (sR _ _ _ (same_new np) q1) upd_same)⟩
/-- a walk over a list that is displayed -/
theorem odd_for {K : PySem.W.Frag} {T : List (Addr × Str)} {Sh : L2.St → Prop} {g : TG} {tb : TS} {D : Ends} {H : Hp} (hn : n ≤ 1000) (sR : ∀ v H H', Same H H' → R v H → R v H') (h : GivesA ta σ I R n) (i : I H) (TH : Tabs T H) (sh : Sh σ)
    (turn : ∀ (C : L2.St → Hp → Prop) (HL : Hp) (x : V) (σ' : L2.St) (H' : Hp), Same H HL → R x HL → ExtN HL H' → Tabs T H' → Sh σ' → (∀ σ2 H2, ExtN H' H2 → Tabs T H2 → Sh σ2 → C σ2 H2) → g x σ' H' fun σ2 H2 => tb { D with nx := C, ct := C, bk := D.nx } σ2 H2)
    (fin : ∀ σ' H', ExtN H H' → Tabs T H' → Sh σ' → D.nx σ' H') : tFor (iList K (tLst ta)) g tb D σ H := by
  unfold tFor iList
  refine gv_lst (R := R) sR hn h i fun L xs HL k oL lx all => ?_
  refine ⟨L, rfl, ⟨_, SqL.of oL⟩, for_list (xs := xs) (fun i σ H' => ExtN HL H' ∧ Tabs T H' ∧ Sh σ) ⟨ExtN.refl _, TH.ext k, sh⟩ (fun i σ H' _ h => SqL.of (h.1 _ _ oL (fun _ z => by cases z))) ?_ ?_⟩
  · rintro i x σ H' ex ⟨e, TH, hs⟩
    exact turn _ HL x σ H' k (all x (List.mem_of_getElem? ex)) e TH hs fun σ2 H2 e2 T2 s2 => ⟨e.trans e2, T2, s2⟩
  · rintro σ H' ⟨e, TH, hs⟩
    exact fin σ H' ((ExtN.of k).trans e) TH hs
theorem gv_mono (h : Gives te σ I R') (r : ∀ v H, R' v H → R v H) : Gives te σ I R := fun H Q i k => h H Q i fun v H' s q => k v H' s (r v H' q)
end
end L2.TB
/-! _law_groups_refused: the first walk -/
namespace L2.TB
open PySem PySem.Spec PyProof.Rows LamX
structure OddG (K : PySem.W.Frag) (H : Hp) (hn : List Str) (t : Addr) (v : V) (i : Nat) : Prop where
  o : H t = some (.tup [v, .int (i : Nat)])
  b : Bad K H hn v (some i)
theorem OddG.ext {K : PySem.W.Frag} {H H' : Hp} {ns : List Str} {t : Addr} {v : V} {i : Nat} (h : OddG K H ns t v i) (s : ExtN H H') : OddG K H' ns t v i := ⟨s _ _ h.o (fun _ z => by cases z), h.b.ext s⟩
theorem OddG.same {K : PySem.W.Frag} {H H' : Hp} {ns : List Str} {t : Addr} {v : V} {i : Nat} (h : OddG K H ns t v i) (s : Same H H') : OddG K H' ns t v i := ⟨s _ _ h.o, h.b.same s⟩
abbrev hN2 : List Str := ["h1", "h2"]
section
variable {P : Program} {w : World} {K : PySem.W.Frag} {mg : Str → Option Value} {base : Heap} {f C CK CQ CH CG CN CB c Pt fK : Addr} {fdK : FuncData} {T : List (Addr × Str)} {A : Around} {outer : List Env} {s : Shared} {H : Hp} {E : XK}
theorem gro_walk1 (R : Trd P w K mg CK CQ CH CG CN CB) (FK : Fun K "knows" "knows" sKnows fK fdK) (gK : mg "knows" = some (.ref fK)) (GK : FnOk P w K mg base (L2.CX P w) 4 fK fdK ["field", "hands", "group", "asked"] (spKnowsX K C CH CQ CG))
    (TB : TabB base mg c Pt) (hm : (Pt, (envOfC "_law_groups_refused" (defScope sGro) s.heap.objs.size f (.ref c)).qual ++ "<lambda>") ∈ T) (hu : ∀ p ∈ T, p.1 = Pt → p.2 = (envOfC "_law_groups_refused" (defScope sGro) s.heap.objs.size f (.ref c)).qual ++ "<lambda>")
    (hr : Room 8 (A.deeper (envOfC "_law_groups_refused" (defScope sGro) s.heap.objs.size f (.ref c)))) :
    ∃ t, PS (cxOf CX0 P w K mg base NGf "_law_groups_refused" (defScope sGro) f (.ref c) A outer s H E).nox ((defBody sGro).getD 1 (.Pass ⟨0, 0, 0, 0⟩)) t ∧ ∀ (D : Ends) (H0 : Hp) (a nm d : Addr) (ns : List Str) (kvs : List (Key × V)) (tbl : List (List Int)) (s3 s4 s5 : Option V), TabAt H0 C a ns tbl → GoodH K H0 ns d kvs hN2 → Tabs T H0 →
      (∀ H' s3 s4 s5, ExtN H0 H' → Tabs T H' → D.nx [some (.ref a), some (.ref nm), some (.ref d), s3, s4, s5] H') → t D [some (.ref a), some (.ref nm), some (.ref d), s3, s4, s5] H0 := by
  obtain ⟨t1, p1, r1⟩ := gro_1 (P := P) (w := w) (outer := outer) (H := H) (E := E) R FK gK GK TB hm hu hr
  have nd := scGf.nd
  refine ⟨_, ps_for PassesOwn.never rfl (pi_list (pe_lst (pa_cons (pe_tup (pa_cons pe_non (pa_cons pe_int pa_nil))) (pa_cons (pe_tup (pa_cons pe_int (pa_cons pe_int pa_nil))) (pa_cons (pe_tup (pa_cons pe_str (pa_cons pe_int pa_nil)))
    (pa_cons (pe_tup (pa_cons (pe_lst (pa_cons pe_str (pa_cons pe_str pa_nil))) (pa_cons pe_int pa_nil))) (pa_cons (pe_tup (pa_cons (pe_lst (pa_cons pe_str (pa_cons pe_str pa_nil))) (pa_cons pe_int pa_nil)))
    (pa_cons (pe_tup (pa_cons (pe_lst (pa_cons pe_non pa_nil)) (pa_cons pe_int pa_nil))) (pa_cons (pe_tup (pa_cons pe_dnewK (pa_cons pe_int pa_nil))) pa_nil)))))))))
    (pg_tup rfl (pgs_cons (pg_name (i := 3) nd rfl (Or.inr rfl)) (pgs_cons (pg_name (i := 4) nd rfl (Or.inl rfl)) pgs_nil))) p1, ?_⟩
  intro D H0 a nm d ns kvs tbl s3 s4 s5 tab G T0 fin
  have sI : ∀ H H' : Hp, Same H H' → (fun _ : Hp => True) H → (fun _ : Hp => True) H' := fun _ _ _ _ => trivial
  have sR : ∀ v H H', Same H H' → (fun v H => ∃ t x i, v = V.ref t ∧ OddG K H hN2 t x i) v H → (fun v H => ∃ t x i, v = V.ref t ∧ OddG K H hN2 t x i) v H' := fun v H H' s ⟨t, x, i, e, O⟩ => ⟨t, x, i, e, O.same s⟩
  have sB : ∀ i : Nat, ∀ v H H', Same H H' → (fun v H => Bad K H hN2 v (some i)) v H → (fun v H => Bad K H hN2 v (some i)) v H' := fun i v H H' s h => h.same s
  have pr : ∀ {σ : L2.St} {te : TE} {i : Nat}, Gives te σ (fun _ => True) (fun v H => Bad K H hN2 v (some i)) → Gives (tTup (tCons te (tCons (tC (.int (i : Nat))) tNil))) σ (fun _ => True) (fun v H => ∃ t x i, v = V.ref t ∧ OddG K H hN2 t x i) := fun {σ te i} h => gv_pair sI (sB i) h fun H t v _ b o => ⟨t, v, i, rfl, o, b⟩
  refine odd_for (n := 7) (I := fun _ => True) (R := fun v H => ∃ t x i, v = V.ref t ∧ OddG K H hN2 t x i) (Sh := fun σ => ∃ s3 s4 s5, σ = [some (.ref a), some (.ref nm), some (.ref d), s3, s4, s5]) (by omega) sR ?_ trivial T0 ⟨_, _, _, rfl⟩ ?_ ?_
  · exact (gvA_cons sI sR (pr (i := 0) (gv_c fun H _ => .no ⟨_, .base .non, by decide +kernel, by decide +kernel⟩))
    (gvA_cons sI sR (pr (i := 0) (gv_c fun H _ => .no ⟨_, .base (.int 5), by decide +kernel, by decide +kernel⟩))
    (gvA_cons sI sR (pr (i := 0) (gv_c fun H _ => .no ⟨_, .base (.str _), by decide +kernel, by decide +kernel⟩))
    (gvA_cons sI sR (pr (i := 1) (gv_new sI (.lst [.str "h1", .str "h1"]) (fun H Q _ h => ⟨(by show 2 ≤ sizeLine; decide), h⟩) (fun H p _ o => .seq (xs := [.str "h1", .str "h1"]) (.inl o) (by intro x hx; simp at hx; subst hx; exact .str _) (by show 2 < 1000; omega))))
    (gvA_cons sI sR (pr (i := 1) (gv_new sI (.lst [.str "h2", .str "h3"]) (fun H Q _ h => ⟨(by show 2 ≤ sizeLine; decide), h⟩) (fun H p _ o => .seq (xs := [.str "h2", .str "h3"]) (.inl o) (by intro x hx; simp at hx; rcases hx with rfl | rfl <;> exact .str _) (by show 2 < 1000; omega))))
    (gvA_cons sI sR (pr (i := 0) (gv_new sI (.lst [.non]) (fun H Q _ h => ⟨(by show 1 ≤ sizeLine; decide), h⟩) (fun H p _ o => .seq (xs := [.non]) (.inl o) (by intro x hx; simp at hx; subst hx; exact .non) (by show 1 < 1000; omega))))
    (gvA_cons sI sR (pr (i := 0) (gv_new sI (.dK []) (fun H Q _ h => h) (fun H p _ o => .no ⟨_, .base (.dK o), by decide +kernel, by decide +kernel⟩)))
    gvA_nil)))))))
  · rintro C' HL x σ' H' k0L ⟨t, v, j, rfl, O⟩ e TH ⟨s3, s4, s5, rfl⟩ next
    have O' := O.ext e
    have e0 := (ExtN.of k0L).trans e
    refine ⟨t, _, rfl, SqT.of O'.o, rfl, _, _, rfl, _, _, rfl, rfl, ?_⟩
    exact r1 _ _ a nm d ns hN2 kvs tbl v j s5 (tab.ext e0) (G.ext e0) O'.b TH (fun H2 e2 T2 => next _ _ e2 T2 ⟨_, _, _, rfl⟩)
  · rintro σ' H' e TH ⟨s3, s4, s5, rfl⟩
    exact fin H' _ _ _ e TH
end
end L2.TB
/-! _law_groups_refused: the second and third walk -/
namespace L2.TB
open PySem PySem.Spec PyProof.Rows LamX
theorem thg_atoms {H : Hp} {a : Addr} {xs : List V} (h : H a = some (.lst xs) ∨ H a = some (.tup xs)) (at_ : ∀ x ∈ xs, Atom x) (sh : xs.length < 1000) : ∃ tr, Thg H 1 (.ref a) tr ∧ TrD 1 tr := by
  refine ⟨.tu (xs.map Tr.one), .seq h (by rw [List.length_map]) sh (fun i x t e1 e2 => ?_), .tu fun i t e => ?_⟩
  · rw [List.getElem?_map, e1] at e2
    obtain rfl := Option.some.inj e2
    exact .one (at_ x (List.mem_of_getElem? e1))
  · rw [List.getElem?_map] at e
    obtain ⟨x, _, rfl⟩ := Option.map_eq_some_iff.mp e
    exact .one _
theorem thg_atom {H : Hp} {v : V} (a : Atom v) : ∃ tr, Thg H 1 v tr ∧ TrD 1 tr := ⟨_, .up (.one a), .up (.one _)⟩
theorem thg_noD {H : Hp} {d : Addr} (h : H d = some (.dK [])) : ∃ tr, Thg H 1 (.ref d) tr ∧ TrD 1 tr := ⟨.di [], .dic h (by show 0 < 1000; omega) .nil (fun _ h => by cases h), .up (.di .nil)⟩
section
variable {P : Program} {w : World} {K : PySem.W.Frag} {mg : Str → Option Value} {base : Heap} {f C CK CQ CH CG CN CB c Pt fK fS : Addr} {fdK fdS : FuncData} {T : List (Addr × Str)} {A : Around} {outer : List Env} {s : Shared} {H : Hp} {E : XK}
theorem gro_walk2 (R : Trd P w K mg CK CQ CH CG CN CB) (FK : Fun K "may_tell" "may_tell" sMayTell fK fdK) (gK : mg "may_tell" = some (.ref fK)) (GK : FnOk P w K mg base (L2.CX P w) 4 fK fdK ["field", "hands", "name", "asked"] (spMayX K C CH CQ CN))
    (FS : Fun K "_law_same" "_law_same" sSame fS fdS) (gS : mg "_law_same" = some (.ref fS)) (M : Sm mg) (TB : TabB base mg c Pt) (hm : (Pt, (envOfC "_law_groups_refused" (defScope sGro) s.heap.objs.size f (.ref c)).qual ++ "<lambda>") ∈ T) (hu : ∀ p ∈ T, p.1 = Pt → p.2 = (envOfC "_law_groups_refused" (defScope sGro) s.heap.objs.size f (.ref c)).qual ++ "<lambda>")
    (hr : Room 8 (A.deeper (envOfC "_law_groups_refused" (defScope sGro) s.heap.objs.size f (.ref c)))) :
    ∃ t, PS (cxOf CX0 P w K mg base NGf "_law_groups_refused" (defScope sGro) f (.ref c) A outer s H E).nox ((defBody sGro).getD 2 (.Pass ⟨0, 0, 0, 0⟩)) t ∧ ∀ (D : Ends) (H0 : Hp) (a nm d : Addr) (ns : List Str) (kvs : List (Key × V)) (tbl : List (List Int)) (s3 s4 s5 : Option V), TabAt H0 C a ns tbl → GoodH K H0 ns d kvs hN2 → valV kvs (Sum.inr "h3") = none → Tabs T H0 →
      (∀ H' s3 s4 s5, ExtN H0 H' → Tabs T H' → D.nx [some (.ref a), some (.ref nm), some (.ref d), s3, s4, s5] H') → t D [some (.ref a), some (.ref nm), some (.ref d), s3, s4, s5] H0 := by
  obtain ⟨t1, p1, r1⟩ := gro_2 (P := P) (w := w) (outer := outer) (H := H) (E := E) R FK gK GK FS gS M TB hm hu hr
  have nd := scGf.nd
  refine ⟨_, ps_for PassesOwn.never rfl (pi_list (pe_lst (pa_cons pe_non (pa_cons pe_int (pa_cons pe_str (pa_cons (pe_lst (pa_cons pe_str pa_nil)) (pa_cons pe_dnewK (pa_cons pe_bl pa_nil))))))))
    (pg_name (i := 3) nd rfl (Or.inr rfl)) p1, ?_⟩
  intro D H0 a nm d ns kvs tbl s3 s4 s5 tab G n3 T0 fin
  have sI : ∀ H H' : Hp, Same H H' → (fun _ : Hp => True) H → (fun _ : Hp => True) H' := fun _ _ _ _ => trivial
  have sR : ∀ v H H', Same H H' → (fun v H => BadHand K H kvs v ∧ ∃ tr, Thg H 1 v tr ∧ TrD 1 tr) v H → (fun v H => BadHand K H kvs v ∧ ∃ tr, Thg H 1 v tr ∧ TrD 1 tr) v H' := fun v H H' s ⟨h, tr, a, b⟩ => ⟨h.same s, tr, a.same s, b⟩
  refine odd_for (n := 6) (I := fun _ => True) (R := fun v H => BadHand K H kvs v ∧ ∃ tr, Thg H 1 v tr ∧ TrD 1 tr) (Sh := fun σ => ∃ s3 s4 s5, σ = [some (.ref a), some (.ref nm), some (.ref d), s3, s4, s5]) (by omega) sR ?_ trivial T0 ⟨_, _, _, rfl⟩ ?_ ?_
  · exact (gvA_cons sI sR (gv_c fun H _ => ⟨.inr ⟨_, .base .non, by decide +kernel⟩, thg_atom .non⟩)
    (gvA_cons sI sR (gv_c fun H _ => ⟨.inr ⟨_, .base (.int 5), by decide +kernel⟩, thg_atom (.int 5)⟩)
    (gvA_cons sI sR (gv_c fun H _ => ⟨.inl ⟨_, rfl, n3⟩, thg_atom (.str _)⟩)
    (gvA_cons sI sR (gv_new sI (.lst [.str "h1"]) (fun H Q _ h => ⟨(by show 1 ≤ sizeLine; decide), h⟩) (fun H p _ o => ⟨.inr ⟨_, .base (.lst o), by decide +kernel⟩, thg_atoms (.inl o) (by intro x hx; simp at hx; subst hx; exact .str _) (by show 1 < 1000; omega)⟩))
    (gvA_cons sI sR (gv_new sI (.dK []) (fun H Q _ h => h) (fun H p _ o => ⟨.inr ⟨_, .base (.dK o), by decide +kernel⟩, thg_noD o⟩))
    (gvA_cons sI sR (gv_c fun H _ => ⟨.inr ⟨_, .base (.bl true), by decide +kernel⟩, thg_atom (.bl true)⟩)
    gvA_nil))))))
  · rintro C' HL x σ' H' k0L ⟨hb, tr, th, td⟩ e TH ⟨s3, s4, s5, rfl⟩ next
    have e0 := (ExtN.of k0L).trans e
    exact r1 _ _ a nm d ns hN2 kvs tbl x tr s4 s5 (tab.ext e0) (G.ext e0) (hb.ext e) (th.ext e) td TH (fun H2 e2 T2 => next _ _ e2 T2 ⟨_, _, _, rfl⟩)
  · rintro σ' H' e TH ⟨s3, s4, s5, rfl⟩
    exact fin H' _ _ _ e TH
theorem gro_walk3 (R : Trd P w K mg CK CQ CH CG CN CB) (FK : Fun K "is_safe" "is_safe" sIsSafe fK fdK) (gK : mg "is_safe" = some (.ref fK)) (GK : FnOk P w K mg base (L2.CX P w) 4 fK fdK ["field", "hands", "most", "asked"] (spSafeX K C CH CQ CB))
    (FS : Fun K "_law_same" "_law_same" sSame fS fdS) (gS : mg "_law_same" = some (.ref fS)) (M : Sm mg) (TB : TabB base mg c Pt) (hm : (Pt, (envOfC "_law_groups_refused" (defScope sGro) s.heap.objs.size f (.ref c)).qual ++ "<lambda>") ∈ T) (hu : ∀ p ∈ T, p.1 = Pt → p.2 = (envOfC "_law_groups_refused" (defScope sGro) s.heap.objs.size f (.ref c)).qual ++ "<lambda>")
    (hr : Room 8 (A.deeper (envOfC "_law_groups_refused" (defScope sGro) s.heap.objs.size f (.ref c)))) :
    ∃ t, PS (cxOf CX0 P w K mg base NGf "_law_groups_refused" (defScope sGro) f (.ref c) A outer s H E).nox ((defBody sGro).getD 3 (.Pass ⟨0, 0, 0, 0⟩)) t ∧ ∀ (D : Ends) (H0 : Hp) (a nm d : Addr) (ns : List Str) (kvs : List (Key × V)) (tbl : List (List Int)) (s3 s4 s5 : Option V), TabAt H0 C a ns tbl → GoodH K H0 ns d kvs hN2 → Tabs T H0 →
      (∀ H' s3 s4 s5, ExtN H0 H' → Tabs T H' → D.nx [some (.ref a), some (.ref nm), some (.ref d), s3, s4, s5] H') → t D [some (.ref a), some (.ref nm), some (.ref d), s3, s4, s5] H0 := by
  obtain ⟨t1, p1, r1⟩ := gro_3 (P := P) (w := w) (outer := outer) (H := H) (E := E) R FK gK GK FS gS M TB hm hu hr
  have nd := scGf.nd
  refine ⟨_, ps_for PassesOwn.never rfl (pi_list (pe_lst (pa_cons pe_non (pa_cons (pe_un un_neg pe_int) (pa_cons pe_bl (pa_cons pe_str (pa_cons (pe_lst (pa_cons pe_int pa_nil)) (pa_cons pe_dnewK pa_nil))))))))
    (pg_name (i := 3) nd rfl (Or.inr rfl)) p1, ?_⟩
  intro D H0 a nm d ns kvs tbl s3 s4 s5 tab G T0 fin
  have sI : ∀ H H' : Hp, Same H H' → (fun _ : Hp => True) H → (fun _ : Hp => True) H' := fun _ _ _ _ => trivial
  have sR : ∀ v H H', Same H H' → (fun v H => BadCnt K H v ∧ ∃ tr, Thg H 1 v tr ∧ TrD 1 tr) v H → (fun v H => BadCnt K H v ∧ ∃ tr, Thg H 1 v tr ∧ TrD 1 tr) v H' := fun v H H' s ⟨h, tr, a, b⟩ => ⟨h.same s, tr, a.same s, b⟩
  refine odd_for (n := 6) (I := fun _ => True) (R := fun v H => BadCnt K H v ∧ ∃ tr, Thg H 1 v tr ∧ TrD 1 tr) (Sh := fun σ => ∃ s3 s4 s5, σ = [some (.ref a), some (.ref nm), some (.ref d), s3, s4, s5]) (by omega) sR ?_ trivial T0 ⟨_, _, _, rfl⟩ ?_ ?_
  · exact (gvA_cons sI sR (gv_c fun H _ => ⟨.inr (.ty (.base .non) (by decide +kernel)), thg_atom .non⟩)
    (gvA_cons sI sR (fun H Q _ k => ⟨1, rfl, k _ _ (Same.refl _) ⟨.inl ⟨-1, rfl, by decide⟩, thg_atom (.int _)⟩⟩)
    (gvA_cons sI sR (gv_c fun H _ => ⟨.inr (.bl true), thg_atom (.bl true)⟩)
    (gvA_cons sI sR (gv_c fun H _ => ⟨.inr (.ty (.base (.str _)) (by decide +kernel)), thg_atom (.str _)⟩)
    (gvA_cons sI sR (gv_new sI (.lst [.int 1]) (fun H Q _ h => ⟨(by show 1 ≤ sizeLine; decide), h⟩) (fun H p _ o => ⟨.inr (.ty (.base (.lst o)) (by decide +kernel)), thg_atoms (.inl o) (by intro x hx; simp at hx; subst hx; exact .int _) (by show 1 < 1000; omega)⟩))
    (gvA_cons sI sR (gv_new sI (.dK []) (fun H Q _ h => h) (fun H p _ o => ⟨.inr (.ty (.base (.dK o)) (by decide +kernel)), thg_noD o⟩))
    gvA_nil))))))
  · rintro C' HL x σ' H' k0L ⟨hb, tr, th, td⟩ e TH ⟨s3, s4, s5, rfl⟩ next
    have e0 := (ExtN.of k0L).trans e
    exact r1 _ _ a nm d ns hN2 kvs tbl x tr s4 s5 (tab.ext e0) (G.ext e0) (hb.ext e) (th.ext e) td TH (fun H2 e2 T2 => next _ _ e2 T2 ⟨_, _, _, rfl⟩)
  · rintro σ' H' e TH ⟨s3, s4, s5, rfl⟩
    exact fin H' _ _ _ e TH
end
end L2.TB
/-! _law_groups_refused whole -/
namespace L2.TB
open PySem PySem.Spec PyProof.Rows LamX
section
variable {P : Program} {w : World} {K : PySem.W.Frag} {mg : Str → Option Value} {base : Heap} {f C CK CQ CH CG CN CB c Pt fS : Addr} {fd fdS : FuncData} {T : List (Addr × Str)}
theorem badAt_one {ns : List Str} {y : Str} (h : y ∈ ns) : badAt ns [.str y] [] 0 = none := by simp [badAt, strOf, h]
theorem ok_gro (FE : Fun K "_law_groups_refused" "_law_groups_refused" sGro f fd) (hc : fd.code = .ref c) (F : GroF P w K mg base C CK CQ CH CG CN CB) (TB : TabB base mg c Pt) (hm : (Pt, ("_law_groups_refused" : Str) ++ ".<locals>." ++ "<lambda>") ∈ T) (hu : ∀ p ∈ T, p.1 = Pt → p.2 = ("_law_groups_refused" : Str) ++ ".<locals>." ++ "<lambda>")
    (FS : Fun K "_law_same" "_law_same" sSame fS fdS) (gS : mg "_law_same" = some (.ref fS)) (M : Sm mg) : FnOk P w K mg base CX0 9 f fd ["table", "names"] (spEng C T) := by
  obtain ⟨oc, od, kV, doc, pm, an, cdv, ct, osl, rfl, lk, hcd⟩ := FE.ex
  obtain rfl : cdv = .ref c := hc
  refine fn_of lk hcd scGf (fun vs H Q E h => by obtain ⟨a, nm, ns, tbl, e, _⟩ := h; rw [e]; rfl) fun A outer s H vs Q E hr hsp => ?_
  obtain ⟨a, nm, ns, tbl, rfl, I, T0, hq⟩ := hsp
  obtain ⟨f1, fd1, g1, F1, G1⟩ := F.kn
  obtain ⟨f2, fd2, g2, F2, G2⟩ := F.my
  obtain ⟨f3, fd3, g3, F3, G3⟩ := F.sf
  obtain ⟨t1, p1, r1⟩ := gro_walk1 (P := P) (w := w) (outer := outer) (H := H) (E := E) F.R F1 g1 G1 TB hm hu hr
  obtain ⟨t2, p2, r2⟩ := gro_walk2 (P := P) (w := w) (outer := outer) (H := H) (E := E) F.R F2 g2 G2 FS gS M TB hm hu hr
  obtain ⟨t3, p3, r3⟩ := gro_walk3 (P := P) (w := w) (outer := outer) (H := H) (E := E) F.R F3 g3 G3 FS gS M TB hm hu hr
  obtain ⟨t4, p4, r4⟩ := gro_walk4 (P := P) (w := w) (outer := outer) (H := H) (E := E) F TB hm hu FS gS M hr
  have nd := scGf.nd
  refine ⟨_, PSs.nox (st := defBody sGro) (pss_cons (ps_set (i := 2) nd rfl (Or.inr rfl) (pe_disp (pps_cons pe_str (pe_slice sl_list (pv 1) po_none (po_some pe_int)) (pps_cons pe_str (pe_lst pa_nil) pps_nil)) rfl rfl (by decide) (by decide)))
    (pss_cons p1 (pss_cons p2 (pss_cons p3 (pss_cons p4 (pss_one (ps_ret pe_bl))))))), ?_⟩
  obtain ⟨y, ns', rfl⟩ : ∃ y ns', ns = y :: ns' := by
    cases ns with
    | nil => exact absurd rfl I.ne
    | cons y r => exact ⟨y, r, rfl⟩
  intro d ndd
  have kd := same_new (o := .dK []) ndd
  have od0 : upd H d (.dK []) d = some (.dK []) := upd_same
  generalize hH1 : upd H d (.dK []) = H1 at kd od0
  refine ⟨_, rfl, 1, rfl, nm, _, rfl, SqL.of (kd _ _ I.o), fun l nl => ?_⟩
  have kl := same_new (o := .lst (cutV ((y :: ns').map V.str) none (some 1))) nl
  have ol : upd H1 l (.lst (cutV ((y :: ns').map V.str) none (some 1))) l = some (.lst [.str y]) := by rw [upd_same]; rfl
  generalize upd H1 l (.lst (cutV ((y :: ns').map V.str) none (some 1))) = H2 at kl ol
  refine ⟨(by show 0 ≤ sizeLine; omega), fun l2 nl2 => ?_⟩
  have kl2 := same_new (o := .lst []) nl2
  have ol2 : upd H2 l2 (.lst []) l2 = some (.lst []) := upd_same
  generalize upd H2 l2 (.lst []) = H3 at kl2 ol2
  refine ⟨(kl.trans kl2) _ _ od0, [(Sum.inr "h1", .ref l), (Sum.inr "h2", .ref l2)], rfl, (by show 2 ≤ 15; omega), ?_⟩
  have nk : (([(Sum.inr "h1", V.ref l), (Sum.inr "h2", V.ref l2)] : List (Key × V)).map (·.1)).Nodup := by show ([Sum.inr "h1", Sum.inr "h2"] : List Key).Nodup; decide
  rw [merge_nd nk]
  have ne1 : l ≠ d := ne_of (kl2 _ _ ol) ((kl.trans kl2) _ _ od0) (by intro z; cases z)
  have ne2 : l2 ≠ d := ne_of ol2 ((kl.trans kl2) _ _ od0) (by intro z; cases z)
  have k3 : Same H (upd H3 d (.dK [(Sum.inr "h1", .ref l), (Sum.inr "h2", .ref l2)])) := fun b o e => by
    rw [upd_ne (ne_of_none e ndd)]
    exact (kl.trans kl2) _ _ (kd _ _ e)
  have od : upd H3 d (.dK [(Sum.inr "h1", .ref l), (Sum.inr "h2", .ref l2)]) d = some (.dK [(Sum.inr "h1", .ref l), (Sum.inr "h2", .ref l2)]) := upd_same
  have o1 : upd H3 d (.dK [(Sum.inr "h1", .ref l), (Sum.inr "h2", .ref l2)]) l = some (.lst [.str y]) := by rw [upd_ne ne1]; exact kl2 _ _ ol
  have o2 : upd H3 d (.dK [(Sum.inr "h1", .ref l), (Sum.inr "h2", .ref l2)]) l2 = some (.lst []) := by rw [upd_ne ne2]; exact ol2
  generalize upd H3 d (.dK [(Sum.inr "h1", .ref l), (Sum.inr "h2", .ref l2)]) = H4 at k3 od o1 o2
  have G : GoodH K H4 (y :: ns') d [(Sum.inr "h1", .ref l), (Sum.inr "h2", .ref l2)] hN2 := by
    refine ⟨by simp, ⟨od, nk, by show 2 < 1000; omega, fun kv hk x e => ?_, fun i kv lt e => ?_⟩, rfl⟩
    · simp only [List.mem_cons, List.not_mem_nil, or_false] at hk
      rcases hk with rfl | rfl <;> (obtain rfl := Sum.inr.inj e; decide +kernel)
    · match i, e with
      | 0, e =>
        obtain rfl := Option.some.inj e
        have z : Bad K H4 (y :: ns') (.ref l) (badAt (y :: ns') [.str y] [] 0) := .seq (.inl o1) (by intro x hx; simp at hx; subst hx; exact .str _) (by show 1 < 1000; omega)
        rw [badAt_one (by simp)] at z
        exact .val (by decide +kernel) z
      | 1, e =>
        obtain rfl := Option.some.inj e
        have z : Bad K H4 (y :: ns') (.ref l2) (badAt (y :: ns') [] [] 0) := .seq (.inl o2) (by intro x hx; cases hx) (by show 0 < 1000; omega)
        exact .val (by decide +kernel) z
      | i + 2, e => cases e
  have I4 := I.ext (ExtN.of k3)
  have T4 := T0.ext k3
  have h1 : (valV [((Sum.inr "h1" : Key), V.ref l), (Sum.inr "h2", .ref l2)] (Sum.inr "h1")).isSome = true := by rw [valV_pos rfl]; rfl
  have h3 : valV [((Sum.inr "h1" : Key), V.ref l), (Sum.inr "h2", .ref l2)] (Sum.inr "h3") = none := by rw [valV_neg (by show ¬ (Sum.inr "h1" : Key) = (Sum.inr "h3" : Key); decide), valV_neg (by show ¬ (Sum.inr "h2" : Key) = (Sum.inr "h3" : Key); decide)]; rfl
  refine r1 _ _ a nm d (y :: ns') _ tbl _ _ _ I4.t G T4 fun H5 s3 s4 s5 e5 T5 => ?_
  have I5 := I4.ext e5
  have G5 := G.ext e5
  refine r2 _ _ a nm d (y :: ns') _ tbl _ _ _ I5.t G5 h3 T5 fun H6 s3 s4 s5 e6 T6 => ?_
  have I6 := I5.ext e6
  have G6 := G5.ext e6
  refine r3 _ _ a nm d (y :: ns') _ tbl _ _ _ I6.t G6 T6 fun H7 s3 s4 s5 e7 T7 => ?_
  have I7 := I6.ext e7
  have G7 := G6.ext e7
  refine r4 _ _ a nm d (y :: ns') hN2 _ tbl _ _ _ I7 G7 h1 T7 fun H8 s3 s4 s5 e8 T8 => ?_
  exact hq _ (((((ExtN.of k3).trans e5).trans e6).trans e7).trans e8) T8
end
end L2.TB
/-! dicts whose keys are of several kinds: found, read, stored -/
namespace L2.MK
open PySem PySem.Spec PyProof.Rows SeqAt
/-- the entries' keys -/
structure Ents (w : World) (h : Heap) (es : Array DictEntry) (ks : List NestedKey) : Prop where
  len : es.size = ks.length
  is_ : ∀ (i : Nat) (e : DictEntry) (k : NestedKey), es[i]? = some e → ks[i]? = some k → NestedIs h k e.key ∧ e.hash = k.hash w
  nd : ks.Nodup
  dp : ∀ k ∈ ks, k.depth ≤ 8
section
variable {prog : Program} {w : World} {A : Around} {E : Value → Shared → Prop} {s : Shared} {d : Addr} {o : Obj} {es : Array DictEntry} {ep : Nat} {ks : List NestedKey} {k : NestedKey} {key : Value}
theorem Ents.keyAt (he : Ents w s.heap es ks) {i : Nat} {e : DictEntry} (h : es[i]? = some e) : ∃ k, ks[i]? = some k ∧ NestedIs s.heap k e.key ∧ e.hash = k.hash w ∧ k.depth ≤ 8 := by
  have lt : i < ks.length := by rw [← he.len]; exact (Array.getElem?_eq_some_iff.mp h).1
  obtain ⟨a, b⟩ := he.is_ i e ks[i] h (List.getElem?_eq_getElem lt)
  exact ⟨_, List.getElem?_eq_getElem lt, a, b, he.dp _ (List.getElem_mem lt)⟩
theorem Ents.ent (he : Ents w s.heap es ks) {i : Nat} (h : ks[i]? = some k) : ∃ e, es[i]? = some e ∧ NestedIs s.heap k e.key ∧ e.hash = k.hash w := by
  have lt : i < es.size := by rw [he.len]; exact (List.getElem?_eq_some_iff.mp h).1
  obtain ⟨a, b⟩ := he.is_ i es[i] k (Array.getElem?_eq_getElem lt) h
  exact ⟨_, Array.getElem?_eq_getElem lt, a, b⟩
/-- a stored key asked whether it is key -/
theorem eq_key (hu : A.units + 8 < cLine) {x y : NestedKey} {u v : Value} {Q : Bool → Shared → Prop} (hx : NestedIs s.heap x u) (hy : NestedIs s.heap y v) (dx : x.depth ≤ 8) (h : Q (decide (x = y)) s) : wpAny (model prog w) A (eqBool u v) Q E s := by
  rw [NestedKey.decide_eq] at h
  exact eqAt_key x y A s u v hx hy (by omega) prog w E Q h
theorem nk_tell {stored : List Value} {Q : Bool → Shared → Prop} (hk : NestedIs s.heap k key) (hd8 : k.depth ≤ 8) (hst : ∀ v ∈ stored, ∃ k' : NestedKey, NestedIs s.heap k' v ∧ k'.depth ≤ 8) (h : Q false s) : wpAny (model prog w) A (tableMayTell key stored) Q E s := by
  unfold tableMayTell
  by_cases h0 : stored.isEmpty = true
  · rw [if_pos h0]; exact wpAny_pure h
  rw [if_neg h0]
  refine wpAny_bind (quiet_key k key 8 s hk hd8 A E _ ?_)
  rw [if_neg (by decide)]
  refine wpAny_bind (wpAny_forIn_list _ (fun rest r s' => s' = s ∧ r = (none, ()) ∧ ∀ v ∈ rest, ∃ k' : NestedKey, NestedIs s.heap k' v ∧ k'.depth ≤ 8) _ ?_ ?_ _ _ ⟨rfl, rfl, hst⟩)
  · rintro x rest r s' ⟨rfl, rfl, al⟩
    obtain ⟨k', hx, hd⟩ := al x (by simp)
    refine wpAny_bind (quiet_key k' x 8 s' hx hd A E _ ?_)
    rw [if_neg (by decide)]
    exact wpAny_pure ⟨rfl, rfl, fun v hv => al v (List.mem_cons_of_mem _ hv)⟩
  · rintro r s' ⟨rfl, rfl, _⟩
    exact wpAny_pure h
theorem places_mem {n : Nat} {f : Nat → Option Int} {h : Int} {i : Nat} : i ∈ placesWithHash n f h ↔ i < n ∧ f i = some h := by
  unfold placesWithHash
  rw [List.mem_filter, List.mem_range, beq_iff_eq]
theorem places_nodup {n : Nat} {f : Nat → Option Int} {h : Int} : (placesWithHash n f h).Nodup := List.Pairwise.filter _ List.nodup_range
/-- the general walk, behind the looks at the key -/
theorem fin_ {Q : Option Nat → Shared → Prop} (hu : A.units + 8 < cLine) (ho : s.heap.get? d = some o) (hd : o.data = .dict es ep) (he : Ents w s.heap es ks) (hk : NestedIs s.heap k key) (hd8 : k.depth ≤ 8) (hnone : k ∉ ks → Q none s) (hsome : ∀ j, ks[j]? = some k → Q (some j) s)
    (pm : ∀ {i : Nat}, i ∈ placesWithHash es.size (fun i => es[i]?.map (·.hash)) (k.hash w) → ∃ e k', es[i]? = some e ∧ ks[i]? = some k' ∧ NestedIs s.heap k' e.key ∧ e.hash = k.hash w ∧ k'.depth ≤ 8)
    (mp : ∀ j : Nat, ks[j]? = some k → j ∈ placesWithHash es.size (fun i => es[i]?.map (·.hash)) (k.hash w)) (none_of : (∀ j : Nat, ks[j]? ≠ some k) → k ∉ ks) (one : ∀ {i j : Nat}, ks[i]? = some k → ks[j]? = some k → i = j)
    (all_st : ∀ v ∈ (placesWithHash es.size (fun i => es[i]?.map (·.hash)) (k.hash w)).filterMap (fun i => es[i]?.map (·.key)), ∃ k' : NestedKey, NestedIs s.heap k' v ∧ k'.depth ≤ 8) :
    wpAny (model prog w) A (do
      let tells ← if (placesWithHash es.size (fun i => es[i]?.map (·.hash)) (k.hash w)).filterMap (fun i => es[i]?.map (·.key)) == [key] then pure false else tableMayTell key ((placesWithHash es.size (fun i => es[i]?.map (·.hash)) (k.hash w)).filterMap (fun i => es[i]?.map (·.key)))
      if tells && ((placesWithHash es.size (fun i => es[i]?.map (·.hash)) (k.hash w)).filterMap (fun i => es[i]?.map (·.key))).length ≥ 2 then unsupported "dict.find:order-among-keys-of-one-hash"
      let mut hit : Option Nat := none
      for i in placesWithHash es.size (fun i => es[i]?.map (·.hash)) (k.hash w) do
        if let some e := es[i]? then
          if e.hash == k.hash w then
            let before ← dictEpoch d (keyPart key)
            let same ← eqBool e.key key
            if (← dictEpoch d (keyPart key)) != before then unsupported "dict.changed-during-lookup"
            if same then
              if hit.isSome then unsupported "dict.find:order-among-keys-of-one-hash"
              rule "dict.find.hit"
              if ((placesWithHash es.size (fun i => es[i]?.map (·.hash)) (k.hash w)).filterMap (fun i => es[i]?.map (·.key))).length < 2 then return some i
              hit := some i
            else
              rule "dict.find.same-hash-other-key"
              if tells && !(0 ≤ k.hash w && k.hash w < 32) then unsupported "dict.find:asked-again-or-not-hangs-on-the-table"
      return hit : Sem (Option Nat)) Q E s := by
  by_cases hone : ((placesWithHash es.size (fun i => es[i]?.map (·.hash)) (k.hash w)).filterMap (fun i => es[i]?.map (·.key)) == [key]) = true <;>
  (dsimp only; first | rw [if_pos hone] | rw [if_neg hone]) <;> (first | refine wpAny_bind (wpAny_pure ?_) | refine wpAny_bind (nk_tell hk hd8 all_st ?_)) <;> (
    try dsimp only
    rw [if_neg (by simp)]
    refine wpAny_bind (wpAny_forIn_list _ (fun rest b s' => s' = s ∧ ∃ hit, b = (none, hit) ∧ rest.Nodup ∧ (∀ i ∈ rest, i ∈ placesWithHash es.size (fun i => es[i]?.map (·.hash)) (k.hash w)) ∧
      ((hit = none ∧ ∀ j, ks[j]? = some k → j ∈ rest) ∨ ∃ j, hit = some j ∧ ks[j]? = some k ∧ j ∉ rest)) _ ?_ ?_ _ _ ⟨rfl, none, rfl, places_nodup, fun _ h => h, .inl ⟨rfl, mp⟩⟩)
    · rintro x rest b s' ⟨rfl, hit, rfl, nd, sub, hH⟩
      obtain ⟨e, k', ee, ek, hx, eh, dk⟩ := pm (sub x (by simp))
      rw [List.nodup_cons] at nd
      have sub' : ∀ i ∈ rest, i ∈ placesWithHash es.size (fun i => es[i]?.map (·.hash)) (k.hash w) := fun i hi => sub i (List.mem_cons_of_mem _ hi)
      rw [ee]
      dsimp only
      rw [if_pos (by rw [eh]; exact beq_self_eq_true _)]
      refine wpAny_bind (wpAny_dictEpoch ho hd (wpAny_bind (eq_key hu hx hk dk (wpAny_bind (wpAny_dictEpoch ho hd ?_)))))
      show wpAny _ _ (if (ep != ep) = true then _ else _) _ E _
      rw [if_neg (by simp)]
      by_cases hkk : k' = k
      · subst hkk
        rw [decide_eq_true rfl]
        rcases hH with ⟨rfl, al⟩ | ⟨j, rfl, hj, nj⟩
        · rw [if_pos rfl, if_neg (by simp)]
          refine wpAny_bind (wpAny_rule ?_)
          split
          · exact wpAny_pure (wpAny_pure (hsome x ek))
          · exact wpAny_pure ⟨rfl, some x, rfl, nd.2, sub', .inr ⟨x, rfl, ek, nd.1⟩⟩
        · exact absurd (by rw [one hj ek]; simp) nj
      · rw [decide_eq_false hkk, if_neg (by simp)]
        refine wpAny_bind (wpAny_rule ?_)
        rw [if_neg (by simp)]
        refine wpAny_pure ⟨rfl, hit, rfl, nd.2, sub', ?_⟩
        rcases hH with ⟨rfl, al⟩ | ⟨j, rfl, hj, nj⟩
        · refine .inl ⟨rfl, fun j hj => ?_⟩
          rcases List.mem_cons.mp (al j hj) with z | z
          · rw [z, ek] at hj; exact absurd (Option.some.inj hj) hkk
          · exact z
        · exact .inr ⟨j, rfl, hj, fun z => nj (List.mem_cons_of_mem _ z)⟩
    · rintro b s' ⟨rfl, hit, rfl, _, _, hH⟩
      rcases hH with ⟨rfl, al⟩ | ⟨j, rfl, hj, _⟩
      · exact wpAny_pure (hnone (none_of fun j hj => by cases al j hj))
      · exact wpAny_pure (hsome j hj))
/-- key is looked for -/
theorem nk_find {Q : Option Nat → Shared → Prop} (hu : A.units + 8 < cLine) (hk : NestedIs s.heap k key) (hd8 : k.depth ≤ 8) (ho : s.heap.get? d = some o) (hd : o.data = .dict es ep) (he : Ents w s.heap es ks) (hnone : k ∉ ks → Q none s) (hsome : ∀ j, ks[j]? = some k → Q (some j) s) :
    wpAny (model prog w) A (dictFind d key (k.hash w)) Q E s := by
  have pm : ∀ {i : Nat}, i ∈ placesWithHash es.size (fun i => es[i]?.map (·.hash)) (k.hash w) → ∃ e k', es[i]? = some e ∧ ks[i]? = some k' ∧ NestedIs s.heap k' e.key ∧ e.hash = k.hash w ∧ k'.depth ≤ 8 := fun {i} hi => by
    obtain ⟨lt, eq⟩ := places_mem.mp hi
    obtain ⟨e, ee, eh⟩ := Option.map_eq_some_iff.mp eq
    obtain ⟨k', a, b, c, d⟩ := he.keyAt ee
    exact ⟨e, k', ee, a, b, eh, d⟩
  have mp : ∀ j, ks[j]? = some k → j ∈ placesWithHash es.size (fun i => es[i]?.map (·.hash)) (k.hash w) := fun j hj => by
    obtain ⟨e, ee, _, eh⟩ := he.ent hj
    exact places_mem.mpr ⟨(Array.getElem?_eq_some_iff.mp ee).1, by rw [ee, Option.map_some, eh]⟩
  have one : ∀ {i j : Nat}, ks[i]? = some k → ks[j]? = some k → i = j := fun {i j} a b => (List.getElem?_inj (List.getElem?_eq_some_iff.mp a).1 he.nd).mp (a.trans b.symm)
  have none_of : (∀ j, ks[j]? ≠ some k) → k ∉ ks := fun h m => by
    obtain ⟨j, hj⟩ := List.mem_iff_getElem?.mp m
    exact h j hj
  have plain : wpAny (model prog w) A (dictWalkPlain d key (k.hash w) es (placesWithHash es.size (fun i => es[i]?.map (·.hash)) (k.hash w))) Q E s := by
    unfold dictWalkPlain
    refine wpAny_bind (wpAny_forIn_list _ (fun rest b s' => s' = s ∧ b = (none, ()) ∧ (∀ i ∈ rest, i ∈ placesWithHash es.size (fun i => es[i]?.map (·.hash)) (k.hash w)) ∧ ∀ j, ks[j]? = some k → j ∈ rest) _ ?_ ?_ _ _ ⟨rfl, rfl, fun _ h => h, mp⟩)
    · rintro x rest b s' ⟨rfl, rfl, sub, al⟩
      obtain ⟨e, k', ee, ek, hx, eh, dk⟩ := pm (sub x (by simp))
      rw [ee]
      dsimp only
      rw [if_pos (by rw [eh]; exact beq_self_eq_true _)]
      refine wpAny_bind (wpAny_dictEpoch ho hd (wpAny_bind (eq_key hu hx hk dk (wpAny_bind (wpAny_dictEpoch ho hd ?_)))))
      show wpAny _ _ (if (ep != ep) = true then _ else _) _ E _
      rw [if_neg (by simp)]
      by_cases hkk : k' = k
      · subst hkk
        rw [decide_eq_true rfl]
        exact wpAny_bind (wpAny_rule (wpAny_pure (wpAny_pure (hsome x ek))))
      · rw [decide_eq_false hkk]
        refine wpAny_bind (wpAny_rule (wpAny_pure ⟨rfl, rfl, fun i hi => sub i (List.mem_cons_of_mem _ hi), fun j hj => ?_⟩))
        rcases List.mem_cons.mp (al j hj) with z | z
        · rw [z, ek] at hj; exact absurd (Option.some.inj hj) hkk
        · exact z
    · rintro b s' ⟨rfl, rfl, _, al⟩
      exact wpAny_pure (hnone (none_of fun j hj => by cases al j hj))
  have all_st : ∀ v ∈ (placesWithHash es.size (fun i => es[i]?.map (·.hash)) (k.hash w)).filterMap (fun i => es[i]?.map (·.key)), ∃ k' : NestedKey, NestedIs s.heap k' v ∧ k'.depth ≤ 8 := fun v hv => by
    obtain ⟨i, hi, ev⟩ := List.mem_filterMap.mp hv
    obtain ⟨e, k', ee, _, hx, _, dk⟩ := pm hi
    rw [ee] at ev
    obtain rfl : e.key = v := by simpa using ev
    exact ⟨k', hx, dk⟩
  have keys_in : ∀ e ∈ es, ∃ k' : NestedKey, NestedIs s.heap k' e.key ∧ e.hash = k'.hash w := fun e hm => by
    obtain ⟨i, hi, rfl⟩ := Array.mem_iff_getElem.mp hm
    obtain ⟨k', _, a, b, _⟩ := he.keyAt (Array.getElem?_eq_getElem hi)
    exact ⟨k', a, b⟩
  unfold dictFind
  try with_reducible refine wpAny_holding ?_
  refine wpAny_bind (wpAny_dictEntries ho hd ?_)
  dsimp only
  by_cases hall : ((key :: (placesWithHash es.size (fun i => es[i]?.map (·.hash)) (k.hash w)).filterMap (fun i => es[i]?.map (·.key))).all carriedByValue) = true
  · rw [if_pos hall]
    split
    next x t =>
      split
      next hs =>
        cases hk with
        | text x t =>
          unfold foundByValue
          cases hf : es.findIdx? (fun e => e.key.isStr x) with
          | none =>
            refine wpAny_pure (hnone (none_of fun j hj => ?_))
            obtain ⟨e, ee, ke, _⟩ := he.ent hj
            have z := Array.findIdx?_eq_none_iff.mp hf e (Array.mem_of_getElem? ee)
            generalize e.key = u at ke z
            cases ke
            simp [Value.isStr] at z
          | some i =>
            obtain ⟨lt, yes, _⟩ := Array.findIdx?_eq_some_iff_getElem.mp hf
            obtain ⟨k', ek, hx, _, dk⟩ := he.keyAt (Array.getElem?_eq_getElem lt)
            have e2 : k' = .text x := by
              generalize es[i].key = u at yes hx
              cases hx with
              | text y t2 => simp [Value.isStr] at yes; rw [yes]
              | none => cases yes
              | bool _ => cases yes
              | int _ _ => cases yes
              | tup _ _ _ _ => cases yes
            subst e2
            simp only [Array.getElem?_eq_getElem lt]
            refine wpAny_bind (wpAny_dictEpoch ho hd (wpAny_bind (eq_key hu hx (.text x t) dk (wpAny_bind (wpAny_dictEpoch ho hd ?_)))))
            show wpAny _ _ (if (ep != ep) = true then _ else _) _ E _
            rw [if_neg (by simp), decide_eq_true rfl]
            exact wpAny_bind (wpAny_rule (wpAny_pure (hsome i ek)))
      next => exact plain
    next => exact plain
  · rw [if_neg hall]
    have hk' := hk
    have hany : ¬ (es.any fun e => e.key == key && e.hash != k.hash w) = true := fun z => by
      obtain ⟨i, hi, q⟩ := Array.any_eq_true.mp z
      obtain ⟨k', a, b⟩ := keys_in es[i] (Array.getElem_mem hi)
      rw [Bool.and_eq_true, beq_iff_eq, bne_iff_ne] at q
      rw [q.1] at a
      exact q.2 (by rw [b, NestedIs.inj _ _ _ a hk])
    cases hk
    case text x t =>
      dsimp only
      rw [if_neg (fun hs => hall (by
        rw [List.all_cons, Bool.and_eq_true]
        refine ⟨rfl, List.all_eq_true.mpr fun v hv => ?_⟩
        obtain ⟨i, hi, ev⟩ := List.mem_filterMap.mp hv
        obtain ⟨e, k', ee, _, hx, _, dk⟩ := pm hi
        rw [ee] at ev
        obtain rfl : e.key = v := by simpa using ev
        have z := Array.all_eq_true_iff_forall_mem.mp hs e (Array.mem_of_getElem? ee)
        generalize e.key = u at z
        cases u <;> first | rfl | cases z))]
      exact fin_ hu ho hd he hk' hd8 hnone hsome pm mp none_of one all_st
    case tup h1 h2 h3 h4 =>
      dsimp only
      rw [if_neg hany]
      exact fin_ hu ho hd he hk' hd8 hnone hsome pm mp none_of one all_st
    all_goals (dsimp only; exact fin_ hu ho hd he hk' hd8 hnone hsome pm mp none_of one all_st)
end
end L2.MK
/-! dicts whose keys are of several kinds: got, stored anew, displayed -/
namespace L2.MK
open PySem PySem.Spec PyProof.Rows SeqAt
section
variable {prog : Program} {w : World} {A : Around} {E : Value → Shared → Prop} {s : Shared} {d : Addr} {o : Obj} {es : Array DictEntry} {ep : Nat} {ks : List NestedKey} {k : NestedKey} {key : Value}
theorem nk_get {Q : Option Value → Shared → Prop} (hu : A.units + 8 < cLine) (hk : NestedIs s.heap k key) (hd8 : k.depth ≤ 8) (ho : s.heap.get? d = some o) (hd : o.data = .dict es ep) (he : Ents w s.heap es ks)
    (hnone : k ∉ ks → Q none { s with toks := s.toks + k.draws }) (hsome : ∀ (j : Nat) (e : DictEntry), ks[j]? = some k → es[j]? = some e → Q (some e.val) { s with toks := s.toks + k.draws }) : wpAny (model prog w) A (dictGet d key) Q E s := by
  unfold dictGet
  try with_reducible refine wpAny_holding ?_
  refine wpAny_bind (pyHash_key k key A s _ hk (by omega) ?_)
  refine wpAny_bind (nk_find (s := { s with toks := s.toks + k.draws }) hu hk hd8 ho hd he (fun h => wpAny_pure (hnone h)) fun j hj => ?_)
  obtain ⟨e, ee, _⟩ := he.ent hj
  refine wpAny_bind (wpAny_dictEntries (s := { s with toks := s.toks + k.draws }) ho hd ?_)
  rw [ee]
  exact wpAny_pure (hsome j e hj ee)
/-- the dict at d in h has these entries -/
def DictIs (h : Heap) (d : Addr) (es : Array DictEntry) : Prop := ∃ o ep, h.get? d = some o ∧ o.ExactDict ∧ o.data = .dict es ep
theorem nested_but {h h' : Heap} (hd : DictIs h d es) (hs : Heap.SameBut d h h') {v : Value} (x : NestedIs h k v) : NestedIs h' k v := NestedIs.at (fun a o vs n e q => by
  rw [hs.2 a (fun z => by
    subst z
    obtain ⟨o2, ep, e2, _, q2⟩ := hd
    rw [e] at e2
    cases e2
    rw [q] at q2
    cases q2)]
  exact e) k v x
theorem ents_but {h h' : Heap} {es0 : Array DictEntry} (hd : DictIs h d es0) (hs : Heap.SameBut d h h') (x : Ents w h es ks) : Ents w h' es ks := ⟨x.len, fun i e k a b => ⟨nested_but hd hs (x.is_ i e k a b).1, (x.is_ i e k a b).2⟩, x.nd, x.dp⟩
theorem nk_setNew {v : Value} {Q : Unit → Shared → Prop} (hu : A.units + 8 < cLine) (hk : NestedIs s.heap k key) (hd8 : k.depth ≤ 8) (hd : DictIs s.heap d es) (he : Ents w s.heap es ks) (hn : k ∉ ks) (hz : es.size ≤ sizeLine)
    (hQ : ∀ h', DictIs h' d (es.push ⟨k.hash w, key, v⟩) → Heap.SameBut d s.heap h' → Q () { s with heap := h', toks := s.toks + k.draws }) : wpAny (model prog w) A (dictSet d key v) Q E s := by
  obtain ⟨o, ep, ho, hc, hdt⟩ := hd
  unfold dictSet
  try with_reducible refine wpAny_holding ?_
  refine wpAny_bind (pyHash_key k key A s _ hk (by omega) ?_)
  unfold dictSetHashed
  try with_reducible refine wpAny_holding ?_
  refine wpAny_bind (nk_find (s := { s with toks := s.toks + k.draws }) hu hk hd8 ho hdt he (fun _ => ?_) fun j hj => absurd (List.mem_of_getElem? hj) hn)
  exact wpAny_bind (wpAny_rule (wpAny_updateDictKeys (hz := hz) (s := { s with toks := s.toks + k.draws }) ho hdt (hQ _ ⟨_, ep + 1, Heap.get?_update_self _ ho (Obj.isFreed_of_dict (Obj.data_mapDictKeys hdt _)), hc.mapDictKeys _, Obj.data_mapDictKeys hdt _⟩ (Heap.SameBut.update ..))))
theorem Ents.push {h : Heap} (he : Ents w h es ks) {v : Value} (hk : NestedIs h k key) (hd8 : k.depth ≤ 8) (hn : k ∉ ks) : Ents w h (es.push ⟨k.hash w, key, v⟩) (ks ++ [k]) := by
  refine ⟨by rw [Array.size_push, List.length_append, he.len]; rfl, fun i e k' a b => ?_, ?_, fun x hx => ?_⟩
  · by_cases hi : i < es.size
    · rw [Array.getElem?_push_lt hi] at a
      rw [List.getElem?_append_left (by rw [← he.len]; exact hi)] at b
      exact he.is_ i e k' (by rw [Array.getElem?_eq_getElem hi]; exact a) b
    · have l1 := (Array.getElem?_eq_some_iff.mp a).1
      rw [Array.size_push] at l1
      have e1 : i = es.size := by omega
      subst e1
      rw [Array.getElem?_push_size] at a
      rw [he.len, List.getElem?_append_right (Nat.le_refl _), Nat.sub_self] at b
      obtain rfl := Option.some.inj a
      obtain rfl := Option.some.inj b
      exact ⟨hk, rfl⟩
  · rw [List.nodup_append]
    exact ⟨he.nd, by simp, fun x hx y hy => by
      rw [List.mem_singleton] at hy
      subst hy
      exact fun z => hn (z ▸ hx)⟩
  · rcases List.mem_append.mp hx with hx | hx
    · exact he.dp x hx
    · rw [List.mem_singleton] at hx; rw [hx]; exact hd8
/-- new keys, one after the other -/
theorem nk_storeAll (hu : A.units + 8 < cLine) : ∀ (vs : List (Value × Value)) (rest acc : List NestedKey) (es : Array DictEntry) (s : Shared) (Q : PUnit → Shared → Prop), DictIs s.heap d es → Ents w s.heap es acc → rest.length = vs.length →
    (∀ (i : Nat) (k : NestedKey) (p : Value × Value), rest[i]? = some k → vs[i]? = some p → NestedIs s.heap k p.1) → (acc ++ rest).Nodup → (∀ k ∈ rest, k.depth ≤ 8) → es.size + vs.length ≤ sizeLine →
    (∀ (h' : Heap) (es' : Array DictEntry) (t : Nat), DictIs h' d es' → es'.toList = es.toList ++ List.zipWith (fun (k : NestedKey) (p : Value × Value) => ⟨k.hash w, p.1, p.2⟩) rest vs → Heap.SameBut d s.heap h' → Q PUnit.unit { s with heap := h', toks := t }) →
    wpAny (model prog w) A (forIn vs PUnit.unit fun (x : Value × Value) (_ : PUnit) => (do dictSet d x.1 x.2; pure (ForInStep.yield PUnit.unit) : Sem (ForInStep PUnit))) Q E s
  | [], rest, acc, es, s, Q, hd, he, hl, _, _, _, _, hQ => by
    rw [List.forIn_nil]
    have e : rest = [] := List.length_eq_zero_iff.mp hl
    subst e
    exact wpAny_pure (hQ s.heap es s.toks hd (by simp) (Heap.SameBut.refl _ _))
  | (key, v) :: vs, [], acc, es, s, Q, hd, he, hl, _, _, _, _, hQ => by simp at hl
  | (key, v) :: vs, k :: rest, acc, es, s, Q, hd, he, hl, al, nd, dp, hz, hQ => by
    rw [List.length_cons] at hz
    have hk : NestedIs s.heap k key := al 0 k (key, v) rfl rfl
    have hn : k ∉ acc := fun m => by
      rw [List.nodup_append] at nd
      exact nd.2.2 k m k (by simp) rfl
    rw [List.forIn_cons]
    refine wpAny_bind (wpAny_bind (nk_setNew hu hk (dp k (by simp)) hd he hn (by omega) fun h1 hd1 hs1 => wpAny_pure ?_))
    have he1 := (ents_but hd hs1 he).push (v := v) (nested_but hd hs1 hk) (dp k (by simp)) hn
    refine nk_storeAll hu vs rest (acc ++ [k]) _ _ Q hd1 he1 (by simpa using hl) (fun i k' p a b => nested_but hd hs1 (al (i + 1) k' p (by simpa using a) (by simpa using b))) (by simpa using nd) (fun x hx => dp x (by simp [hx])) (by rw [Array.size_push]; omega) fun h' es' t hd' e' hs' => ?_
    exact hQ h' es' t hd' (by rw [e']; simp) (hs1.trans hs')
/-- {k: v, ..} -/
theorem nk_display {env : Env} {keys : List (Option Expr)} {values : List Expr} {pos : Pos} {Q : Value → Shared → Prop} (hu : A.units + 8 < cLine) (hall : keys.all (·.isSome) = true) (hl : keys.length = values.length) (h0 : keys ≠ []) (hlen : keys.length ≤ 15)
    (h : wpAny (model prog w) A (evalPairs (pairTrees keys values env pos)) (fun vs s1 => ∃ rest : List NestedKey, DictIs s1.heap s.heap.objs.size #[] ∧ rest.length = vs.length ∧ vs.length ≤ 15 ∧ (∀ (i : Nat) (k : NestedKey) (p : Value × Value), rest[i]? = some k → vs[i]? = some p → NestedIs s1.heap k p.1) ∧ rest.Nodup ∧ (∀ k ∈ rest, k.depth ≤ 8) ∧
      ∀ (h' : Heap) (es' : Array DictEntry) (t : Nat), DictIs h' s.heap.objs.size es' → es'.toList = List.zipWith (fun (k : NestedKey) (p : Value × Value) => ⟨k.hash w, p.1, p.2⟩) rest vs → Heap.SameBut s.heap.objs.size s1.heap h' → Q (.ref s.heap.objs.size) { s1 with heap := h', toks := t }) E
      { s with heap := s.heap.push { cls := .type "dict", data := .dict #[] } }) : wpAny (model prog w) A (eval (.Dict keys values pos) env) Q E s := by
  have hn := pairTrees_length keys values env pos hall hl
  rw [arm_eval_Dict, zip_pairTrees keys values env pos hall hl, dictDisplay_pairs (pairTrees keys values env pos) (fun he => by
    rw [he] at hn
    exact h0 (List.length_eq_zero_iff.mp hn.symm)) (by omega)]
  refine wpAny_bind (wpAny_standAt (wpAny_bind ?_))
  unfold subDict
  refine wpAny_bind (wpAny_alloc ?_)
  refine wpAny_bind (wpAny_holding ?_)
  rw [if_pos (by omega)]
  refine wpAny_bind (wpAny_mono h (fun vs s1 hh => ?_) fun _ _ e => e)
  obtain ⟨rest, hd, hrl, h15, al, nd, dp, hQ⟩ := hh
  refine wpAny_holding ?_
  refine wpAny_bind (nk_storeAll hu vs rest [] #[] s1 _ hd ⟨rfl, fun i e k a _ => by simp at a, List.nodup_nil, fun _ z => by cases z⟩ hrl al (by simpa using nd) dp (by rw [sizeLine_eq]; simp; omega) fun h' es' t hd' e' hs' => wpAny_pure (wpAny_pure (wpAny_pure (hQ h' es' t hd' (by simpa using e') hs'))))
end
end L2.MK
/-! dicts whose keys are of several kinds, as objects of the layer -/
namespace L2.MK
open PySem PySem.Spec PyProof.Rows SeqAt
/-- a key as a value -/
inductive KeyH (H : Hp) : NestedKey → V → Prop
  | non : KeyH H .none .non
  | bl (b : Bool) : KeyH H (.num (if b = true then 1 else 0)) (.bl b)
  | int (i : Int) : KeyH H (.num i) (.int i)
  | str (x : Str) : KeyH H (.text x) (.str x)
  | tup {a : Addr} {vs : List V} {ks : List NestedKey} (h : H a = some (.tup vs)) (len : vs.length = ks.length) (al : ∀ (i : Nat) (v : V) (k : NestedKey), vs[i]? = some v → ks[i]? = some k → KeyH H k v) : KeyH H (.tup ks) (.ref a)
theorem KeyH.mono {H H' : Hp} {k : NestedKey} {v : V} (x : KeyH H k v) (s : ∀ a vs, H a = some (.tup vs) → H' a = some (.tup vs)) : KeyH H' k v := by
  induction x with
  | non => exact .non
  | bl b => exact .bl b
  | int i => exact .int i
  | str x => exact .str x
  | tup h len _ ih => exact .tup (s _ _ h) len ih
theorem all_is {h : Heap} : ∀ {vs : List V} {its : List Value} {ks : List NestedKey}, Vals vs its → vs.length = ks.length → (∀ (i : Nat) (v : V) (k : NestedKey), vs[i]? = some v → ks[i]? = some k → ∀ u, RelV v u → NestedIs h k u) → NestedAll h ks its
  | _, _, [], .nil, _, _ => .nil
  | _, _, k :: ks, .cons r t, l, al => .cons (al 0 _ k rfl rfl _ r) (all_is t (by simpa using l) fun i v k a b => al (i + 1) v k (by simpa using a) (by simpa using b))
  | _, _, [], .cons _ _, l, _ => by simp at l
  | _, _, _ :: _, .nil, l, _ => by simp at l
theorem KeyH.is {P : Program} {w : World} {H : Hp} {h : Heap} {k : NestedKey} {v : V} (ok : HOk P w H h) (x : KeyH H k v) : ∀ {u : Value}, RelV v u → NestedIs h k u := by
  induction x with
  | non => intro u r; cases (show u = Value.none from r); exact .none
  | bl b => intro u r; cases (show u = Value.bool b from r); exact .bool rfl
  | int i => intro u r; obtain ⟨t, rfl⟩ := r; exact .int i t
  | str x => intro u r; obtain ⟨t, rfl⟩ := r; exact .text x t
  | @tup a vs ks e len _ ih =>
    intro u r
    cases (show u = Value.ref a from r)
    obtain ⟨_, its, rv, o, ho, hc, n, hd⟩ := ok a _ e
    exact .tup ho hc hd (by simpa using all_is rv len fun i v k a b u r => ih i v k a b r)
/-- the dict at d: keys ks as the values kvs.1, answers kvs.2 -/
def DX (w : World) (d : Addr) (ks : List NestedKey) (kvs : List (V × V)) : HO := .ext fun h => (d == sysModules) = false ∧ ks.length = kvs.length ∧ ks.length ≤ sizeLine ∧ ∃ es : Array DictEntry, DictIs h d es ∧ es.size = ks.length ∧
  ∀ (i : Nat) (e : DictEntry) (k : NestedKey) (p : V × V), es[i]? = some e → ks[i]? = some k → kvs[i]? = some p → e.hash = k.hash w ∧ RelV p.1 e.key ∧ RelV p.2 e.val
/-- the keys are so in H -/
structure MixK (H : Hp) (ks : List NestedKey) (kvs : List (V × V)) : Prop where
  is_ : ∀ (i : Nat) (k : NestedKey) (p : V × V), ks[i]? = some k → kvs[i]? = some p → KeyH H k p.1
  nd : ks.Nodup
  dp : ∀ k ∈ ks, k.depth ≤ 8
theorem MixK.mono {H H' : Hp} {ks : List NestedKey} {kvs : List (V × V)} (x : MixK H ks kvs) (s : ∀ a vs, H a = some (.tup vs) → H' a = some (.tup vs)) : MixK H' ks kvs := ⟨fun i k p a b => (x.is_ i k p a b).mono s, x.nd, x.dp⟩
theorem dx_rd {P : Program} {w : World} {H : Hp} {h : Heap} {d : Addr} {ks : List NestedKey} {kvs : List (V × V)} (ok : HOk P w H h) (e : Rd H d (DX w d ks kvs)) : (d == sysModules) = false ∧ ks.length = kvs.length ∧ ks.length ≤ sizeLine ∧ ∃ es : Array DictEntry, DictIs h d es ∧ es.size = ks.length ∧
    ∀ (i : Nat) (e : DictEntry) (k : NestedKey) (p : V × V), es[i]? = some e → ks[i]? = some k → kvs[i]? = some p → e.hash = k.hash w ∧ RelV p.1 e.key ∧ RelV p.2 e.val := (e.ok ok).1
theorem dx_ents {P : Program} {w : World} {H : Hp} {h : Heap} {ks : List NestedKey} {kvs : List (V × V)} {es : Array DictEntry} (ok : HOk P w H h) (m : MixK H ks kvs) (hl : ks.length = kvs.length) (hz : es.size = ks.length)
    (al : ∀ (i : Nat) (e : DictEntry) (k : NestedKey) (p : V × V), es[i]? = some e → ks[i]? = some k → kvs[i]? = some p → e.hash = k.hash w ∧ RelV p.1 e.key ∧ RelV p.2 e.val) : Ents w h es ks := by
  refine ⟨hz, fun i e k a b => ?_, m.nd, m.dp⟩
  have lt : i < kvs.length := by rw [← hl]; exact (List.getElem?_eq_some_iff.mp b).1
  obtain ⟨h1, h2, _⟩ := al i e k kvs[i] a b (List.getElem?_eq_getElem lt)
  exact ⟨(m.is_ i k _ b (List.getElem?_eq_getElem lt)).is ok h2, h1⟩
theorem dx_new {P : Program} {w : World} {H : Hp} {h : Heap} {d : Addr} {ks : List NestedKey} {kvs : List (V × V)} {es : Array DictEntry} (hd : (d == sysModules) = false) (hl : ks.length = kvs.length) (hle : ks.length ≤ sizeLine) (hi : DictIs h d es) (hz : es.size = ks.length)
    (al : ∀ (i : Nat) (e : DictEntry) (k : NestedKey) (p : V × V), es[i]? = some e → ks[i]? = some k → kvs[i]? = some p → e.hash = k.hash w ∧ RelV p.1 e.key ∧ RelV p.2 e.val) : ObjOk P w H h d (DX w d ks kvs) := by
  refine ⟨⟨hd, hl, hle, es, hi, hz, al⟩, ?_, ?_⟩
  · obtain ⟨o, _, e, _⟩ := hi
    exact ⟨o, e⟩
  · rintro h1 h2 ⟨a, b, c, es, ⟨o, ep, e, r⟩, q⟩ k
    exact ⟨a, b, c, es, ⟨o, ep, k o e, r⟩, q⟩
/-! ### the display -/
def tDispX (w : World) (trs : List (TE × TE)) : TE := fun σ H Q => ∀ p, H p = none → tPairs trs σ (upd H p (DX w p [] [])) fun ps H2 => H2 p = some (DX w p [] []) ∧ ∃ ks : List NestedKey, ks.length = ps.length ∧ MixK H2 ks ps ∧ Q (.ref p) (upd H2 p (DX w p ks ps))
theorem vv_at : ∀ {ps : List (V × V)} {ws : List (Value × Value)} {i : Nat} {q : Value × Value}, VV ps ws → ws[i]? = some q → ∃ p, ps[i]? = some p ∧ RelV p.1 q.1 ∧ RelV p.2 q.2
  | _, _, _, _, .nil, e => by simp at e
  | _, _, 0, q, .cons r _, e => by
    obtain rfl := Option.some.inj e
    exact ⟨_, rfl, r⟩
  | _, _, i + 1, q, .cons _ t, e => by
    obtain ⟨p, a, b⟩ := vv_at (i := i) t (by simpa using e)
    exact ⟨p, by simpa using a, b⟩
theorem pps_len {X : Cx} {pos : Pos} {trs : List (TE × TE)} : ∀ {σ : L2.St} {H : Hp} {Q : List (V × V) → Hp → Prop}, tPairs trs σ H Q → True := fun _ => trivial
theorem vv_len {ps : List (V × V)} {ws : List (Value × Value)} (r : VV ps ws) : ps.length = ws.length := Paired.length r
theorem pe_dispX {X : Cx} {pos : Pos} {keys : List (Option Expr)} {values : List Expr} {trs : List (TE × TE)} (hu : X.A.units + 8 < cLine) (h : PPs X pos keys values trs) (hall : keys.all (·.isSome) = true) (hl : keys.length = values.length) (h0 : keys ≠ [])
    (h15 : keys.length ≤ 15) : PE X (.Dict keys values pos) (tDispX X.w trs) := by
  refine ⟨fun pins s σ H Q I q => ?_⟩
  have hn := I.hok.fresh (Nat.le_refl s.heap.objs.size)
  have hbig : (s.heap.objs.size == sysModules) = false := beq_eq_false_iff_ne.mpr (Ne.symm (Nat.ne_of_lt I.big))
  have di : DictIs (s.heap.push { cls := .type "dict", data := .dict #[] }) s.heap.objs.size #[] := ⟨_, 0, Heap.get?_push_size _ rfl, ⟨rfl, rfl, rfl⟩, rfl⟩
  have I1 := I.laid (a := s.heap.objs.size) (o := DX X.w s.heap.objs.size [] []) (h' := s.heap.push { cls := .type "dict", data := .dict #[] }) (t' := s.toks) (fun _ _ q => Heap.get?_push_of_some _ q) (Nat.le_refl _) (dx_new hbig rfl (Nat.zero_le _) di rfl (fun i e k p a => by simp at a))
  have hn15 := pairTrees_length keys values X.env pos hall hl
  refine nk_display hu hall hl h0 h15 (thn (wpAny_evalPairs_len (h.run pins _ σ _ _ I1 (q _ hn))) fun ws s2 ⟨wl, ps, H2, I2, rel, e, ks, kl, m, q2⟩ => ?_)
  obtain ⟨_, _, _, es, hdi, hz, _⟩ := dx_rd I2.hok (.inl e)
  have e0 : es = #[] := Array.size_eq_zero_iff.mp hz
  subst e0
  have l2 := vv_len rel
  refine ⟨ks, hdi, by rw [kl, l2], by omega, fun i k p a b => ?_, m.nd, m.dp, fun h' es' t hd' e' hs => ⟨.ref s.heap.objs.size, _, ?_, rfl, q2⟩⟩
  · obtain ⟨p', a', r, _⟩ := vv_at rel b
    exact (m.is_ i k p' a a').is I2.hok r
  · have le : es'.size = ks.length := by
      have z := congrArg List.length e'
      rw [Array.length_toList, List.length_zipWith, kl, l2] at z
      omega
    have he : ∃ q, h'.get? s.heap.objs.size = some q := let ⟨o, _, z, _⟩ := hd'; ⟨o, z⟩
    refine d_write I2 (by rw [e]; exact True.intro) hs he (dx_new hbig kl (by rw [sizeLine_eq]; omega) hd' le fun i en k p a b c => ?_)
    have z : es'.toList[i]? = some en := by rw [Array.getElem?_toList]; exact a
    rw [e', List.getElem?_zipWith, b] at z
    cases ew : ws[i]? with
    | none => rw [ew] at z; cases z
    | some q' =>
      rw [ew] at z
      obtain rfl := Option.some.inj z
      obtain ⟨p', a', r1, r2⟩ := vv_at rel ew
      rw [c] at a'
      obtain rfl := Option.some.inj a'
      exact ⟨rfl, r1, r2⟩
/-! ### d[k] -/
def tDGetX (w : World) (td ty : TE) : TE := fun σ H Q => td σ H fun x H1 => ty σ H1 fun y H2 => ∃ (d : Addr) (ks : List NestedKey) (kvs : List (V × V)) (k : NestedKey) (j : Nat) (p : V × V), x = .ref d ∧ Rd H2 d (DX w d ks kvs) ∧ MixK H2 ks kvs ∧ KeyH H2 k y ∧ ks[j]? = some k ∧ kvs[j]? = some p ∧ Q p.2 H2
section
variable {X : Cx} {pins : List (Addr × Obj)} {σ : St} {H : Hp} {s : Shared} {A : Around} {E : Value → Shared → Prop} {d : Addr} {ks : List NestedKey} {kvs : List (V × V)} {o i : Expr} {td ty : TE} {pos : Pos}
theorem dx_type (I : Inv X pins σ H s) (e : Rd H d (DX X.w d ks kvs)) : s.TypeIs (.ref d) "dict" := by
  obtain ⟨_, _, _, es, ⟨o, _, z, q, _⟩, _⟩ := dx_rd I.hok e
  exact ⟨o, z, q.1⟩
theorem dx_noDict (I : Inv X pins σ H s) (e : Rd H d (DX X.w d ks kvs)) : ∀ b, Value.ref d = .ref b → ∃ ob, s.heap.get? b = some ob ∧ ob.dict = none := fun b z => by
  injection z with z
  subst z
  obtain ⟨_, _, _, es, ⟨o, _, z, q, _⟩, _⟩ := dx_rd I.hok e
  exact ⟨o, z, q.2.1⟩
theorem dx_getItem {k : NestedKey} {j : Nat} {p : V × V} {y : V} {u : Value} {Q : Value → Shared → Prop} (hu : A.in1.units + 8 < cLine) (I : Inv X pins σ H s) (e : Rd H d (DX X.w d ks kvs)) (m : MixK H ks kvs) (hk : KeyH H k y) (ej : ks[j]? = some k) (ep : kvs[j]? = some p) (ry : RelV y u)
    (h : ∀ w' s', Inv X pins σ H s' → RelV p.2 w' → Q w' s') : wpAny (model X.prog X.w) A (getItem (.ref d) u) Q E s := by
  have hT := dx_type I e
  obtain ⟨_, hl, _, es, ⟨o, epo, ho, hc, hdt⟩, hz, al⟩ := dx_rd I.hok e
  have en := dx_ents I.hok m hl hz al
  unfold getItem
  try with_reducible refine wpAny_holding ?_
  refine wpAny_bind (wpAny_sequenceKey hT (by decide) (wpAny_bind (wpAny_callSpecial?_slot (name := Str.ofString "__getitem__") hT slot_dict_getitem (wpAny_call_entry slot_dict_getitem hT entry_dict_getitem ?_ (args_dict_getitem _ _)))))
  show wpAny _ _ (dictGet d u >>= fun _ => _) _ _ s
  refine wpAny_bind (nk_get hu (hk.is I.hok ry) (m.dp _ (List.mem_of_getElem? ej)) ho hdt en (fun n => absurd (List.mem_of_getElem? ej) n) fun j' e' a b => ?_)
  have e2 : j' = j := (List.getElem?_inj (List.getElem?_eq_some_iff.mp a).1 m.nd).mp (a.trans ej.symm)
  subst e2
  obtain ⟨_, _, r⟩ := al j' e' k p b a ep
  exact wpAny_pure ⟨e'.val, rfl, wpAny_pure (h _ _ (I.tok _) r)⟩
theorem pe_dgetX (hu : X.A.in1.units + 8 < cLine) (ho : PE X o td) (hi : PE X i ty) (hs : NoSl i) : PE X (.Subscript o i pos) (tDGetX X.w td ty) := by
  refine ⟨fun pins s σ H Q I h => subD_of PySem.F.slot_dict_getitem.lookup hs (thn (ho.run pins s σ H _ I h) fun u s1 ⟨x, H1, I1, rx, q1⟩ => thn (hi.run pins s1 σ H1 _ I1 q1) fun iv s2 ⟨y, H2, I2, ry, d, ks, kvs, k, j, p, ex, e, m, hk, ej, ep, q2⟩ => ?_)⟩
  subst ex
  cases (show u = Value.ref d from rx)
  exact ⟨dx_type I2 e, dx_getItem hu I2 e m hk ej ep ry fun w' s3 I3 rw' => ⟨p.2, H2, I3, rw', q2⟩⟩
/-! ### isinstance(d, dict), len(d) -/
theorem call_isiD : CallR X (.builtin "isinstance") (fun xs H Q => ∃ (d : Addr) (ks : List NestedKey) (kvs : List (V × V)) (c : V) (u : Value) (b : Bool), xs = [.ref d, c] ∧ ClsV c u ∧ Rd H d (DX X.w d ks kvs) ∧ PySem.W.kitOne X.K (.type "dict") u = some b ∧ Q (.bl b) H) := by
  intro pins s σ H xs us Q I r h
  obtain ⟨d, ks, kvs, c, u, b, rfl, k, e, hb, q⟩ := h
  obtain ⟨u1, u2, rfl, r1, r2⟩ := vals2 r
  have e2 := k.eq r2
  subst e2
  cases (show u1 = Value.ref d from r1)
  obtain ⟨o, h1, h2⟩ := dx_type I e
  exact PySem.W.kia_one PySem.W.kitx_dict I.kIn ⟨o, h1, h2⟩ hb (fun z => nomatch z) fun tk => ⟨.bl b, H, I.tok tk, rfl, q⟩
theorem len_body {n : Nat} {es : Array DictEntry} {Q : Value → Shared → Prop} (hs : (d == sysModules) = false) (hd : DictIs s.heap d es) (hn : es.size = n) (hz : n ≤ sizeLine) (h : Q (.int n (s.toks + 1)) { s with toks := s.toks + 1 + 1 }) :
    wpAny (model X.prog X.w) A (call (.builtin "len") [.ref d]) Q E s := by
  have hT : s.TypeIs (.ref d) "dict" := let ⟨o, _, z, q, _⟩ := hd; ⟨o, z, q.1⟩
  have ml : MeetsIn X.prog X.w (Builtin.«dict.__len__» ⟨[.ref d], []⟩) (fun _ R s => ∃ es, DictIs s.heap d es ∧ R (.ok (.ret (.int es.size s.toks))) { s with toks := s.toks + 1 }) := .of_wp fun A R s ⟨es, hd, h⟩ => by
    obtain ⟨o, ep, ho, hc, hdt⟩ := hd
    show wpAny _ _ (dictSize d >>= fun _ => _) _ _ s
    unfold dictSize
    refine wpAny_bind (wpAny_bind (wpAny_dictEntries ho hdt (wpAny_pure ?_)))
    show wpAny _ _ (Builtin.Dict.pendingCount d >>= fun _ => _) _ _ s
    exact wpAny_bind (wpAny_pendingCount_other hs (wpAny_ret_mkInt (by rw [Nat.add_zero]; exact h)))
  rw [sizeLine_eq] at hz
  refine Calls.call_function_entry kind_len plain_len entry_len (args_len1 _) ?_
  unfold Builtin.«len»
  refine wpAny_bind (m := oneArg "len" _) (wpAny_pure (wpAny_bind (m := callSpecial? (.ref d) (Str.ofString "__len__")) (wpAny_callSpecial?_slot (name := Str.ofString "__len__") hT F.slot_dict_len
    (call_meetsIn F.slot_dict_len hT F.entry_dict_len (F.args_dict_len_1 _) ml ⟨es, hd, ?_⟩))))
  rw [hn]
  show wpAny _ _ _ _ _ { s with toks := s.toks + 1 }
  refine wpAny_bind (wpAny_holding (wpAny_pure (wpAny_bind (wpAny_letGo ?_))))
  show wpAny _ _ (if ((n : Nat) : Int) < 0 then _ else _) _ _ _
  rw [if_neg (by omega)]
  show wpAny _ _ (if ((n : Nat) : Int) ≥ 2 ^ 63 then _ else _) _ _ _
  rw [if_neg (by omega)]
  exact wpAny_bind (wpAny_mkInt (wpAny_pure ⟨_, rfl, h⟩))
theorem call_lenX : CallR X (.builtin "len") (fun xs H Q => ∃ (d : Addr) (ks : List NestedKey) (kvs : List (V × V)), xs = [.ref d] ∧ Rd H d (DX X.w d ks kvs) ∧ Q (.int kvs.length) H) := by
  intro pins s σ H xs us Q I r h
  obtain ⟨d, ks, kvs, rfl, e, q⟩ := h
  obtain ⟨u, rfl, ru⟩ := vals1 r
  cases (show u = Value.ref d from ru)
  obtain ⟨hs, hl, hz, es, hd, hn, _⟩ := dx_rd I.hok e
  exact len_body hs hd (hn.trans hl) (by rw [← hl]; exact hz) ⟨.int kvs.length, H, I.tok _, ⟨_, rfl⟩, q⟩
/-! ### for k in d -/
def Itkx (w : World) (d : Addr) (o : Obj) (ks : List NestedKey) (kvs : List (V × V)) : It :=
  ⟨fun i H => H d = some (.frz o (DX w d ks kvs)) ∧ i < kvs.length, fun i H x H' => H' = H ∧ ∃ v, kvs[i]? = some (x, v), fun i H => H d = some (.frz o (DX w d ks kvs)) ∧ kvs.length ≤ i⟩
theorem frzX {ob : Obj} (I : Inv X pins σ H s) (h : H d = some (.frz ob (DX X.w d ks kvs))) : (d == sysModules) = false ∧ s.heap.get? d = some ob ∧ ob.ExactDict ∧ ∃ (es : Array DictEntry) (ep : Nat), ob.data = .dict es ep ∧ es.size = kvs.length ∧ ∀ (i : Nat) (p : V × V), kvs[i]? = some p → ∃ en : DictEntry, es[i]? = some en ∧ RelV p.1 en.key := by
  obtain ⟨hd, ⟨hs, hl, _, es, ⟨o', ep, ho, hx, hdt⟩, hz, al⟩, _⟩ := I.hok d _ h
  rw [hd] at ho
  cases ho
  refine ⟨hs, hd, hx, es, ep, hdt, hz.trans hl, fun i p e => ?_⟩
  have lt := (List.getElem?_eq_some_iff.mp e).1
  have l1 : i < es.size := by omega
  have l2 : i < ks.length := by omega
  exact ⟨es[i], Array.getElem?_eq_getElem l1, (al i _ _ p (Array.getElem?_eq_getElem l1) (List.getElem?_eq_getElem l2) e).2.1⟩
theorem turn_keysX {P : Program} {w : World} {K : PySem.W.Frag} {tg : Expr} {ob : Obj} {es : Array DictEntry} {ep : Nat} (it : Addr) (hod : ob.data = .dict es ep) : Turn P w K tg (Itkx w d ob ks kvs) [it] it (fun i h => h.IsKeyIter it d i kvs.length ep) where
  mem := by simp
  obj := fun i h st b hb => by
    have e : b = it := by simpa using hb
    subst e
    exact let ⟨oi, e, c, dd⟩ := st; ⟨oi, e, fun v z => by rw [dd] at z; cases z⟩
  keep := fun i h h' st k => st.at fun oi e => k it (by simp) oi e
  item := by
    intro X hP hw hK hc i pins s σ H E I hf st hg
    subst hP hw hK
    have lt : i < kvs.length := hg.2
    obtain ⟨f0, f1, f2, f3, f4, f5⟩ := hf it (by simp)
    obtain ⟨hs, hgd, hx, es', ep', hdt, hsz, ent⟩ := frzX I hg.1
    obtain ⟨rfl, rfl⟩ := dict_ep hod hdt
    obtain ⟨en, hen, rk⟩ := ent i kvs[i] (List.getElem?_eq_getElem hg.2)
    refine next_key_item st hgd hdt hsz hen fun h' st' sb => ?_
    obtain ⟨oi, e, c, dd⟩ := id st'
    exact ⟨en.key, rfl, go_of (s := { s with heap := h' }) e c dd (by decide) ⟨kvs[i].1, H, I.turned (t' := s.toks) (fun b ob hb e => (sb.2 b hb).trans e) f0 f1 f3 f4 f5, rk, ⟨rfl, kvs[i].2, List.getElem?_eq_getElem hg.2⟩, st', fun b hb => (hf b hb).1⟩⟩
  done := by
    intro X hP hw hK hc i pins s σ H E I hf st hg
    subst hP hw hK
    obtain ⟨f0, f1, f2, f3, f4, f5⟩ := hf it (by simp)
    obtain ⟨hs, hgd, hx, es', ep', hdt, hsz, ent⟩ := frzX I hg.1
    obtain ⟨rfl, rfl⟩ := dict_ep hod hdt
    exact next_key_end (I.ok.hd hc) st hgd hdt hsz hg.2 fun h' eb => ⟨rfl, I.turned (t' := s.toks) (fun b ob hb e => eb b ob hb e) f0 f1 f3 f4 f5⟩
  self := fun A i s Q E st h => wpAny_pyIter_keyiter st h
def iKeysX (w : World) (td : TE) : TI := fun σ H R => td σ H fun x H1 => ∃ (d : Addr) (o : Obj) (ks : List NestedKey) (kvs : List (V × V)), x = .ref d ∧ H1 d = some (.frz o (DX w d ks kvs)) ∧ R (Itkx w d o ks kvs) H1
theorem pi_keysX {tg e : Expr} (he : PE X e td) : PI X tg e (iKeysX X.w td) := by
  refine ⟨fun pins s σ H R I h => thn (he.run pins s σ H _ I h) fun u s1 ⟨x, H1, I1, rx, d, o, ks, kvs, ex, hd, q⟩ => ?_⟩
  subst ex
  cases (show u = Value.ref d from rx)
  obtain ⟨hs, hgd, hx, es, ep, hdt, hsz, _⟩ := frzX I1 hd
  refine iter_keys hs hgd hx hdt (pi_one (tk := s1.toks) I1 _ (turn_keysX _ hdt) ⟨_, Heap.get?_push_size _ rfl, rfl, ?_⟩ q)
  rw [hsz] <;> rfl
theorem walk_keysX {w : World} {ob : Obj} : Walk (Itkx w d ob ks kvs) kvs.length (fun H => H d = some (.frz ob (DX w d ks kvs))) (fun i H x H' => H' = H ∧ ∃ v, kvs[i]? = some (x, v)) :=
  ⟨fun _ _ hi q => ⟨q, hi⟩, fun _ q => ⟨q, Nat.le_refl _⟩, fun _ _ _ _ _ _ y => y⟩
end
end L2.MK
/-! check_hands, _check_both, least_groups over a dict with an odd key -/
namespace L2.TB
open PySem PySem.Spec PyProof.Rows LamX MK
/-- {'h1': [], kv: .., ..}, kv no name -/
def OddD (w : World) (K : PySem.W.Frag) (H : Hp) (d : Addr) (kv : V) : Prop := ∃ (l : Addr) (k2 : NestedKey) (v2 : V) (kr : List NestedKey) (rest : List (V × V)), H d = some (DX w d (.text "h1" :: k2 :: kr) ((.str "h1", .ref l) :: (kv, v2) :: rest)) ∧ MixK H (.text "h1" :: k2 :: kr) ((.str "h1", .ref l) :: (kv, v2) :: rest) ∧
  H l = some (.lst []) ∧ ((∃ x, kv = .str x ∧ x.cps.toList.length < 1000 ∧ nmB x = false) ∨ NoStr K H kv)
theorem OddD.same {w : World} {K : PySem.W.Frag} {H H' : Hp} {d : Addr} {kv : V} (h : OddD w K H d kv) (s : Same H H') : OddD w K H' d kv := by
  obtain ⟨l, k2, v2, kr, rest, a, b, c, e⟩ := h
  exact ⟨l, k2, v2, kr, rest, s _ _ a, b.mono fun _ _ q => s _ _ q, s _ _ c, e.imp id fun z => z.same s⟩
def spCkHD (w : World) (K : PySem.W.Frag) (CH : Addr) : Sp := fun vs H Q E => ∃ (c d : Addr) (ns : List Str) (kv : V), vs = [.ref c, .ref d] ∧ H c = some (.lst (ns.map V.str)) ∧ OddD w K H d kv ∧ Flies CH "name" kv H E
def spCkBD (w : World) (K : PySem.W.Frag) (C CH : Addr) : Sp := fun vs H Q E => ∃ (a d : Addr) (ns : List Str) (tbl : List (List Int)) (x kv : V), vs = [.ref a, .ref d, x] ∧ TabAt H C a ns tbl ∧ OddD w K H d kv ∧ Flies CH "name" kv H E
theorem ty_lockX {K : PySem.W.Frag} {H : Hp} {d : Addr} {φ : Heap → Prop} {u : HO} {v : V} {t : String} (h : TyX K H v (.type t)) (hd : H d = some (.ext φ)) : TyX K (upd H d u) v (.type t) := by
  have ne : ∀ {b : Addr} {o : HO}, H b = some o → o ≠ .ext φ → upd H d u b = some o := fun e no => by
    rw [upd_ne (fun z => by rw [z, hd] at e; exact no (Option.some.inj e).symm)]; exact e
  generalize e : Value.type t = tt at h
  cases h with
  | base b =>
    refine .base ?_
    cases b with
    | non => exact .non
    | bl x => exact .bl x
    | int i => exact .int i
    | str x => exact .str x
    | flt x => exact .flt x
    | lst q => exact .lst (ne q (fun z => by cases z))
    | frz q => exact .frz (ne q (fun z => by cases z))
    | tup q => exact .tup (ne q (fun z => by cases z))
    | dK q => exact .dK (ne q (fun z => by cases z))
    | dT q => exact .dT (ne q (fun z => by cases z))
    | ins q => cases e
  | byt b => exact .byt b
  | set q => exact .set (ne q (fun z => by cases z))
  | kList q c => exact .kList q c
  | kTuple q c => exact .kTuple q c
  | kDict q c => exact .kDict q c
  | fTuple q => exact .fTuple (ne q (fun z => by cases z))
  | fDict q => exact .fDict (ne q (fun z => by cases z))
theorem hu_in {k : Nat} {A : Around} (hr : Room k A) : A.in1.units + 8 < cLine := by
  have h := hr.un
  show A.units + _ + 8 < cLine
  omega
section
variable {P : Program} {w : World} {K : PySem.W.Frag} {mg : Str → Option Value} {base : Heap} {f fN fH fB C CH CQ fQ fI fPl fPr aF aL aO aK aA aB : Addr} {fd fdN fdH fdB : FuncData}
theorem ok_ckHD (F : Fun K "check_hands" "check_hands" sCkH f fd) (Ck : Chk K mg aF aL aO aK aA aB) (EH : ErrF P w K mg base "BadHands" CH "name") (FN : Fun K "is_name" "is_name" sIsName fN fdN) (gN : mg "is_name" = some (.ref fN)) (GN : FnOk P w K mg base CX0 1 fN fdN ["thing"] (spIsNameG K))
    (nD : mg "dict" = none) (nL : mg "len" = none) : FnOk P w K mg base (L2.CX P w) 3 f fd ["names", "hands"] (spCkHD w K CH) := by
  obtain ⟨fdF, FF⟩ := Ck.F
  obtain ⟨fdL, FL⟩ := Ck.L
  obtain ⟨fdO, FO⟩ := Ck.O
  have GF : FnOk P w K mg base CX0 2 aF fdF ["names", "things"] (spFirstG K) := ok_firstG FF FL Ck.gL FO Ck.gO Ck.nI Ck.nL Ck.nT Ck.nS Ck.nE
  have bF := FF.binds (ps := ["names", "things"]) fun _ _ _ _ _ _ us hl => match us, hl with | [_, _], _ => rfl
  have bN := FN.binds (ps := ["thing"]) fun _ _ _ _ _ _ us hl => match us, hl with | [_], _ => rfl
  refine F.okX scCkH (fun vs H Q E h => by obtain ⟨c, d, ns, kv, e, _⟩ := h; rw [e]; rfl) fun cdv A outer s H vs Q E hr hsp => ?_
  obtain ⟨c, d, ns, kv, rfl, hc, ⟨l, k2, v2, kr, rest, hd, mk, hl, odd⟩, hf⟩ := hsp
  have nd := scCkH.nd
  have hu := hu_in hr
  have hn : ∀ o' u', H d ≠ some (.frz o' u') := fun o' u' z => by rw [hd] at z; cases z
  have tk0 : Takes (cxOf (L2.CX P w) P w K mg base ["names", "hands", "name"] "check_hands" (defScope sCkH) f cdv A outer s H E) (fun cls dd σ H' => E cls dd H') := takes_of rfl rfl rfl rfl
  refine ⟨_, pss_cons (ps_if (PW.pt (pw_or (pt_not (pt_val (pe_callB call_isiD rfl Ck.nI boot_isi (pa_cons (pv 1) (pa_cons (pe_bltn (v := .ty "dict") rfl nD boot_dict' rfl) pa_nil)))))
      (pw_or1 (pt_cmpR op_eq (pe_callB call_lenX rfl nL boot_len (pa_cons (pv 1) pa_nil)) pe_int (nomark _))))) (pss_one ps_never) pss_nil)
    (pss_one (ps_lock (ps_for (passes_of rfl) rfl (pi_keysX (pv 1)) (pg_name (i := 2) nd rfl (Or.inl rfl))
      (pss_one (ps_if (PW.pt (pw_or (pt_not (pt_val (pe_call GN (hr.mono (by decide)) rfl gN FN.kp bN .nil pass0 (pa_cons (pv 2) pa_nil))))
        (pw_or1 (pt_cmp (pc_notN (pe_call GF hr rfl Ck.gF FF.kp bF .nil pass0 (pa_cons (pv 0) (pa_cons (pe_dgetX hu (pv 1) (pv 2) (fun _ _ => rfl)) pa_nil)))))))) (pss_one (ps_raiseE rfl (takes_unlock tk0 (d := d) (u := DX w d (.text "h1" :: k2 :: kr) ((.str "h1", .ref l) :: (kv, v2) :: rest)) hn) EH hr rfl (pv 2))) pss_nil))))), ?_⟩
  refine ⟨_, rfl, d, _, _, _, _, true, rfl, .ty _, .inl hd, kit_ty (by decide +kernel), _, rfl, iteF ?_⟩
  refine ⟨_, rfl, d, _, _, rfl, .inl hd, rfl, _, rfl, ?_⟩
  rw [dec_int2, decide_eq_false (by simp only [List.length_cons]; omega)]
  refine iteF ?_
  refine ⟨d, _, hd, trivial, fun od => ⟨_, rfl, d, od, _, _, rfl, upd_same, for_it walk_keysX (fun i σ H' => Same (upd H d (.frz od (DX w d (.text "h1" :: k2 :: kr) ((.str "h1", .ref l) :: (kv, v2) :: rest)))) H' ∧ i ≤ 1 ∧ ∃ s2, σ = [some (.ref c), some (.ref d), s2]) ⟨Same.refl _, Nat.zero_le _, _, rfl⟩ (fun i σ H' _ h => h.1 _ _ upd_same) ?_ ?_⟩⟩
  · rintro i y σ H2 _ lt ⟨s2, le, s2', rfl⟩ ⟨rfl, v, ev⟩
    have cd : c ≠ d := fun z => by rw [z, hd] at hc; cases hc
    have ld : l ≠ d := fun z => by rw [z, hd] at hl; cases hl
    have keep : ∀ {b : Addr} {o : HO}, b ≠ d → H b = some o → upd H d (.frz od (DX w d (.text "h1" :: k2 :: kr) ((.str "h1", .ref l) :: (kv, v2) :: rest))) b = some o := fun nb e => by rw [upd_ne nb]; exact e
    have tupk : ∀ a vs, H a = some (.tup vs) → upd H d (.frz od (DX w d (.text "h1" :: k2 :: kr) ((.str "h1", .ref l) :: (kv, v2) :: rest))) a = some (.tup vs) := fun a vs e => keep (fun z => by rw [z, hd] at e; cases e) e
    match i, ev, le with
    | 0, ev, _ =>
      obtain ⟨rfl, rfl⟩ := Prod.mk.inj (Option.some.inj ev)
      refine ⟨_, rfl, _, rfl, .inl ⟨_, rfl, by decide +kernel, fun H3 s3 => ⟨_, rfl, ?_⟩⟩⟩
      rw [show nmB "h1" = true by decide +kernel]
      refine iteF ?_
      have s23 := s2.trans s3
      refine ⟨_, rfl, _, rfl, _, rfl, d, _, _, .text "h1", 0, _, rfl, .inr ⟨od, s23 _ _ upd_same⟩, mk.mono fun a vs e => s23 _ _ (tupk a vs e), .str _, rfl, rfl, c, ns, _, none, rfl, s23 _ _ (keep cd hc), ?_, fun H4 s4 => ?_⟩
      · exact .seq (xs := []) (.inl (s23 _ _ (keep ld hl))) (fun _ z => by cases z) (by show 0 < 1000; omega)
      · exact ⟨_, rfl, iteF ⟨s23.trans s4, Nat.le_refl _, _, rfl⟩⟩
    | 1, ev, _ =>
      obtain ⟨rfl, rfl⟩ := Prod.mk.inj (Option.some.inj ev)
      rcases odd with ⟨x, rfl, short, nx⟩ | ⟨t, ty, h1⟩
      · refine ⟨_, rfl, _, rfl, .inl ⟨x, rfl, short, fun H3 s3 => ⟨_, rfl, ?_⟩⟩⟩
        rw [nx]
        exact iteT (iteT ⟨_, rfl, hf.unlock EH hd (s2.trans s3)⟩)
      · refine ⟨_, rfl, _, rfl, .inr ⟨⟨t, ?_, h1⟩, _, rfl, iteT (iteT ⟨_, rfl, hf.unlock EH hd s2⟩)⟩⟩
        exact ty_same (ty_lockX ty hd) s2
  · rintro σ H2 ⟨s2, le, s2', rfl⟩
    simp only [List.length_cons] at le
    omega
theorem ok_bothD (F : Fun K "_check_both" "_check_both" sCkHA f fd) (T : TabM K C fQ fI fPl fPr) (nL : mg "list" = none) (FH : Fun K "check_hands" "check_hands" sCkH fH fdH) (gH : mg "check_hands" = some (.ref fH)) (GH : FnOk P w K mg base (L2.CX P w) 3 fH fdH ["names", "hands"] (spCkHD w K CH)) :
    FnOk P w K mg base (L2.CX P w) 4 f fd ["field", "hands", "asked"] (spCkBD w K C CH) := by
  obtain ⟨fdQ, FQ⟩ := T.Q
  have GQ := ok_qs (P := P) (w := w) (mg := mg) (base := base) FQ T.toTabC nL
  have bQ := FQ.binds (ps := ["self"]) fun _ _ _ _ _ _ us hl => match us, hl with | [_], _ => rfl
  have bH := FH.binds (ps := ["names", "hands"]) fun _ _ _ _ _ _ us hl => match us, hl with | [_, _], _ => rfl
  refine F.okX scHA (fun vs H Q E h => by obtain ⟨a, d, ns, tbl, x, kv, e, _⟩ := h; rw [e]; rfl) fun cdv A outer s H vs Q E hr hsp => ?_
  obtain ⟨a, d, ns, tbl, x, kv, rfl, tab, hd, hf⟩ := hsp
  refine ⟨_, pss_cons (ps_expr (pe_callS GH hr rfl gH FH.kp bH (fun σ => passAt (takes_of rfl rfl rfl rfl) σ) (pa_cons (pe_meth0 (pv 0) T.cl T.mQ GQ (hr.mono (by decide)) bQ .nil pass0) (pa_cons (pv 1) pa_nil)))) pss_never, ?_⟩
  obtain ⟨dx, qa, ra, ha, hqa, hra⟩ := id tab.ex
  refine ⟨_, rfl, a, dx, _, rfl, ha, rfl, a, ns, tbl, rfl, tab, fun H1 q1 n1 o1 k1 => ?_⟩
  exact ⟨_, rfl, q1, d, ns, kv, rfl, o1, hd.same k1, hf.same k1⟩
theorem ok_leastGD (F : Fun K "least_groups" "least_groups" sLeastG f fd) (FB : Fun K "_check_both" "_check_both" sCkHA fB fdB) (gB : mg "_check_both" = some (.ref fB)) (GB : FnOk P w K mg base (L2.CX P w) 4 fB fdB ["field", "hands", "asked"] (spCkBD w K C CH)) : FnOk P w K mg base (L2.CX P w) 5 f fd ["field", "hands", "asked"] (spCkBD w K C CH) := by
  have bB := FB.binds (ps := ["field", "hands", "asked"]) fun _ _ _ _ _ _ us hl => match us, hl with | [_, _, _], _ => rfl
  refine F.okX scLg (fun vs H Q E h => by obtain ⟨a, d, ns, tbl, x, kv, e, _⟩ := h; rw [e]; rfl) fun cdv A outer s H vs Q E hr hsp => ?_
  obtain ⟨a, d, ns, tbl, x, kv, rfl, tab, hd, hf⟩ := hsp
  refine ⟨_, pss_cons (ps_expr (pe_callS GB hr rfl gB FB.kp bB (fun σ => passAt (takes_of rfl rfl rfl rfl) σ) (pa_cons (pv 0) (pa_cons (pv 1) (pa_cons (pv 2) pa_nil))))) pss_never, ?_⟩
  exact ⟨_, rfl, _, rfl, _, rfl, a, d, ns, tbl, x, kv, rfl, tab, hd, hf⟩
/-- least_groups where it refuses, both kinds of dicts -/
def spLgB (w : World) (K : PySem.W.Frag) (C CH CQ : Addr) : Sp := fun vs H Q E => spCkHAX K C CH CQ vs H Q E ∨ spCkBD w K C CH vs H Q E
end
end L2.TB
/-! _law_hands_refused: the first walk -/
namespace L2.TB
open PySem PySem.Spec PyProof.Rows LamX
/-- a thing without parts, as data -/
structure AtomD (x : V) (pd : PyData) : Prop where
  d : ∀ (K : PySem.W.Frag) (H : Hp), Dp K H x pd
  a : Atom x
  c : PyData.canLay0 pd = true
  z : PyData.depth pd = 0
theorem fzx_dp {K : PySem.W.Frag} {H : Hp} {s : Str} {x : V} {pd : PyData} {u : V} (hx : AtomD x pd) (h : FzAt H (.tu [.one (.str s), .one x]) u) : Dp K H u (.tuple [.str s, pd]) := by
  generalize e : Tr.tu [.one (.str s), .one x] = t at h
  cases h with
  | one h => cases e
  | di h a => cases e
  | @tu a us ts h len sh al =>
    cases e
    match us, len with
    | [y, z], _ =>
      have h0 := al 0 y _ rfl rfl
      have h1 := al 1 z _ rfl rfl
      cases h0
      cases h1
      exact .tup (SqT.of h) (.cons (.str s) (.cons (hx.d _ _) .nil))
theorem foundx_dp {K : PySem.W.Frag} {H : Hp} {s : Str} {x : V} {pd : PyData} (hx : AtomD x pd) : ∀ us : List V, (∀ u ∈ us, FzAt H (.tu [.one (.str s), .one x]) u) → DpAll K H us (List.replicate us.length (.tuple [.str s, pd]))
  | [], _ => .nil
  | u :: us, h => .cons (fzx_dp hx (h u (by simp))) (foundx_dp hx us fun y hy => h y (by simp [hy]))
theorem pairx_shape {s : Str} {x : V} {pd : PyData} (hs : PyData.strOk s = true) (hx : AtomD x pd) : ∀ n : Nat, PyData.canLayAll0 (List.replicate n (PyData.tuple [.str s, pd])) = true ∧ PyData.depthAll (List.replicate n (PyData.tuple [.str s, pd])) ≤ 2
  | 0 => ⟨by simp [PyData.canLayAll0], by simp [PyData.depthAll]⟩
  | n + 1 => by
    obtain ⟨h1, h2⟩ := pairx_shape hs hx n
    rw [List.replicate_succ]
    exact ⟨by simp [PyData.canLayAll0, PyData.canLay0, hs, h1, hx.c], by simp [PyData.depthAll, PyData.depth, hx.z]; omega⟩
theorem pairsx_shaped {s : Str} {x : V} {pd : PyData} (hs : PyData.strOk s = true) (hx : AtomD x pd) (n : Nat) : SeqAt.shaped (.list (List.replicate n (PyData.tuple [.str s, pd]))) = true := by
  obtain ⟨h1, h2⟩ := pairx_shape hs hx n
  unfold SeqAt.shaped
  rw [Bool.and_eq_true]
  refine ⟨by simp [PyData.canLay0, h1], decide_eq_true ?_⟩
  simp only [PyData.depth]
  omega
/-- what was found is [(s, x)] * n -/
theorem rep_ne {K : PySem.W.Frag} {H : Hp} {q p2 t : Addr} {s : Str} {x : V} {pd : PyData} {n : Nat} {B : V → Hp → Prop} (hs : PyData.strOk s = true) (hx : AtomD x pd) (F : FoundAt H q (.tu [.one (.str s), .one x]) n) (ol : H p2 = some (.lst (List.replicate n (V.ref t)))) (ot : H t = some (.tup [.str s, x]))
    (h : B (.bl false) H) : rNeD K (.ref q) (.ref p2) H B := by
  obtain ⟨us, hq, lu, fu⟩ := F
  have d1 := Dp.lst (K := K) (SqL.of hq) (foundx_dp hx us fu)
  rw [lu] at d1
  have fz : FzAt H (.tu [.one (.str s), .one x]) (.ref t) := .tu ot rfl (by show 2 < 1000; omega) fun j y z e1 e2 => by
    match j, e1, e2 with
    | 0, e1, e2 =>
      obtain rfl := Option.some.inj e1
      obtain rfl := Option.some.inj e2
      exact .one (.str _)
    | 1, e1, e2 =>
      obtain rfl := Option.some.inj e1
      obtain rfl := Option.some.inj e2
      exact .one hx.a
    | j + 2, e1, e2 => cases e1
  have d2 := Dp.lst (K := K) (SqL.of ol) (foundx_dp hx _ fun u hu => by rw [List.eq_of_mem_replicate hu]; exact fz)
  rw [List.length_replicate] at d2
  refine ⟨_, _, d1, d2, pairsx_shaped hs hx n, pairsx_shaped hs hx n, ?_⟩
  rw [SeqAt.eqv_refl _ (Bool.and_eq_true_iff.mp (pairsx_shaped hs hx n)).1]
  exact h
theorem atomd_non : AtomD .non .none := ⟨fun _ _ => .non, .non, by simp [PyData.canLay0], by simp [PyData.depth]⟩
theorem atomd_str {x : Str} (h : PyData.strOk x = true) : AtomD (.str x) (.str x) := ⟨fun _ _ => .str x, .str x, by simp [PyData.canLay0, h], by simp [PyData.depth]⟩
theorem HdIs.ext {K : PySem.W.Frag} {H H' : Hp} {ns : List Str} {h : V} {r : Option V} (x : HdIs K H ns h r) (s : ExtN H H') : HdIs K H' ns h r := by
  cases x with
  | odd ty hk => exact .odd (ty_ext ty s) hk
  | empty o => exact .empty (s _ _ o (fun _ z => by cases z))
  | bad B ek en => exact .bad (B.ext s) ek (en.ext s)
  | good ne B => exact .good ne (B.ext s)
abbrev NHn : List Str := ["table", "names", "odd", "found", "hands"]
theorem scHn : FnScope NHn ["table", "names"] (defScope sHan) := ⟨rfl, rfl, rfl, by decide +kernel, rfl, by decide +kernel, by decide +kernel⟩
def bodyH1 : List Stmt := match (defBody sHan).getD 0 (.Pass ⟨0, 0, 0, 0⟩) with
  | .For _ _ b _ _ => b
  | _ => []
section
variable {P : Program} {w : World} {K : PySem.W.Frag} {mg : Str → Option Value} {base : Heap} {f C CK CQ CH CG CN CB c Pt : Addr} {T : List (Addr × Str)} {A : Around} {outer : List Env} {s : Shared} {H : Hp} {E : XK}
theorem han_1 (F : GroF P w K mg base C CK CQ CH CG CN CB) (TB : TabB base mg c Pt) (hm : (Pt, (envOfC "_law_hands_refused" (defScope sHan) s.heap.objs.size f (.ref c)).qual ++ "<lambda>") ∈ T) (hu : ∀ p ∈ T, p.1 = Pt → p.2 = (envOfC "_law_hands_refused" (defScope sHan) s.heap.objs.size f (.ref c)).qual ++ "<lambda>")
    (hr : Room 8 (A.deeper (envOfC "_law_hands_refused" (defScope sHan) s.heap.objs.size f (.ref c)))) :
    ∃ t, PSs (cxOf CX0 P w K mg base NHn "_law_hands_refused" (defScope sHan) f (.ref c) A outer s H E).nox bodyH1 t ∧ ∀ (D : Ends) (H0 : Hp) (a nm : Addr) (ns : List Str) (tbl : List (List Int)) (v : V) (s3 s4 : Option V),
      TabAt H0 C a ns tbl → HdIs K H0 ns v (some .non) → Tabs T H0 →
      (∀ H' s3, ExtN H0 H' → Tabs T H' → D.nx [some (.ref a), some (.ref nm), some v, s3, s4] H') → t D [some (.ref a), some (.ref nm), some v, s3, s4] H0 := by
  obtain ⟨f1, fd1, g1, F1, G1⟩ := F.kn
  have b1 := F1.binds (ps := ["field", "hands", "group", "asked"]) fun _ _ _ _ _ _ us hl => match us, hl with | [_, _, _, _], _ => rfl
  obtain ⟨f2, fd2, g2, F2, G2⟩ := F.lg
  have b2 := F2.binds (ps := ["field", "hands", "asked"]) fun _ _ _ _ _ _ us hl => match us, hl with | [_, _, _], _ => rfl
  obtain ⟨f3, fd3, g3, F3, G3⟩ := F.ou
  have b3 := F3.binds (ps := ["field", "hands", "asked"]) fun _ _ _ _ _ _ us hl => match us, hl with | [_, _, _], _ => rfl
  obtain ⟨f4, fd4, g4, F4, G4⟩ := F.my
  have b4 := F4.binds (ps := ["field", "hands", "name", "asked"]) fun _ _ _ _ _ _ us hl => match us, hl with | [_, _, _, _], _ => rfl
  obtain ⟨f5, fd5, g5, F5, G5⟩ := F.sf
  have b5 := F5.binds (ps := ["field", "hands", "most", "asked"]) fun _ _ _ _ _ _ us hl => match us, hl with | [_, _, _, _], _ => rfl
  have nd := scHn.nd
  have hu64 := hr.units
  refine ⟨_, pss_cons (ps_asg (pe_lst (pa_cons (pe_tried F.R 1 rfl TB rfl hm hu hr (by decide) (lamS_by (by show lamSB (defScope sHan) _ = true; decide +kernel)) rfl (fun _ _ _ _ _ => rfl) (fun A outer s H E f c' hr => pe_callS G1 (hr.mono (by decide)) rfl g1 F1.kp b1 (fun σ => passAt (takes_of rfl rfl rfl rfl) σ) (pa_cons (pv 0) (pa_cons (pv 2) (pa_cons pe_non (pa_cons pe_non pa_nil)))))) pa_nil)) (pg_name (i := 3) nd rfl (Or.inl rfl)))
    (pss_cons (ps_expr (pe_bm PySem.F.plainAttrs_list PySem.F.slot_list_append PySem.F.type_list_append mt_append (pv 3) (pa_cons (pe_tried F.R 1 rfl TB rfl hm hu hr (by decide) (lamS_by (by show lamSB (defScope sHan) _ = true; decide +kernel)) rfl (fun _ _ _ _ _ => rfl) (fun A outer s H E f c' hr => pe_callS G2 (hr.mono (by decide)) rfl g2 F2.kp b2 (fun σ => passAt (takes_of rfl rfl rfl rfl) σ) (pa_cons (pv 0) (pa_cons (pv 2) (pa_cons pe_non pa_nil))))) pa_nil)))
    (pss_cons (ps_expr (pe_bm PySem.F.plainAttrs_list PySem.F.slot_list_append PySem.F.type_list_append mt_append (pv 3) (pa_cons (pe_tried F.R 1 rfl TB rfl hm hu hr (by decide) (lamS_by (by show lamSB (defScope sHan) _ = true; decide +kernel)) rfl (fun _ _ _ _ _ => rfl) (fun A outer s H E f c' hr => pe_callS G3 (hr.mono (by decide)) rfl g3 F3.kp b3 (fun σ => passAt (takes_of rfl rfl rfl rfl) σ) (pa_cons (pv 0) (pa_cons (pv 2) (pa_cons pe_non pa_nil))))) pa_nil)))
    (pss_cons (ps_expr (pe_bm PySem.F.plainAttrs_list PySem.F.slot_list_append PySem.F.type_list_append mt_append (pv 3) (pa_cons (pe_tried F.R 1 rfl TB rfl hm hu hr (by decide) (lamS_by (by show lamSB (defScope sHan) _ = true; decide +kernel)) rfl (fun _ _ _ _ _ => rfl) (fun A outer s H E f c' hr => pe_callS G4 (hr.mono (by decide)) rfl g4 F4.kp b4 (fun σ => passAt (takes_of rfl rfl rfl rfl) σ) (pa_cons (pv 0) (pa_cons (pv 2) (pa_cons pe_non (pa_cons pe_non pa_nil)))))) pa_nil)))
    (pss_cons (ps_expr (pe_bm PySem.F.plainAttrs_list PySem.F.slot_list_append PySem.F.type_list_append mt_append (pv 3) (pa_cons (pe_tried F.R 1 rfl TB rfl hm hu hr (by decide) (lamS_by (by show lamSB (defScope sHan) _ = true; decide +kernel)) rfl (fun _ _ _ _ _ => rfl) (fun A outer s H E f c' hr => pe_callS G5 (hr.mono (by decide)) rfl g5 F5.kp b5 (fun σ => passAt (takes_of rfl rfl rfl rfl) σ) (pa_cons (pv 0) (pa_cons (pv 2) (pa_cons pe_non (pa_cons pe_non pa_nil)))))) pa_nil)))
    (pss_one (ps_if (pt_cmpR (r := rNeD K) (op_neD hu64) (pv 3) (pe_op op_rep (pe_lst (pa_cons (pe_tup (pa_cons pe_str (pa_cons pe_non pa_nil))) pa_nil)) pe_int) (nomark _)) (pss_one ps_never) pss_nil)))))), ?_⟩
  intro D H0 a nm ns tbl v s3 s4 tab hd T0 fin
  have hc : (⟨"BadHands", CH, "hands", "name"⟩ : Clz) ∈ clz6 CK CQ CH CG CN CB := by simp [clz6]
  have th : ∀ H9, Thg H9 0 .non (.one .non) := fun _ => .one .non
  have nn : ∀ {R : Prop}, (some V.non : Option V) = none → R := fun z => by cases z
  have fl : ∀ {H9 : Hp} {E : XK}, Flies CH "name" .non H9 E → ∀ z, (some V.non : Option V) = some z → Flies CH "name" z H9 E := fun h z e => by cases e; exact h
  refine set_read (c := ⟨"BadHands", CH, "hands", "name"⟩) (v := .non) (tr := .one .non) T0 hc (fun H9 _ => th H9) (fun H1 E R e1 T1 hf => ⟨_, rfl, _, rfl, a, ns, tbl, v, .non, .non, some .non, rfl, tab.ext e1, hd.ext e1, fl hf, nn⟩) fun H1 q fq e1 T1 FA1 => ?_
  refine app_read (c := ⟨"BadHands", CH, "hands", "name"⟩) (v := .non) (tr := .one .non) rfl FA1 (by omega) T1 hc (fun H9 _ => th H9) (fun H9 E R e9 T9 hf => ⟨_, rfl, _, rfl, a, ns, tbl, v, .non, some .non, rfl, tab.ext (e1.trans e9), hd.ext (e1.trans e9), fl hf, nn⟩) fun H2 g2' T2 FA2 => ?_
  have e2 := grow_on fq e1 g2'
  refine app_read (c := ⟨"BadHands", CH, "hands", "name"⟩) (v := .non) (tr := .one .non) rfl FA2 (by omega) T2 hc (fun H9 _ => th H9) (fun H9 E R e9 T9 hf => ⟨_, rfl, _, rfl, a, ns, tbl, v, .non, some .non, rfl, tab.ext (e2.trans e9), hd.ext (e2.trans e9), fl hf, nn⟩) fun H3 g3' T3 FA3 => ?_
  have e3 := grow_on fq e2 g3'
  refine app_read (c := ⟨"BadHands", CH, "hands", "name"⟩) (v := .non) (tr := .one .non) rfl FA3 (by omega) T3 hc (fun H9 _ => th H9) (fun H9 E R e9 T9 hf => ⟨_, rfl, _, rfl, a, ns, tbl, v, .non, .non, some .non, rfl, tab.ext (e3.trans e9), hd.ext (e3.trans e9), fl hf, nn⟩) fun H4 g4' T4 FA4 => ?_
  have e4 := grow_on fq e3 g4'
  refine app_read (c := ⟨"BadHands", CH, "hands", "name"⟩) (v := .non) (tr := .one .non) rfl FA4 (by omega) T4 hc (fun H9 _ => th H9) (fun H9 E R e9 T9 hf => ⟨_, rfl, _, rfl, a, ns, tbl, v, .non, .non, some .non, rfl, tab.ext (e4.trans e9), hd.ext (e4.trans e9), fl hf, nn⟩) fun H5 g5' T5 FA5 => ?_
  have e5 := grow_on fq e4 g5'
  refine ⟨_, rfl, (by show 2 ≤ sizeLine; decide), fun t nt => ⟨(by show 1 ≤ sizeLine; decide), fun p np => ?_⟩⟩
  have st := same_new (o := .tup [.str "hands", .non]) nt
  have ot : upd H5 t (.tup [.str "hands", .non]) t = some (.tup [.str "hands", .non]) := upd_same
  generalize upd H5 t (.tup [.str "hands", .non]) = H6 at st ot np
  have sp := same_new (o := .lst [.ref t]) np
  have op : upd H6 p (.lst [.ref t]) p = some (.lst [.ref t]) := upd_same
  generalize upd H6 p (.lst [.ref t]) = H7 at sp op
  refine ⟨p, 5, [.ref t], rfl, rfl, op, by decide, by decide, (by show 1 * 5 ≤ sizeLine; rw [sizeLine_eq]; omega), fun p2 np2 => ?_⟩
  have s2 := same_new (o := .lst (List.replicate (Int.toNat 5) [V.ref t]).flatten) np2
  have ol : upd H7 p2 (.lst (List.replicate (Int.toNat 5) [V.ref t]).flatten) p2 = some (.lst (List.replicate 5 (V.ref t))) := upd_same
  generalize upd H7 p2 (.lst (List.replicate (Int.toNat 5) [V.ref t]).flatten) = H8 at s2 ol
  have k8 := (st.trans sp).trans s2
  obtain ⟨us, hq, lu, fu⟩ := FA5
  exact rep_ne (s := "hands") (by decide +kernel) atomd_non ⟨us, k8 _ _ hq, lu, fun u hu => (fu u hu).same k8⟩ ol ((sp.trans s2) _ _ ot) ⟨_, rfl, iteF (fin _ _ (e5.trans (ExtN.of k8)) (T5.ext k8))⟩
theorem han_walk1 (F : GroF P w K mg base C CK CQ CH CG CN CB) (TB : TabB base mg c Pt) (hm : (Pt, (envOfC "_law_hands_refused" (defScope sHan) s.heap.objs.size f (.ref c)).qual ++ "<lambda>") ∈ T) (hu : ∀ p ∈ T, p.1 = Pt → p.2 = (envOfC "_law_hands_refused" (defScope sHan) s.heap.objs.size f (.ref c)).qual ++ "<lambda>")
    (hr : Room 8 (A.deeper (envOfC "_law_hands_refused" (defScope sHan) s.heap.objs.size f (.ref c)))) :
    ∃ t, PS (cxOf CX0 P w K mg base NHn "_law_hands_refused" (defScope sHan) f (.ref c) A outer s H E).nox ((defBody sHan).getD 0 (.Pass ⟨0, 0, 0, 0⟩)) t ∧ ∀ (D : Ends) (H0 : Hp) (a nm : Addr) (ns : List Str) (tbl : List (List Int)) (s2 s3 s4 : Option V), TbNm H0 C a nm ns tbl → Tabs T H0 →
      (∀ H' s2 s3 s4, ExtN H0 H' → Tabs T H' → D.nx [some (.ref a), some (.ref nm), s2, s3, s4] H') → t D [some (.ref a), some (.ref nm), s2, s3, s4] H0 := by
  obtain ⟨t1, p1, r1⟩ := han_1 (P := P) (w := w) (outer := outer) (H := H) (E := E) F TB hm hu hr
  have nd := scHn.nd
  refine ⟨_, ps_for PassesOwn.never rfl (pi_list (pe_lst (pa_cons pe_non (pa_cons pe_int (pa_cons (pe_lst pa_nil) (pa_cons pe_dnewK (pa_cons (pv 1) (pa_cons pe_str pa_nil))))))))
    (pg_name (i := 2) nd rfl (Or.inr rfl)) p1, ?_⟩
  intro D H0 a nm ns tbl s2 s3 s4 I T0 fin
  have sI : ∀ H H' : Hp, Same H H' → (fun H : Hp => H nm = some (.lst (ns.map V.str))) H → (fun H : Hp => H nm = some (.lst (ns.map V.str))) H' := fun _ _ s h => s _ _ h
  have sR : ∀ v H H', Same H H' → (fun v H => HdIs K H ns v (some .non)) v H → (fun v H => HdIs K H ns v (some .non)) v H' := fun v H H' s h => h.same s
  refine odd_for (n := 6) (I := fun H => H nm = some (.lst (ns.map V.str))) (R := fun v H => HdIs K H ns v (some .non)) (Sh := fun σ => ∃ s2 s3 s4, σ = [some (.ref a), some (.ref nm), s2, s3, s4]) (by omega) sR ?_ I.o T0 ⟨_, _, _, rfl⟩ ?_ ?_
  · exact (gvA_cons sI sR (gv_c fun H _ => .odd (.base .non) (by decide +kernel))
      (gvA_cons sI sR (gv_c fun H _ => .odd (.base (.int 5)) (by decide +kernel))
      (gvA_cons sI sR (gv_new sI (.lst []) (fun H Q _ h => ⟨(by show 0 ≤ sizeLine; omega), h⟩) (fun H p _ o => .odd (.base (.lst o)) (by decide +kernel)))
      (gvA_cons sI sR (gv_new sI (.dK []) (fun H Q _ h => h) (fun H p _ o => .empty o))
      (gvA_cons sI sR (fun H Q i k => ⟨_, rfl, k _ _ (Same.refl _) (.odd (.base (.lst i)) (by decide +kernel))⟩)
      (gvA_cons sI sR (gv_c fun H _ => .odd (.base (.str _)) (by decide +kernel))
      gvA_nil))))))
  · rintro C' HL x σ' H' k0L hd e TH ⟨s2, s3, s4, rfl⟩ next
    have e0 := (ExtN.of k0L).trans e
    exact r1 _ _ a nm ns tbl x s3 s4 (I.t.ext e0) (hd.ext e) TH (fun H2 s3 e2 T2 => next _ _ e2 T2 ⟨_, _, _, rfl⟩)
  · rintro σ' H' e TH ⟨s2, s3, s4, rfl⟩
    exact fin H' _ _ _ e TH
end
end L2.TB
/-! _law_hands_refused: the second walk -/
namespace L2.TB
open PySem PySem.Spec PyProof.Rows LamX
def bodyH2 : List Stmt := match (defBody sHan).getD 1 (.Pass ⟨0, 0, 0, 0⟩) with
  | .For _ _ b _ _ => b
  | _ => []
theorem badAt_full (full : List Str) : ∀ (xs us : List Str) (n : Nat), (∀ x ∈ xs, x ∈ full) → (us ++ xs).Nodup → badAt full (xs.map V.str) us n = none
  | [], us, n, _, _ => rfl
  | x :: xs, us, n, h, nd => by
    have nx : x ∉ us := fun m => by
      rw [List.nodup_append] at nd
      exact nd.2.2 x m x (by simp) rfl
    have e : us ++ x :: xs = (us ++ [x]) ++ xs := by simp
    rw [e] at nd
    show (if x ∈ full ∧ x ∉ us then badAt full (xs.map V.str) (us ++ [x]) (n + 1) else some n) = _
    rw [if_pos ⟨h x (by simp), nx⟩, badAt_full full xs (us ++ [x]) (n + 1) (fun z hz => h z (by simp [hz])) nd]
section
variable {P : Program} {w : World} {K : PySem.W.Frag} {mg : Str → Option Value} {base : Heap} {f C CK CQ CH CG CN CB c Pt : Addr} {T : List (Addr × Str)} {A : Around} {outer : List Env} {s : Shared} {H : Hp} {E : XK}
theorem han_2 (F : GroF P w K mg base C CK CQ CH CG CN CB) (TB : TabB base mg c Pt) (hm : (Pt, (envOfC "_law_hands_refused" (defScope sHan) s.heap.objs.size f (.ref c)).qual ++ "<lambda>") ∈ T) (hu : ∀ p ∈ T, p.1 = Pt → p.2 = (envOfC "_law_hands_refused" (defScope sHan) s.heap.objs.size f (.ref c)).qual ++ "<lambda>")
    (hr : Room 8 (A.deeper (envOfC "_law_hands_refused" (defScope sHan) s.heap.objs.size f (.ref c)))) :
    ∃ t, PSs (cxOf CX0 P w K mg base NHn "_law_hands_refused" (defScope sHan) f (.ref c) A outer s H E).nox bodyH2 t ∧ ∀ (D : Ends) (H0 : Hp) (a nm : Addr) (ns : List Str) (tbl : List (List Int)) (v : V) (i : Nat) (s3 s4 : Option V),
      TbNm H0 C a nm ns tbl → Bad K H0 ns v (some i) → Tabs T H0 →
      (∀ H' s3 s4, ExtN H0 H' → Tabs T H' → D.nx [some (.ref a), some (.ref nm), some v, s3, s4] H') → t D [some (.ref a), some (.ref nm), some v, s3, s4] H0 := by
  obtain ⟨f1, fd1, g1, F1, G1⟩ := F.kn
  have b1 := F1.binds (ps := ["field", "hands", "group", "asked"]) fun _ _ _ _ _ _ us hl => match us, hl with | [_, _, _, _], _ => rfl
  obtain ⟨f5, fd5, g5, F5, G5⟩ := F.sf
  have b5 := F5.binds (ps := ["field", "hands", "most", "asked"]) fun _ _ _ _ _ _ us hl => match us, hl with | [_, _, _, _], _ => rfl
  have nd := scHn.nd
  have hu64 := hr.units
  refine ⟨_, pss_cons (ps_set (i := 4) nd rfl (Or.inr rfl) (pe_disp (pps_cons pe_str (pv 1) (pps_cons pe_str (pv 2) (pps_cons pe_str pe_non pps_nil))) rfl rfl (by decide) (by decide)))
    (pss_cons (ps_asg (pe_lst (pa_cons (pe_tried F.R 1 rfl TB rfl hm hu hr (by decide) (lamS_by (by show lamSB (defScope sHan) _ = true; decide +kernel)) rfl (fun _ _ _ _ _ => rfl) (fun A outer s H E f c' hr => pe_callS G1 (hr.mono (by decide)) rfl g1 F1.kp b1 (fun σ => passAt (takes_of rfl rfl rfl rfl) σ) (pa_cons (pv 0) (pa_cons (pv 4) (pa_cons pe_non (pa_cons pe_non pa_nil)))))) pa_nil)) (pg_name (i := 3) nd rfl (Or.inl rfl)))
    (pss_cons (ps_expr (pe_bm PySem.F.plainAttrs_list PySem.F.slot_list_append PySem.F.type_list_append mt_append (pv 3) (pa_cons (pe_tried F.R 1 rfl TB rfl hm hu hr (by decide) (lamS_by (by show lamSB (defScope sHan) _ = true; decide +kernel)) rfl (fun _ _ _ _ _ => rfl) (fun A outer s H E f c' hr => pe_callS G5 (hr.mono (by decide)) rfl g5 F5.kp b5 (fun σ => passAt (takes_of rfl rfl rfl rfl) σ) (pa_cons (pv 0) (pa_cons (pv 4) (pa_cons pe_non (pa_cons pe_non pa_nil)))))) pa_nil)))
    (pss_one (ps_if (pt_cmpR (r := rNeD K) (op_neD hu64) (pv 3) (pe_op op_rep (pe_lst (pa_cons (pe_tup (pa_cons pe_str (pa_cons pe_str pa_nil))) pa_nil)) pe_int) (nomark _)) (pss_one ps_never) pss_nil)))), ?_⟩
  intro D H0 a nm ns tbl v i s3 s4 I hB T0 fin
  intro d ndd
  have kd := same_new (o := .dK []) ndd
  have od0 : upd H0 d (.dK []) d = some (.dK []) := upd_same
  generalize hH1 : upd H0 d (.dK []) = H1 at kd od0
  refine ⟨_, rfl, _, rfl, od0, [(Sum.inr "h1", .ref nm), (Sum.inr "h2", v), (Sum.inr "h3", .non)], rfl, (by show 3 ≤ 15; omega), ?_⟩
  have nk : (([(Sum.inr "h1", V.ref nm), (Sum.inr "h2", v), (Sum.inr "h3", .non)] : List (Key × V)).map (·.1)).Nodup := by show ([Sum.inr "h1", Sum.inr "h2", Sum.inr "h3"] : List Key).Nodup; decide
  rw [merge_nd nk]
  have k2 : Same H0 (upd H1 d (.dK [(Sum.inr "h1", .ref nm), (Sum.inr "h2", v), (Sum.inr "h3", .non)])) := fun b o e => by
    rw [upd_ne (ne_of_none e ndd)]
    exact kd _ _ e
  have od : upd H1 d (.dK [(Sum.inr "h1", .ref nm), (Sum.inr "h2", v), (Sum.inr "h3", .non)]) d = some (.dK [(Sum.inr "h1", .ref nm), (Sum.inr "h2", v), (Sum.inr "h3", .non)]) := upd_same
  generalize upd H1 d (.dK [(Sum.inr "h1", .ref nm), (Sum.inr "h2", v), (Sum.inr "h3", .non)]) = H2 at k2 od
  have I2 := I.ext (ExtN.of k2)
  have hd : HdIs K H2 ns (.ref d) (some (.str "h2")) := by
    refine .bad (j := 1) (k := Sum.inr "h2") ⟨od, nk, by show 3 < 1000; omega, fun kv hk x e => ?_, fun j kv lt e => ?_⟩ rfl (.val (by decide +kernel) (hB.same k2))
    · simp only [List.mem_cons, List.not_mem_nil, or_false] at hk
      rcases hk with rfl | rfl | rfl <;> (obtain rfl := Sum.inr.inj e; decide +kernel)
    · obtain rfl : j = 0 := by omega
      obtain rfl := Option.some.inj e
      have z : Bad K H2 ns (.ref nm) (badAt ns (ns.map V.str) [] 0) := .seq (.inl I2.o) (fun x hx => by obtain ⟨y, _, rfl⟩ := List.mem_map.mp hx; exact .str y) (by rw [List.length_map]; have := I.sh; omega)
      rw [badAt_full ns ns [] 0 (fun _ h => h) (by simpa using I.nd)] at z
      exact .val (by decide +kernel) z
  have T2 := T0.ext k2
  have fin2 : ∀ H' s3 s4, ExtN H2 H' → Tabs T H' → D.nx [some (.ref a), some (.ref nm), some v, s3, s4] H' := fun H' s3 s4 e t => fin H' s3 s4 ((ExtN.of k2).trans e) t
  have hc : (⟨"BadHands", CH, "hands", "name"⟩ : Clz) ∈ clz6 CK CQ CH CG CN CB := by simp [clz6]
  have th : ∀ H9, Thg H9 0 (.str "h2") (.one (.str "h2")) := fun _ => .one (.str _)
  have nn : ∀ {R : Prop}, (some (V.str "h2") : Option V) = none → R := fun z => by cases z
  have fl : ∀ {H9 : Hp} {E : XK}, Flies CH "name" (.str "h2") H9 E → ∀ z, (some (V.str "h2") : Option V) = some z → Flies CH "name" z H9 E := fun h z e => by cases e; exact h
  refine set_read (c := ⟨"BadHands", CH, "hands", "name"⟩) (v := .str "h2") (tr := .one (.str "h2")) T2 hc (fun H9 _ => th H9) (fun H1 E R e1 T1 hf => ⟨_, rfl, _, rfl, a, ns, tbl, .ref d, .non, .non, some (.str "h2"), rfl, (I2.ext e1).t, hd.ext e1, fl hf, nn⟩) fun H3 q fq e1 T3 FA1 => ?_
  refine app_read (c := ⟨"BadHands", CH, "hands", "name"⟩) (v := .str "h2") (tr := .one (.str "h2")) rfl FA1 (by omega) T3 hc (fun H9 _ => th H9) (fun H9 E R e9 T9 hf => ⟨_, rfl, _, rfl, a, ns, tbl, .ref d, .non, .non, some (.str "h2"), rfl, (I2.ext (e1.trans e9)).t, hd.ext (e1.trans e9), fl hf, nn⟩) fun H5 g2' T5 FA5 => ?_
  have e5 := grow_on fq e1 g2'
  refine ⟨_, rfl, (by show 2 ≤ sizeLine; decide), fun t nt => ⟨(by show 1 ≤ sizeLine; decide), fun p np => ?_⟩⟩
  have st := same_new (o := .tup [.str "hands", .str "h2"]) nt
  have ot : upd H5 t (.tup [.str "hands", .str "h2"]) t = some (.tup [.str "hands", .str "h2"]) := upd_same
  generalize upd H5 t (.tup [.str "hands", .str "h2"]) = H6 at st ot np
  have sp := same_new (o := .lst [.ref t]) np
  have op : upd H6 p (.lst [.ref t]) p = some (.lst [.ref t]) := upd_same
  generalize upd H6 p (.lst [.ref t]) = H7 at sp op
  refine ⟨p, 2, [.ref t], rfl, rfl, op, by decide, by decide, (by show 1 * 2 ≤ sizeLine; rw [sizeLine_eq]; omega), fun p2 np2 => ?_⟩
  have s2 := same_new (o := .lst (List.replicate (Int.toNat 2) [V.ref t]).flatten) np2
  have ol : upd H7 p2 (.lst (List.replicate (Int.toNat 2) [V.ref t]).flatten) p2 = some (.lst (List.replicate 2 (V.ref t))) := upd_same
  generalize upd H7 p2 (.lst (List.replicate (Int.toNat 2) [V.ref t]).flatten) = H8 at s2 ol
  have k8 := (st.trans sp).trans s2
  obtain ⟨us, hq, lu, fu⟩ := FA5
  exact rep_ne (s := "hands") (by decide +kernel) (atomd_str (by decide +kernel)) ⟨us, k8 _ _ hq, lu, fun u hu => (fu u hu).same k8⟩ ol ((sp.trans s2) _ _ ot) ⟨_, rfl, iteF (fin2 _ _ _ (e5.trans (ExtN.of k8)) (T5.ext k8))⟩
theorem han_walk2 (F : GroF P w K mg base C CK CQ CH CG CN CB) (TB : TabB base mg c Pt) (hm : (Pt, (envOfC "_law_hands_refused" (defScope sHan) s.heap.objs.size f (.ref c)).qual ++ "<lambda>") ∈ T) (hu : ∀ p ∈ T, p.1 = Pt → p.2 = (envOfC "_law_hands_refused" (defScope sHan) s.heap.objs.size f (.ref c)).qual ++ "<lambda>")
    (hr : Room 8 (A.deeper (envOfC "_law_hands_refused" (defScope sHan) s.heap.objs.size f (.ref c)))) :
    ∃ t, PS (cxOf CX0 P w K mg base NHn "_law_hands_refused" (defScope sHan) f (.ref c) A outer s H E).nox ((defBody sHan).getD 1 (.Pass ⟨0, 0, 0, 0⟩)) t ∧ ∀ (D : Ends) (H0 : Hp) (a nm : Addr) (ns : List Str) (tbl : List (List Int)) (s2 s3 s4 : Option V), TbNm H0 C a nm ns tbl → Tabs T H0 →
      (∀ H' s2 s3 s4, ExtN H0 H' → Tabs T H' → D.nx [some (.ref a), some (.ref nm), s2, s3, s4] H') → t D [some (.ref a), some (.ref nm), s2, s3, s4] H0 := by
  obtain ⟨t1, p1, r1⟩ := han_2 (P := P) (w := w) (outer := outer) (H := H) (E := E) F TB hm hu hr
  have nd := scHn.nd
  refine ⟨_, ps_for PassesOwn.never rfl (pi_list (pe_lst (pa_cons pe_non (pa_cons pe_int (pa_cons (pe_ix (r := rIxL K) ix_list (pv 1) pe_int (fun _ _ => rfl)) (pa_cons (pe_lst (pa_cons pe_str pa_nil)) (pa_cons (pe_op op_rep (pe_lst (pa_cons (pe_ix (r := rIxL K) ix_list (pv 1) pe_int (fun _ _ => rfl)) pa_nil)) pe_int) (pa_cons pe_dnewK (pa_cons (pe_lst (pa_cons pe_non pa_nil)) pa_nil)))))))))
    (pg_name (i := 2) nd rfl (Or.inr rfl)) p1, ?_⟩
  intro D H0 a nm ns tbl s2 s3 s4 I T0 fin
  obtain ⟨y, ns', rfl⟩ : ∃ y ns', ns = y :: ns' := by
    cases ns with
    | nil => exact absurd rfl I.ne
    | cons y r => exact ⟨y, r, rfl⟩
  have ay : atI (V.str y :: ns'.map V.str) 0 = some (.str y) := atI_nat (xs := V.str y :: ns'.map V.str) (j := 0) (v := .str y) rfl
  have sI : ∀ H H' : Hp, Same H H' → (fun H : Hp => H nm = some (.lst ((y :: ns').map V.str))) H → (fun H : Hp => H nm = some (.lst ((y :: ns').map V.str))) H' := fun _ _ s h => s _ _ h
  have sR : ∀ v H H', Same H H' → (fun v H => ∃ i : Nat, Bad K H (y :: ns') v (some i)) v H → (fun v H => ∃ i : Nat, Bad K H (y :: ns') v (some i)) v H' := fun v H H' s ⟨i, h⟩ => ⟨i, h.same s⟩
  have no1 : badAt (y :: ns') [.str "no one"] [] 0 = some 0 := by
    show (if (Str.ofString "no one") ∈ y :: ns' ∧ _ then _ else some 0) = some 0
    rw [if_neg (fun z => no_one (I.ok _ z.1))]
  have two : badAt (y :: ns') [.str y, .str y] [] 0 = some 1 := by simp [badAt, strOf]
  refine odd_for (n := 7) (I := fun H => H nm = some (.lst ((y :: ns').map V.str))) (R := fun v H => ∃ i : Nat, Bad K H (y :: ns') v (some i)) (Sh := fun σ => ∃ s2 s3 s4, σ = [some (.ref a), some (.ref nm), s2, s3, s4]) (by omega) sR ?_ I.o T0 ⟨_, _, _, rfl⟩ ?_ ?_
  · exact (gvA_cons sI sR (gv_c fun H _ => ⟨0, .no ⟨_, .base .non, by decide +kernel, by decide +kernel⟩⟩)
      (gvA_cons sI sR (gv_c fun H _ => ⟨0, .no ⟨_, .base (.int 5), by decide +kernel, by decide +kernel⟩⟩)
      (gvA_cons sI sR (fun H Q i k => ⟨_, rfl, nm, _, 0, .str y, rfl, rfl, SqL.of i, ay, k _ _ (Same.refl _) ⟨0, .no ⟨_, .base (.str y), by decide +kernel, by decide +kernel⟩⟩⟩)
      (gvA_cons sI sR (gv_new sI (.lst [.str "no one"]) (fun H Q _ h => ⟨(by show 1 ≤ sizeLine; decide), h⟩) (fun H p _ o => ⟨0, by rw [← no1]; exact .seq (.inl o) (by intro x hx; simp at hx; subst hx; exact .str _) (by show 1 < 1000; omega)⟩))
      (gvA_cons sI sR (fun H Q i k => ⟨_, rfl, nm, _, 0, .str y, rfl, rfl, SqL.of i, ay, (by show 1 ≤ sizeLine; decide), fun l nl => ⟨l, 2, [.str y], rfl, rfl, upd_same, by decide, by decide, (by show 1 * 2 ≤ sizeLine; rw [sizeLine_eq]; omega), fun l2 nl2 => k _ _ ((same_new nl).trans (same_new nl2)) ⟨1, by rw [← two]; exact .seq (.inl upd_same) (by intro x hx; simp at hx; subst hx; exact .str _) (by show 2 < 1000; omega)⟩⟩⟩)
      (gvA_cons sI sR (gv_new sI (.dK []) (fun H Q _ h => h) (fun H p _ o => ⟨0, .no ⟨_, .base (.dK o), by decide +kernel, by decide +kernel⟩⟩))
      (gvA_cons sI sR (gv_new sI (.lst [.non]) (fun H Q _ h => ⟨(by show 1 ≤ sizeLine; decide), h⟩) (fun H p _ o => ⟨0, .seq (xs := [.non]) (.inl o) (by intro x hx; simp at hx; subst hx; exact .non) (by show 1 < 1000; omega)⟩))
      gvA_nil)))))))
  · rintro C' HL x σ' H' k0L ⟨i, hb⟩ e TH ⟨s2, s3, s4, rfl⟩ next
    have e0 := (ExtN.of k0L).trans e
    exact r1 _ _ a nm (y :: ns') tbl x i s3 s4 (I.ext e0) (hb.ext e) TH (fun H2 s3 s4 e2 T2 => next _ _ e2 T2 ⟨_, _, _, rfl⟩)
  · rintro σ' H' e TH ⟨s2, s3, s4, rfl⟩
    exact fin H' _ _ _ e TH
end
end L2.TB
/-! _law_hands_refused: the third walk -/
namespace L2.TB
open PySem PySem.Spec PyProof.Rows LamX MK
theorem pe_or {X : Cx} {e : Expr} {t1 t2 : TE} (h1 : PE X e t1) (h2 : PE X e t2) : PE X e (fun σ H Q => t1 σ H Q ∨ t2 σ H Q) := ⟨fun pins s σ H Q I h => h.elim (h1.run pins s σ H Q I) (h2.run pins s σ H Q I)⟩
theorem hu_out {k : Nat} {A : Around} (hr : Room k A) : A.units + 8 < cLine := by
  have := hr.un
  omega
theorem pe_dispXw {X : Cx} {w : World} {pos : Pos} {keys : List (Option Expr)} {values : List Expr} {trs : List (TE × TE)} (hw : X.w = w) (hu : X.A.units + 8 < cLine) (h : PPs X pos keys values trs) (hall : keys.all (·.isSome) = true) (hl : keys.length = values.length) (h0 : keys ≠ [])
    (h15 : keys.length ≤ 15) : PE X (.Dict keys values pos) (tDispX w trs) := hw ▸ pe_dispX hu h hall hl h0 h15
def bodyH3 : List Stmt := match (defBody sHan).getD 2 (.Pass ⟨0, 0, 0, 0⟩) with
  | .For _ _ b _ _ => b
  | _ => []
/-- what is put as a key -/
structure OddK (K : PySem.W.Frag) (H : Hp) (v : V) : Prop where
  f : ∃ tr, Thg H 1 v tr ∧ TrD 1 tr ∧ FzAt H tr v
  k : v = .str "" ∨ ((∃ k : NestedKey, KeyH H k v ∧ k ≠ .text "h1" ∧ k ≠ .text "" ∧ k.depth ≤ 8) ∧ ((∃ x, v = .str x ∧ x.cps.toList.length < 1000 ∧ nmB x = false) ∨ NoStr K H v))
theorem OddK.ext {K : PySem.W.Frag} {H H' : Hp} {v : V} (h : OddK K H v) (s : ExtN H H') : OddK K H' v := by
  obtain ⟨tr, a, b, c⟩ := h.f
  refine ⟨⟨tr, a.ext s, b, c.ext s⟩, h.k.imp id fun ⟨⟨k, p, q⟩, r⟩ => ⟨⟨k, p.mono fun _ _ e => s _ _ e (fun _ z => by cases z), q⟩, r.imp id fun ⟨t, x, y⟩ => ⟨t, ty_ext x s, y⟩⟩⟩
theorem OddK.same {K : PySem.W.Frag} {H H' : Hp} {v : V} (h : OddK K H v) (s : Same H H') : OddK K H' v := by
  obtain ⟨tr, a, b, c⟩ := h.f
  exact ⟨⟨tr, a.same s, b, c.same s⟩, h.k.imp id fun ⟨⟨k, p, q⟩, r⟩ => ⟨⟨k, p.mono fun _ _ e => s _ _ e, q⟩, r.imp id fun z => z.same s⟩⟩
section
variable {P : Program} {w : World} {K : PySem.W.Frag} {mg : Str → Option Value} {base : Heap} {f C CK CQ CH CG CN CB c Pt fL fS : Addr} {fdL fdS : FuncData} {T : List (Addr × Str)} {A : Around} {outer : List Env} {s : Shared} {H : Hp} {E : XK}
theorem han_3 (R : Trd P w K mg CK CQ CH CG CN CB) (FL : Fun K "least_groups" "least_groups" sLeastG fL fdL) (gL : mg "least_groups" = some (.ref fL)) (GL : FnOk P w K mg base (L2.CX P w) 5 fL fdL ["field", "hands", "asked"] (spLgB w K C CH CQ))
    (FS : Fun K "_law_same" "_law_same" sSame fS fdS) (gS : mg "_law_same" = some (.ref fS)) (M : Sm mg) (TB : TabB base mg c Pt) (hm : (Pt, (envOfC "_law_hands_refused" (defScope sHan) s.heap.objs.size f (.ref c)).qual ++ "<lambda>") ∈ T) (hu : ∀ p ∈ T, p.1 = Pt → p.2 = (envOfC "_law_hands_refused" (defScope sHan) s.heap.objs.size f (.ref c)).qual ++ "<lambda>")
    (hr : Room 8 (A.deeper (envOfC "_law_hands_refused" (defScope sHan) s.heap.objs.size f (.ref c)))) :
    ∃ t, PSs (cxOf CX0 P w K mg base NHn "_law_hands_refused" (defScope sHan) f (.ref c) A outer s H E).nox bodyH3 t ∧ ∀ (D : Ends) (H0 : Hp) (a nm : Addr) (ns : List Str) (tbl : List (List Int)) (v : V) (s3 s4 : Option V),
      TabAt H0 C a ns tbl → OddK K H0 v → Tabs T H0 →
      (∀ H', ExtN H0 H' → Tabs T H' → D.nx [some (.ref a), some (.ref nm), some v, s3, s4] H') → t D [some (.ref a), some (.ref nm), some v, s3, s4] H0 := by
  have bL := FL.binds (ps := ["field", "hands", "asked"]) fun _ _ _ _ _ _ us hl => match us, hl with | [_, _, _], _ => rfl
  have GS : FnOk P w K mg base CX0 3 fS fdS ["found", "due"] (spSameF 2) := ok_sameF FS gS M 2
  have bS := FS.binds (ps := ["found", "due"]) fun _ _ _ _ _ _ us hl => match us, hl with | [_, _], _ => rfl
  refine ⟨_, pss_one (ps_if (pt_not (pt_val (pe_call GS (hr.mono (by decide)) rfl gS FS.kp bS .nil pass0 (pa_cons (pe_tried R 2 rfl TB rfl hm hu hr (by decide) (lamS_by (by show lamSB (defScope sHan) _ = true; decide +kernel)) rfl (fun _ _ _ _ _ => rfl)
      (fun A outer s H E f c' hr => pe_callS GL (hr.mono (by decide)) rfl gL FL.kp bL (fun σ => passAt (takes_of rfl rfl rfl rfl) σ) (pa_cons (pv 0) (pa_cons
        (pe_or (pe_disp (pps_cons pe_str (pe_lst pa_nil) (pps_cons (pv 2) (pe_lst pa_nil) (pps_cons pe_str pe_int pps_nil))) rfl rfl (by decide) (by decide))
          (pe_dispXw (w := w) rfl (hu_out hr) (pps_cons pe_str (pe_lst pa_nil) (pps_cons (pv 2) (pe_lst pa_nil) (pps_cons pe_str pe_int pps_nil))) rfl rfl (by decide) (by decide))) (pa_cons pe_non pa_nil)))))
    (pa_cons (pe_tup (pa_cons pe_str (pa_cons (pv 2) pa_nil))) pa_nil))))) (pss_one ps_never) pss_nil), ?_⟩
  intro D H0 a nm ns tbl v s3 s4 tab odd T0 fin
  have hc : (⟨"BadHands", CH, "hands", "name"⟩ : Clz) ∈ clz6 CK CQ CH CG CN CB := by simp [clz6]
  obtain ⟨tr, th, td, fzv⟩ := odd.f
  refine ⟨T0, fun H1 eN T1 E R hE => ?_⟩
  have fly := tried_by (c := ⟨"BadHands", CH, "hands", "name"⟩) (n := 1) (v := v) (tr := tr) hc (th.ext eN) (fun H2 u s2 fu => ?_) E hE
  · refine ⟨_, rfl, ?_⟩
    have tab1 := tab.ext eN
    have odd1 := odd.ext eN
    rcases odd1.k with rfl | ⟨⟨k, hk, n1, n2, dk⟩, kind⟩
    · left
      intro d ndd
      have kd := same_new (o := .dK []) ndd
      have od0 : upd H1 d (.dK []) d = some (.dK []) := upd_same
      generalize upd H1 d (.dK []) = H2 at kd od0
      refine ⟨(by show 0 ≤ sizeLine; omega), fun l nl => ?_⟩
      have kl := same_new (o := .lst []) nl
      have ol : upd H2 l (.lst []) l = some (.lst []) := upd_same
      generalize upd H2 l (.lst []) = H3 at kl ol
      refine ⟨_, rfl, (by show 0 ≤ sizeLine; omega), fun l2 nl2 => ?_⟩
      have kl2 := same_new (o := .lst []) nl2
      generalize upd H3 l2 (.lst []) = H4 at kl2
      have od1 := (kl.trans kl2) _ _ od0
      refine ⟨od1, [(Sum.inr "h1", .ref l), (Sum.inr "", .ref l2), (Sum.inr "", .int 5)], rfl, (by show 3 ≤ 15; omega), ?_⟩
      have em : mergeK [] ([(Sum.inr "h1", V.ref l), (Sum.inr "", V.ref l2), (Sum.inr "", V.int 5)] : List (Key × V)) = ([(Sum.inr "h1", V.ref l), (Sum.inr "", V.int 5)] : List (Key × V)) := by rfl
      rw [em]
      have nd1 : l ≠ d := ne_of (kl2 _ _ ol) od1 (by intro z; cases z)
      have k5 : Same H1 (upd H4 d (.dK [(Sum.inr "h1", .ref l), (Sum.inr "", .int 5)])) := fun b o e => by
        rw [upd_ne (ne_of_none e ndd)]
        exact (kl.trans kl2) _ _ (kd _ _ e)
      have od : upd H4 d (.dK [(Sum.inr "h1", .ref l), (Sum.inr "", .int 5)]) d = some (.dK [(Sum.inr "h1", .ref l), (Sum.inr "", .int 5)]) := upd_same
      have ol' : upd H4 d (.dK [(Sum.inr "h1", .ref l), (Sum.inr "", .int 5)]) l = some (.lst []) := by rw [upd_ne nd1]; exact kl2 _ _ ol
      generalize upd H4 d (.dK [(Sum.inr "h1", .ref l), (Sum.inr "", .int 5)]) = H5 at k5 od ol'
      refine .inl ⟨a, ns, tbl, .ref d, .non, some (.str ""), rfl, tab1.same k5, .bad (j := 1) (k := Sum.inr "") ⟨od, ?_, by show 2 < 1000; omega, fun kv hk x e => ?_, fun j kv lt e => ?_⟩ rfl (.key (by decide +kernel)), fun z e => (by cases e; exact fly.same k5), fun z => by cases z⟩
      · show ([Sum.inr "h1", Sum.inr ""] : List Key).Nodup; decide
      · simp only [List.mem_cons, List.not_mem_nil, or_false] at hk
        rcases hk with rfl | rfl <;> (obtain rfl := Sum.inr.inj e; decide +kernel)
      · obtain rfl : j = 0 := by omega
        obtain rfl := Option.some.inj e
        have z : Bad K H5 ns (.ref l) (badAt ns [] [] 0) := .seq (.inl ol') (fun x hx => by cases hx) (by show 0 < 1000; omega)
        exact .val (by decide +kernel) z
    · right
      intro d ndd
      have kd := same_new (o := DX w d [] []) ndd
      have od0 : upd H1 d (DX w d [] []) d = some (DX w d [] []) := upd_same
      generalize upd H1 d (DX w d [] []) = H2 at kd od0
      refine ⟨(by show 0 ≤ sizeLine; omega), fun l nl => ?_⟩
      have kl := same_new (o := .lst []) nl
      have ol : upd H2 l (.lst []) l = some (.lst []) := upd_same
      generalize upd H2 l (.lst []) = H3 at kl ol
      refine ⟨_, rfl, (by show 0 ≤ sizeLine; omega), fun l2 nl2 => ?_⟩
      have kl2 := same_new (o := .lst []) nl2
      generalize upd H3 l2 (.lst []) = H4 at kl2
      have od1 := (kl.trans kl2) _ _ od0
      have k14 := (kd.trans kl).trans kl2
      have mix : MixK H4 [.text "h1", k, .text ""] [(.str "h1", .ref l), (v, .ref l2), (.str "", .int 5)] := by
        refine ⟨fun i k' p e1 e2 => ?_, ?_, fun k' hk' => ?_⟩
        · match i, e1, e2 with
          | 0, e1, e2 => obtain rfl := Option.some.inj e1; obtain rfl := Option.some.inj e2; exact .str _
          | 1, e1, e2 => obtain rfl := Option.some.inj e1; obtain rfl := Option.some.inj e2; exact hk.mono fun _ _ e => k14 _ _ e
          | 2, e1, e2 => obtain rfl := Option.some.inj e1; obtain rfl := Option.some.inj e2; exact .str _
          | i + 3, e1, e2 => cases e1
        · rw [List.nodup_cons, List.nodup_cons]
          refine ⟨fun m => ?_, fun m => ?_, by simp⟩
          · simp only [List.mem_cons, List.not_mem_nil, or_false] at m
            rcases m with z | z
            · exact n1 z.symm
            · injection z with z; exact absurd z (by decide)
          · simp only [List.mem_cons, List.not_mem_nil, or_false] at m
            exact n2 m
        · simp only [List.mem_cons, List.not_mem_nil, or_false] at hk'
          rcases hk' with rfl | rfl | rfl
          · exact Nat.zero_le _
          · exact dk
          · exact Nat.zero_le _
      refine ⟨od1, [.text "h1", k, .text ""], rfl, mix, ?_⟩
      have nd1 : l ≠ d := ne_of (kl2 _ _ ol) od1 (by intro z; cases z)
      have k5 : Same H1 (upd H4 d (DX w d [.text "h1", k, .text ""] [(.str "h1", .ref l), (v, .ref l2), (.str "", .int 5)])) := fun b o e => by
        rw [upd_ne (ne_of_none e ndd)]
        exact k14 _ _ e
      refine .inr ⟨a, d, ns, tbl, .non, v, rfl, tab1.same k5, ⟨l, k, .ref l2, [.text ""], [(.str "", .int 5)], upd_same, mix.mono fun b vs e => ?_, ?_, kind.imp id fun z => z.same k5⟩, fly.same k5⟩
      · rw [upd_ne (fun z => by rw [z, od1] at e; cases e)]; exact e
      · rw [upd_ne nd1]; exact kl2 _ _ ol
  refine ⟨_, rfl, (by show 2 ≤ sizeLine; decide), fun t nt => ?_⟩
  have st := same_new (o := .tup [.str "hands", v]) nt
  have td2 : TrD 2 (.tu [.one (.str "hands"), tr]) := .tu fun i t e => by
    match i, e with
    | 0, e => obtain rfl := Option.some.inj e; exact .up (.one _)
    | 1, e => obtain rfl := Option.some.inj e; exact td
    | i + 2, e => cases e
  have ot : FzAt (upd H2 t (.tup [.str "hands", v])) (.tu [.one (.str "hands"), tr]) (.ref t) := by
    refine .tu upd_same rfl (by show 2 < 1000; omega) fun j x' y e1 e2 => ?_
    match j, e1, e2 with
    | 0, e1, e2 =>
      obtain rfl := Option.some.inj e1
      obtain rfl := Option.some.inj e2
      exact .one (.str _)
    | 1, e1, e2 =>
      obtain rfl := Option.some.inj e1
      obtain rfl := Option.some.inj e2
      exact ((fzv.ext eN).same s2).same st
    | j + 2, e1, e2 => cases e1
  exact ⟨u, .ref t, rfl, fz_alk td2 (fu.same st) ot, fun H' s' => ⟨_, rfl, iteF (fin _ (eN.trans (ExtN.of ((s2.trans st).trans s'))) ((T1.ext s2).ext (st.trans s')))⟩⟩
end
end L2.TB
/-! _law_hands_refused whole -/
namespace L2.TB
open PySem PySem.Spec PyProof.Rows LamX MK
section
variable {P : Program} {w : World} {K : PySem.W.Frag} {mg : Str → Option Value} {base : Heap} {f C CK CQ CH CG CN CB c Pt fL fS : Addr} {fd fdL fdS : FuncData} {T : List (Addr × Str)} {A : Around} {outer : List Env} {s : Shared} {H : Hp} {E : XK}
theorem han_walk3 (R : Trd P w K mg CK CQ CH CG CN CB) (FL : Fun K "least_groups" "least_groups" sLeastG fL fdL) (gL : mg "least_groups" = some (.ref fL)) (GL : FnOk P w K mg base (L2.CX P w) 5 fL fdL ["field", "hands", "asked"] (spLgB w K C CH CQ))
    (FS : Fun K "_law_same" "_law_same" sSame fS fdS) (gS : mg "_law_same" = some (.ref fS)) (M : Sm mg) (TB : TabB base mg c Pt) (hm : (Pt, (envOfC "_law_hands_refused" (defScope sHan) s.heap.objs.size f (.ref c)).qual ++ "<lambda>") ∈ T) (hu : ∀ p ∈ T, p.1 = Pt → p.2 = (envOfC "_law_hands_refused" (defScope sHan) s.heap.objs.size f (.ref c)).qual ++ "<lambda>")
    (hr : Room 8 (A.deeper (envOfC "_law_hands_refused" (defScope sHan) s.heap.objs.size f (.ref c)))) :
    ∃ t, PS (cxOf CX0 P w K mg base NHn "_law_hands_refused" (defScope sHan) f (.ref c) A outer s H E).nox ((defBody sHan).getD 2 (.Pass ⟨0, 0, 0, 0⟩)) t ∧ ∀ (D : Ends) (H0 : Hp) (a nm : Addr) (ns : List Str) (tbl : List (List Int)) (s2 s3 s4 : Option V), TbNm H0 C a nm ns tbl → Tabs T H0 →
      (∀ H' s2 s3 s4, ExtN H0 H' → Tabs T H' → D.nx [some (.ref a), some (.ref nm), s2, s3, s4] H') → t D [some (.ref a), some (.ref nm), s2, s3, s4] H0 := by
  obtain ⟨t1, p1, r1⟩ := han_3 (P := P) (w := w) (outer := outer) (H := H) (E := E) R FL gL GL FS gS M TB hm hu hr
  have nd := scHn.nd
  refine ⟨_, ps_for PassesOwn.never rfl (pi_list (pe_lst (pa_cons pe_int (pa_cons pe_str (pa_cons pe_str (pa_cons pe_non (pa_cons (pe_tup (pa_cons pe_str pa_nil)) pa_nil)))))))
    (pg_name (i := 2) nd rfl (Or.inr rfl)) p1, ?_⟩
  intro D H0 a nm ns tbl s2 s3 s4 I T0 fin
  have sI : ∀ H H' : Hp, Same H H' → (fun _ : Hp => True) H → (fun _ : Hp => True) H' := fun _ _ _ _ => trivial
  have sR : ∀ v H H', Same H H' → (fun v H => OddK K H v) v H → (fun v H => OddK K H v) v H' := fun v H H' s h => h.same s
  have at1 : ∀ {H : Hp} {v : V}, Atom v → ∃ tr, Thg H 1 v tr ∧ TrD 1 tr ∧ FzAt H tr v := fun a => ⟨_, .up (.one a), .up (.one _), .one a⟩
  refine odd_for (n := 5) (I := fun _ => True) (R := fun v H => OddK K H v) (Sh := fun σ => ∃ s2 s3 s4, σ = [some (.ref a), some (.ref nm), s2, s3, s4]) (by omega) sR ?_ trivial T0 ⟨_, _, _, rfl⟩ ?_ ?_
  · exact (gvA_cons sI sR (gv_c fun H _ => ⟨at1 (.int 5), .inr ⟨⟨.num 5, .int 5, (fun z => nomatch z), (fun z => nomatch z), Nat.zero_le _⟩, .inr ⟨_, .base (.int 5), by decide +kernel⟩⟩⟩)
      (gvA_cons sI sR (gv_c fun H _ => ⟨at1 (.str _), .inl rfl⟩)
      (gvA_cons sI sR (gv_c fun H _ => ⟨at1 (.str _), .inr ⟨⟨.text "A", .str _, (fun z => by injection z with z; exact absurd z (by decide)), (fun z => by injection z with z; exact absurd z (by decide)), Nat.zero_le _⟩, .inl ⟨_, rfl, by decide +kernel, by decide +kernel⟩⟩⟩)
      (gvA_cons sI sR (gv_c fun H _ => ⟨at1 .non, .inr ⟨⟨.none, .non, (fun z => nomatch z), (fun z => nomatch z), Nat.zero_le _⟩, .inr ⟨_, .base .non, by decide +kernel⟩⟩⟩)
      (gvA_cons sI sR (gv_new sI (.tup [.str "a"]) (fun H Q _ h => ⟨(by show 1 ≤ sizeLine; decide), h⟩) (fun H p _ o => by
        have one : ∀ (i : Nat) (u : V) (t : Tr), [V.str "a"][i]? = some u → [Tr.one (.str "a")][i]? = some t → u = .str "a" ∧ t = .one (.str "a") := fun i u t e1 e2 => by
          match i, e1, e2 with
          | 0, e1, e2 => exact ⟨(Option.some.inj e1).symm, (Option.some.inj e2).symm⟩
          | i + 1, e1, e2 => cases e1
        refine ⟨⟨.tu [.one (.str "a")], .seq (.inr o) rfl (by show 1 < 1000; omega) (fun i u t e1 e2 => ?_), .tu fun i t e => ?_, .tu o rfl (by show 1 < 1000; omega) fun i u t e1 e2 => ?_⟩, .inr ⟨⟨.tup [.text "a"], .tup o rfl fun i v k e1 e2 => ?_, (fun z => nomatch z), (fun z => nomatch z), by decide +kernel⟩, .inr ⟨_, .base (.tup o), by decide +kernel⟩⟩⟩
        · obtain ⟨rfl, rfl⟩ := one i u t e1 e2; exact .one (.str _)
        · match i, e with
          | 0, e => obtain rfl := Option.some.inj e; exact .one _
          | i + 1, e => cases e
        · obtain ⟨rfl, rfl⟩ := one i u t e1 e2; exact .one (.str _)
        · match i, e1, e2 with
          | 0, e1, e2 => obtain rfl := Option.some.inj e1; obtain rfl := Option.some.inj e2; exact .str _
          | i + 1, e1, e2 => cases e1))
      gvA_nil)))))
  · rintro C' HL x σ' H' k0L hb e TH ⟨s2, s3, s4, rfl⟩ next
    have e0 := (ExtN.of k0L).trans e
    exact r1 _ _ a nm ns tbl x s3 s4 (I.t.ext e0) (hb.ext e) TH (fun H2 e2 T2 => next _ _ e2 T2 ⟨_, _, _, rfl⟩)
  · rintro σ' H' e TH ⟨s2, s3, s4, rfl⟩
    exact fin H' _ _ _ e TH
theorem ok_han (FE : Fun K "_law_hands_refused" "_law_hands_refused" sHan f fd) (hc : fd.code = .ref c) (F : GroF P w K mg base C CK CQ CH CG CN CB) (TB : TabB base mg c Pt) (hm : (Pt, ("_law_hands_refused" : Str) ++ ".<locals>." ++ "<lambda>") ∈ T) (hu : ∀ p ∈ T, p.1 = Pt → p.2 = ("_law_hands_refused" : Str) ++ ".<locals>." ++ "<lambda>")
    (FL : Fun K "least_groups" "least_groups" sLeastG fL fdL) (gL : mg "least_groups" = some (.ref fL)) (GL : FnOk P w K mg base (L2.CX P w) 5 fL fdL ["field", "hands", "asked"] (spLgB w K C CH CQ))
    (FS : Fun K "_law_same" "_law_same" sSame fS fdS) (gS : mg "_law_same" = some (.ref fS)) (M : Sm mg) : FnOk P w K mg base CX0 9 f fd ["table", "names"] (spEng C T) := by
  obtain ⟨oc, od, kV, doc, pm, an, cdv, ct, osl, rfl, lk, hcd⟩ := FE.ex
  obtain rfl : cdv = .ref c := hc
  refine fn_of lk hcd scHn (fun vs H Q E h => by obtain ⟨a, nm, ns, tbl, e, _⟩ := h; rw [e]; rfl) fun A outer s H vs Q E hr hsp => ?_
  obtain ⟨a, nm, ns, tbl, rfl, I, T0, hq⟩ := hsp
  obtain ⟨t1, p1, r1⟩ := han_walk1 (P := P) (w := w) (outer := outer) (H := H) (E := E) F TB hm hu hr
  obtain ⟨t2, p2, r2⟩ := han_walk2 (P := P) (w := w) (outer := outer) (H := H) (E := E) F TB hm hu hr
  obtain ⟨t3, p3, r3⟩ := han_walk3 (P := P) (w := w) (outer := outer) (H := H) (E := E) F.R FL gL GL FS gS M TB hm hu hr
  refine ⟨_, PSs.nox (st := defBody sHan) (pss_cons p1 (pss_cons p2 (pss_cons p3 (pss_one (ps_ret pe_bl))))), ?_⟩
  refine r1 _ _ a nm ns tbl _ _ _ I T0 fun H1 s2 s3 s4 e1 T1 => ?_
  have I1 := I.ext e1
  refine r2 _ _ a nm ns tbl _ _ _ I1 T1 fun H2 s2 s3 s4 e2 T2 => ?_
  have I2 := I1.ext e2
  refine r3 _ _ a nm ns tbl _ _ _ I2 T2 fun H3 s2 s3 s4 e3 T3 => ?_
  exact hq _ ((e1.trans e2).trans e3) T3
end
end L2.TB
namespace L2.TB
open PySem PySem.Spec PyProof.Rows
/-! for x, y in zip(xs, ys), xs a list, ys a tuple of as many -/
section
/-- what the maker leaves, one cell after the other -/
abbrev mk1 (h : Heap) (l : Addr) : Heap := h.push { cls := .type "list_iterator", data := .fields #[.ref l, .int 0 0] }
abbrev mk2 (h : Heap) (l t : Addr) : Heap := (mk1 h l).push { cls := .type "tuple_iterator", data := .fields #[.ref t, .int 0 0] }
abbrev mk3 (h : Heap) (l t : Addr) : Heap := (mk2 h l t).push { cls := .type "tuple", data := .seq #[.ref h.objs.size, .ref (mk1 h l).objs.size] }
abbrev mk4 (h : Heap) (l t : Addr) : Heap := (mk3 h l t).push { cls := .type "tuple", data := .seq #[.none, .none] }
abbrev mk5 (h : Heap) (l t : Addr) : Heap := (mk4 h l t).push { cls := .type "zip", data := .fields #[.none, .bool false, .bool false, .ref (mk2 h l t).objs.size, .ref (mk3 h l t).objs.size] }
theorem made_zip (l t : Addr) (as bs : Array Value) : Meets (Builtin.«zip.__new__» ⟨[.type "zip", .ref l, .ref t], []⟩) fun _ done z =>
    z.heap.IsList l as ∧ z.heap.IsTuple t bs ∧ done (.ok (.ret (.ref (mk4 z.heap l t).objs.size))) { z with heap := mk5 z.heap l t } :=
  .of_wp fun _ _ _ _ z hz => by
    obtain ⟨h0, gs, ds, tk, os⟩ := z
    obtain ⟨isL, isT, fin⟩ := hz
    have sub := sub_zip
    have isL0 : Heap.IsList (Shared.heap ⟨h0, gs, ds, tk, os⟩) l as := isL
    have isT1 : Heap.IsTuple (Shared.heap ⟨mk1 h0 l, gs, ds, tk, os⟩) t bs := Heap.IsTuple.push isT _
    wp_walk using wpAny_pyIter_list isL0, wpAny_pyIter_tuple isT1
    exact ⟨_, rfl, fin⟩
theorem zip_mixed {P : Program} {w : World} {A : Around} {z : Shared} {E Q : Value → Shared → Prop} {l t : Addr} {as bs : Array Value} (isL : z.heap.IsList l as) (isT : z.heap.IsTuple t bs)
    (more : ∀ h', IsZip h' (z.heap.objs.size + 4) (z.heap.objs.size + 2) (z.heap.objs.size + 3) .none → IsTupOf2 h' (z.heap.objs.size + 2) (.ref z.heap.objs.size) (.ref (z.heap.objs.size + 1)) →
      IsTupOf2 h' (z.heap.objs.size + 3) .none .none → h'.IsListIter z.heap.objs.size l 0 → h'.IsTupleIter (z.heap.objs.size + 1) t 0 → (∀ c o, z.heap.get? c = some o → h'.get? c = some o) → Q (.ref (z.heap.objs.size + 4)) { z with heap := h' }) :
    wpAny (model P w) A (call (.type "zip") [.ref l, .ref t]) Q E z := by
  refine callType_new F.called_zip (by decide) (F.typeCall_zip_2 _ _) (F.newCall_zip_2 _ _) (fun o => F.args_object_init_3 o _ _) F.entry_zip_new (made_zip l t as bs) ⟨isL, isT, ?_⟩
  have s1 : (mk1 z.heap l).objs.size = z.heap.objs.size + 1 := Heap.size_push ..
  have s2 : (mk2 z.heap l t).objs.size = z.heap.objs.size + 2 := by rw [Heap.size_push, s1]
  have s3 : (mk3 z.heap l t).objs.size = z.heap.objs.size + 3 := by rw [Heap.size_push, s2]
  have s4 : (mk4 z.heap l t).objs.size = z.heap.objs.size + 4 := by rw [Heap.size_push, s3]
  have e5 : (mk5 z.heap l t).get? (mk4 z.heap l t).objs.size = some { cls := .type "zip", data := .fields #[.none, .bool false, .bool false, .ref (mk2 z.heap l t).objs.size, .ref (mk3 z.heap l t).objs.size] } := Heap.get?_push_size _ rfl
  have up5 : ∀ {c : Addr} {o : Obj}, (mk4 z.heap l t).get? c = some o → (mk5 z.heap l t).get? c = some o := fun e => Heap.get?_push_of_some _ e
  have up4 : ∀ {c : Addr} {o : Obj}, (mk3 z.heap l t).get? c = some o → (mk5 z.heap l t).get? c = some o := fun e => up5 (Heap.get?_push_of_some _ e)
  have up3 : ∀ {c : Addr} {o : Obj}, (mk2 z.heap l t).get? c = some o → (mk5 z.heap l t).get? c = some o := fun e => up4 (Heap.get?_push_of_some _ e)
  have up2 : ∀ {c : Addr} {o : Obj}, (mk1 z.heap l).get? c = some o → (mk5 z.heap l t).get? c = some o := fun e => up3 (Heap.get?_push_of_some _ e)
  have e4 : (mk5 z.heap l t).get? (mk3 z.heap l t).objs.size = some { cls := .type "tuple", data := .seq #[.none, .none] } := up5 (Heap.get?_push_size _ rfl)
  have e3 : (mk5 z.heap l t).get? (mk2 z.heap l t).objs.size = some { cls := .type "tuple", data := .seq #[.ref z.heap.objs.size, .ref (mk1 z.heap l).objs.size] } := up4 (Heap.get?_push_size _ rfl)
  have e2 : (mk5 z.heap l t).get? (mk1 z.heap l).objs.size = some { cls := .type "tuple_iterator", data := .fields #[.ref t, .int 0 0] } := up3 (Heap.get?_push_size _ rfl)
  have e1 : (mk5 z.heap l t).get? z.heap.objs.size = some { cls := .type "list_iterator", data := .fields #[.ref l, .int 0 0] } := up2 (Heap.get?_push_size _ rfl)
  show _ ∧ _
  rw [s2, s3, s4] at e5
  rw [s3] at e4
  rw [s1, s2] at e3
  rw [s1] at e2
  rw [s4]
  exact ⟨⟨_, e5, rfl⟩, more _ e5 e3 e4 ⟨_, e1, rfl, rfl⟩ ⟨_, e2, rfl, rfl⟩ fun c o e => up2 (Heap.get?_push_of_some _ e)⟩
end
/-- the items of the list at a and of the tuple at b, in new pairs -/
def ItzM (K : PySem.W.Frag) (a b : Addr) : It where
  go i H := ∃ (xs ys : List V) (x y : V), SqL K H a xs ∧ SqT K H b ys ∧ xs[i]? = some x ∧ ys[i]? = some y
  yld i H v H' := ∃ T x y, v = .ref T ∧ H T = none ∧ H' = upd H T (.tup [x, y]) ∧ (∀ xs, SqL K H a xs → xs[i]? = some x) ∧ ∀ ys, SqT K H b ys → ys[i]? = some y
  stop i H := ∃ xs ys : List V, SqL K H a xs ∧ SqT K H b ys ∧ xs.length = i ∧ ys.length = i
theorem five {p : Addr → Prop} {z u v i j b : Addr} (h : b ∈ [z, u, v, i, j]) (h1 : p z) (h2 : p u) (h3 : p v) (h4 : p i) (h5 : p j) : p b := by
  simp only [List.mem_cons, List.not_mem_nil, or_false] at h
  rcases h with rfl | rfl | rfl | rfl | rfl <;> assumption
theorem turn_zipM {P : Program} {w : World} {K : PySem.W.Frag} {elts : List Expr} {kk : Nat} {tpos : Pos} {a b z u v i1 i2 : Addr} (S : ZipSep2 z u v i1 i2 [i1, a] [i2, b]) :
    Turn P w K (.Tuple elts kk tpos) (ItzM K a b) [z, u, v, i1, i2] z (fun i h => IsZip h z u v .none ∧ IsTupOf2 h u (.ref i1) (.ref i2) ∧ (∃ x y, IsTupOf2 h v x y) ∧ h.IsListIter i1 a i ∧ h.IsTupleIter i2 b i) := by
  have list_ne : ∀ {h : Heap} {i : Nat} {as : Array Value}, h.IsListIter i1 a i → h.IsList a as → a ≠ i1 := by
    rintro h i as ⟨o, eo, co, _⟩ isL rfl
    obtain ⟨o', eo', co', _⟩ := isL
    rw [eo] at eo'
    cases eo'
    rw [co] at co'
    exact absurd co' (by decide)
  have tup_ne : ∀ {h : Heap} {i : Nat} {bs : Array Value}, h.IsTupleIter i2 b i → h.IsTuple b bs → b ≠ i2 := by
    rintro h i bs ⟨o, eo, co, _⟩ isT rfl
    obtain ⟨o', eo', co', _⟩ := isT
    rw [eo] at eo'
    cases eo'
    have co' : o.cls = Value.type "tuple" := co'
    rw [co] at co'
    exact absurd co' (by decide)
  refine ⟨List.mem_cons_self, fun i h st c hc => ?_, fun i h h' st same => ?_, ?_, ?_, fun A i s Q E st more => wpAny_pyIter_zip st.1 more⟩
  · obtain ⟨gz, gu, ⟨x, y, gv⟩, ⟨o1, e1, _, d1⟩, ⟨o2, e2, _, d2⟩⟩ := st
    exact five (p := fun c => ∃ o, h.get? c = some o ∧ ∀ v, o.data ≠ .cell v) hc ⟨_, gz, fun _ e => nomatch e⟩ ⟨_, gu, fun _ e => nomatch e⟩ ⟨_, gv, fun _ e => nomatch e⟩ ⟨o1, e1, fun _ e => by rw [d1] at e; exact nomatch e⟩ ⟨o2, e2, fun _ e => by rw [d2] at e; exact nomatch e⟩
  · obtain ⟨gz, gu, ⟨x, y, gv⟩, h1, h2⟩ := st
    exact ⟨same z (by simp) _ gz, same u (by simp) _ gu, ⟨x, y, same v (by simp) _ gv⟩, h1.at fun o e => same i1 (by simp) o e, h2.at fun o e => same i2 (by simp) o e⟩
  · rintro X rfl rfl rfl calm i pins s σ H E I room ⟨gz, gu, ⟨x0, y0, gv⟩, g1, g2⟩ ⟨xs, ys, x, y, isX, isY, nx, ny⟩
    obtain ⟨us, rel1, p1, _⟩ := I.list isX
    obtain ⟨vs, rel2, p2, _⟩ := I.tuple isY
    obtain ⟨c, nc, rc⟩ := rel1.get nx
    obtain ⟨d, ny', rd⟩ := rel2.get ny
    have isL : s.heap.IsList a us.toArray := p1.isList
    have isT : s.heap.IsTuple b vs.toArray := p2
    have D1 := Draws.list (prog := X.prog) (w := X.w) (A := X.A.in1) (I.ok.hd calm) i1 a (list_ne g1 isL) us.toArray
    have D2 := Draws.tuple (prog := X.prog) (w := X.w) (A := X.A.in1) (I.ok.hd calm) i2 b (tup_ne g2 isT) vs.toArray
    have in1 : i < us.toArray.size := by
      have := (List.getElem?_eq_some_iff.mp nc).1
      simpa using this
    have in2 : i < vs.toArray.size := by
      have := (List.getElem?_eq_some_iff.mp ny').1
      simpa using this
    have lz : z < s.heap.objs.size := Heap.lt_size gz
    refine wpAny_pyNext_zipD2_item S D1 D2 gz gu gv ⟨g1, isL⟩ ⟨g2, isT⟩ in1 in2 fun c' d' h1 tk ec ed gz' gv' st1 st2 newT _ kept => ?_
    obtain rfl : c' = c := by
      have ec : us.toArray[i]? = some c' := ec
      rw [List.getElem?_toArray, nc] at ec
      exact (Option.some.inj ec).symm
    obtain rfl : d' = d := by
      have ed : vs.toArray[i]? = some d' := ed
      rw [List.getElem?_toArray, ny'] at ed
      exact (Option.some.inj ed).symm
    refine ⟨_, rfl, wpAny_letOwnedTupleGo_zip (s := { s with heap := h1, toks := tk }) gz' fun h2 back same2 => ?_⟩
    have far : ∀ q o, q ∉ [z, u, v, i1, i2] → s.heap.get? q = some o → h2.get? q = some o := fun q o away e =>
      (same2.2 q fun k => away (by simp [k])).trans (kept q o (fun k => away (by simp [k])) (fun k => away (by simp [k])) (fun k => away (by simp [k])) (fun k => away (by simp [k])) e)
    have pair : ObjOk X.prog X.w (upd H s.heap.objs.size (.tup [x, y])) h2 s.heap.objs.size (.tup [x, y]) :=
      ⟨show 2 ≤ sizeLine by decide, [c', d'], .cons rc (.cons rd .nil), _, (same2.2 _ (Nat.ne_of_gt lz)).trans newT, rfl, _, rfl⟩
    refine ⟨.ref s.heap.objs.size, _, I.turnedNew (t' := tk) (ch := [z, u, v, i1, i2]) far room (Nat.le_refl _) pair, rfl, ⟨_, x, y, rfl, I.hok.fresh (Nat.le_refl _), rfl, fun l is' => ?_, fun l is' => ?_⟩, ⟨back, ?_, ⟨c', d', ?_⟩, ?_, ?_⟩, fun q hq => ?_⟩
    · rw [I.list_inj is' isX]; exact nx
    · rw [I.tuple_inj is' isY]; exact ny
    · exact (same2.2 _ S.TIz).trans (kept _ _ S.TIz S.TITO S.TIi1 S.TIi2 gu)
    · exact (same2.2 _ S.TOz).trans gv'
    · exact st1.1.at fun o e => (same2.2 _ fun k => S.zi1 k.symm).trans e
    · exact st2.1.at fun o e => (same2.2 _ fun k => S.zi2 k.symm).trans e
    · have lq : q < s.heap.objs.size := by
        obtain ⟨_, e1, _⟩ := g1
        obtain ⟨_, e2, _⟩ := g2
        exact five (p := fun q => q < s.heap.objs.size) hq lz (Heap.lt_size gu) (Heap.lt_size gv) (Heap.lt_size e1) (Heap.lt_size e2)
      rw [upd_ne (Nat.ne_of_lt lq)]
      exact (room q hq).1
  · rintro X rfl rfl rfl calm i pins s σ H E I room ⟨gz, gu, ⟨x0, y0, gv⟩, g1, g2⟩ ⟨xs, ys, isX, isY, l1, l2⟩
    obtain ⟨us, rel1, p1, _⟩ := I.list isX
    obtain ⟨vs, rel2, p2, _⟩ := I.tuple isY
    have isL : s.heap.IsList a us.toArray := p1.isList
    have isT : s.heap.IsTuple b vs.toArray := p2
    have D1 := Draws.list (prog := X.prog) (w := X.w) (A := X.A.in1) (I.ok.hd calm) i1 a (list_ne g1 isL) us.toArray
    have D2 := Draws.tuple (prog := X.prog) (w := X.w) (A := X.A.in1) (I.ok.hd calm) i2 b (tup_ne g2 isT) vs.toArray
    have n1 : i = us.toArray.size := by rw [List.size_toArray, ← rel1.length, l1]
    have n2 : i = vs.toArray.size := by rw [List.size_toArray, ← rel2.length, l2]
    refine wpAny_pyNext_zipD2_end S D1 D2 gz gu gv ⟨g1, isL⟩ ⟨g2, isT⟩ (by omega) (by omega) (.inl n1) fun h1 tk kept => ⟨rfl, ?_⟩
    exact I.turnedL (t' := tk) (ch := [z, u, v, i1, i2]) (fun c o away e => kept c o (fun k => away (by simp [k])) (fun k => away (by simp [k])) (fun k => away (by simp [k])) (fun k => away (by simp [k])) e) room
theorem sep_of (n a b : Nat) (la : a < n) (lb : b < n) : ZipSep2 (n + 4) (n + 2) (n + 3) n (n + 1) [n, a] [n + 1, b] := by
  have h1 : ¬ (n + 4 = a) := by omega
  have h2 : ¬ (n + 4 = b) := by omega
  have h3 : ¬ (n + 3 = a) := by omega
  have h4 : ¬ (n + 3 = b) := by omega
  have h5 : ¬ (n = b) := by omega
  have h6 : ¬ (n + 1 = a) := by omega
  constructor <;> simp [h1, h2, h3, h4, h5, h6]
/-- the reading of zip over a list and a tuple -/
def iZipM (K : PySem.W.Frag) (ta : TA) : TI := fun σ H R => ta σ H fun vs H1 => ∃ a b xs ys, vs = [.ref a, .ref b] ∧ SqL K H1 a xs ∧ SqT K H1 b ys ∧ R (ItzM K a b) H1
theorem pi_zipM {X : Cx} {e e2 : Expr} {ta : TA} {p pos tpos : Pos} {elts : List Expr} {kk : Nat} (hg : Gl X "zip") (hm : X.mg "zip" = none) (ha : PA X [e, e2] ta)
    (hs : starEach [e, e2] X.env = (false, eval e X.env) :: starEach [e2] X.env := by rfl) (hpl : (backTo pos (starEach [e2] X.env)).any (·.1) = false := by rfl) :
    PI X (.Tuple elts kk tpos) (.Call (.Name "zip" p) [e, e2] [] pos) (iZipM X.K ta) := by
  refine ⟨fun pins z σ H R I reading => Call_ (ld_blt I hg hm PyProof.Rows.boot_zip (PyProof.Rows.callWith_type1 (thn (ha.run pos pins z σ H _ I reading) fun us z1 got => ?_) hs hpl))⟩
  obtain ⟨vs, H1, I1, rel, a, b, xs, ys, rfl, isX, isY, q⟩ := got
  match us, rel with
  | [c, d], .cons rc (.cons rd .nil) =>
    obtain rfl : c = Value.ref a := rc
    obtain rfl : d = Value.ref b := rd
    obtain ⟨us, rel1, p1, _⟩ := I1.list isX
    obtain ⟨vs, rel2, p2, _⟩ := I1.tuple isY
    have isL : z1.heap.IsList a us.toArray := p1.isList
    have isT : z1.heap.IsTuple b vs.toArray := p2
    have la : a < z1.heap.objs.size := p1.lt
    have lb : b < z1.heap.objs.size := by
      obtain ⟨o, e, _⟩ := isT
      exact Heap.lt_size e
    refine zip_mixed isL isT fun h' gz gu gv g1 g2 kept => wpAny_pyIter_zip gz ?_
    have fresh : ∀ c ∈ [z1.heap.objs.size + 4, z1.heap.objs.size + 2, z1.heap.objs.size + 3, z1.heap.objs.size, z1.heap.objs.size + 1], FpOk X pins H1 c := fun c hc =>
      have far : z1.heap.objs.size ≤ c := five (p := fun c => z1.heap.objs.size ≤ c) hc (by omega) (by omega) (by omega) (by omega) (by omega)
      I1.fpOk far (I1.hok.fresh far)
    refine ⟨_, _, _, _, H1, rfl, I1.kept (t' := z1.toks) kept, turn_zipM (a := a) (b := b) (z := z1.heap.objs.size + 4) (u := z1.heap.objs.size + 2) (v := z1.heap.objs.size + 3) (i1 := z1.heap.objs.size) (i2 := z1.heap.objs.size + 1) ?_, ⟨gz, gu, ⟨_, _, gv⟩, g1, g2⟩, fresh, q⟩
    exact sep_of _ a b la lb
end L2.TB
namespace L2.TB
open PySem PySem.Spec PyProof.Rows
/-- a new key comes last -/
theorem put_last {acc : List (Key × V)} {k : Key} {v : V} (h : k ∉ acc.map (·.1)) : putK acc k v = acc ++ [(k, v)] := by
  have nd : ∀ acc : List (Key × V), k ∉ acc.map (·.1) → putK acc k v = acc ++ [(k, v)] := by
    intro acc h
    have no : (acc.any fun e => decide (e.1 = k)) = false := by
      cases q : acc.any fun e => decide (e.1 = k) with
      | false => rfl
      | true =>
        obtain ⟨e, he, ee⟩ := List.any_eq_true.mp q
        exact absurd (of_decide_eq_true ee ▸ List.mem_map_of_mem (f := (·.1)) he) h
    unfold putK
    rw [no]
    rfl
  exact nd acc h
/-- what a dict comprehension asks of its turns -/
def DcW (J : It) (g : TG) (tt : TT) (tk tv : TE) (vs : List Nat) (σ : St) (H1 : Hp) (Q : Addr → Hp → Prop) : Prop := ∀ D, H1 D = none → ∃ W : Nat → Nat → Hp → Prop, (∃ m, W 0 m (upd H1 D (.dK []))) ∧ ∀ i m H, W i m H →
  (J.stop i H ∧ Q D H) ∨ (J.go i H ∧ ∃ Nx : Hp → Prop, (∀ H', Nx H' → ∃ m', m' < m ∧ W (i + 1) m' H') ∧ ∀ x H', J.yld i H x H' → g x (wipe σ vs) H' fun σ2 H2 => wipe σ2 vs = wipe σ vs ∧ tt σ2 H2 fun b H3 =>
    if b = true then tk σ2 H3 fun y H4 => tv σ2 H4 fun z H5 => ∃ kvs k, y = kV k ∧ H5 D = some (.dK kvs) ∧ kvs.length < sizeLine ∧ Nx (upd H5 D (.dK (putK kvs k z))) else Nx H3)
/-- unlike keys: kvs is what it makes -/
theorem dc_gen {J : It} {g : TG} {tt : TT} {tk tv : TE} {vs : List Nat} {σ : St} {H1 : Hp} {Q : Addr → Hp → Prop} (kvs : List (Key × V)) (short : kvs.length < 1000000) (unlike : (kvs.map (·.1)).Nodup) (go : ∀ i H, Same H1 H → i < kvs.length → J.go i H) (stop : ∀ H, Same H1 H → J.stop kvs.length H)
    (turn : ∀ (i : Nat) (x : V) (k : Key) (v : V) (H H' : Hp) (C : V → V → Hp → Prop) (N : Hp → Prop), kvs[i]? = some (k, v) → Same H1 H → J.yld i H x H' → (∀ H5, Same H H5 → C (kV k) v H5) →
      g x (wipe σ vs) H' fun σ2 H2 => wipe σ2 vs = wipe σ vs ∧ tt σ2 H2 fun b H3 => if b = true then tk σ2 H3 fun y H4 => tv σ2 H4 fun z H5 => C y z H5 else N H3)
    (fin : ∀ H D, H1 D = none → H D = some (.dK kvs) → Same H1 H → Q D H) : DcW J g tt tk tv vs σ H1 Q := by
  intro D nD
  refine ⟨fun i m H => m = kvs.length - i ∧ i ≤ kvs.length ∧ H D = some (.dK (kvs.take i)) ∧ Same H1 H, ⟨_, rfl, Nat.zero_le _, upd_same, same_new nD⟩, ?_⟩
  rintro i m H ⟨rfl, le, oD, s1⟩
  by_cases lt : i < kvs.length
  · refine .inr ⟨go i H s1 lt, fun H' => H' D = some (.dK (kvs.take (i + 1))) ∧ Same H1 H', fun H' h => ⟨kvs.length - (i + 1), by omega, rfl, lt, h⟩, fun x H' yl => ?_⟩
    obtain ⟨k, v⟩ : Key × V := kvs[i]
    have ey : kvs[i]? = some (kvs[i].1, kvs[i].2) := List.getElem?_eq_getElem lt
    have et : kvs.take (i + 1) = kvs.take i ++ [(kvs[i].1, kvs[i].2)] := by rw [List.take_succ, ey]; rfl
    refine turn i x _ _ H H' (fun y z H5 => ∃ acc k, y = kV k ∧ H5 D = some (.dK acc) ∧ acc.length < sizeLine ∧ (upd H5 D (.dK (putK acc k z))) D = some (.dK (kvs.take (i + 1))) ∧ Same H1 (upd H5 D (.dK (putK acc k z)))) _ ey s1 yl fun H5 s5 => ⟨_, _, rfl, s5 _ _ oD, ?_, ?_, ?_⟩
    · rw [sizeLine_eq, List.length_take]; omega
    · rw [upd_same, put_last, et]
      have sp : ((kvs.take (i + 1)).map (·.1)).Nodup := (unlike.sublist ((List.take_sublist _ _).map _))
      rw [et, List.map_append, List.nodup_append] at sp
      exact fun hin => sp.2.2 _ hin _ (by simp) rfl
    · intro b u e
      rw [upd_ne (ne_of_none e nD)]
      exact s5 _ _ (s1 _ _ e)
  · obtain rfl : i = kvs.length := by omega
    rw [List.take_length] at oD
    exact .inl ⟨stop H s1, fin H D nD oD s1⟩
/-! the table's rows as dicts -/
def spDictOf (C : Addr) : Sp := fun vs H Q _ => ∃ (a p : Addr) (ns : List Str) (tbl : List (List Int)) (us : List Int), vs = [.ref a, .ref p] ∧ TabAt H C a ns tbl ∧ ns.Nodup ∧ ns.length < 1000 ∧ H p = some (.tup (us.map V.int)) ∧ us.length = ns.length ∧ ∀ H' d, H d = none → H' d = some (.dK (dk ns us)) → Same H H' → Q (.ref d) H'
def spRowsM (C : Addr) : Sp := fun vs H Q _ => ∃ (a : Addr) (ns : List Str) (tbl : List (List Int)), vs = [.ref a] ∧ TabAt H C a ns tbl ∧ ns.Nodup ∧ ns.length < 1000 ∧ tbl.length < 1000 ∧
  ∀ H' q as, H q = none → H' q = some (.lst ((as : List Addr).map V.ref)) → DRows H' ns as tbl → (∀ t ∈ as, H t = none) → Same H H' → Q (.ref q) H'
abbrev NDo : List Str := ["self", "row", "name", "answer"]
theorem scDictOf : FnScope NDo ["self", "row"] (defScope sDictOf) := ⟨rfl, rfl, rfl, by decide +kernel, rfl, by decide +kernel, by decide +kernel⟩
abbrev NRm : List Str := ["self", "row"]
theorem scRowsM : FnScope NRm ["self"] (defScope sRowsM) := ⟨rfl, rfl, rfl, by decide +kernel, rfl, by decide +kernel, by decide +kernel⟩
section
variable {P : Program} {w : World} {K : PySem.W.Frag} {mg : Str → Option Value} {base : Heap} {f C fD : Addr} {fd fdD : FuncData}
theorem ok_dictOf (F : Fun K "_dict_of" "Table._dict_of" sDictOf f fd) (T : TabC K C) (gZ : mg "zip" = none) : FnOk P w K mg base CX0 1 f fd ["self", "row"] (spDictOf C) := by
  refine F.ok scDictOf (fun vs H Q E h => by obtain ⟨a, p, ns, tbl, us, e, _⟩ := h; rw [e]; rfl) fun cdv A outer s H vs Q E hr hsp => ?_
  obtain ⟨a, p, ns, tbl, us, rfl, tab, nnd, nsh, hp, lu, hq⟩ := hsp
  obtain ⟨dx, qa, ra, ha, hqa, hra⟩ := tab.ex
  have nd := scDictOf.nd
  refine ⟨_, pss_one (ps_ret (pe_dc (own := [("name", 2), ("answer", 3)]) (tt := tYes) (g := gTup K 2 (gCons (gName 2) (gCons (gName 3) gNil))) (tk := tVar 2) (tv := tVar 3) rfl nd (pi_zipM rfl gZ (pa_cons (pe_fld (pv 0) rfl) (pa_cons (pv 1) pa_nil))) (blkOk_by (N := NDo) (sc := defScope sDictOf) (by decide +kernel))
    (fun _ _ _ _ _ => pg_tup rfl (pgs_cons (pg_name (i := 2) nd rfl (Or.inl rfl)) (pgs_cons (pg_name (i := 3) nd rfl (Or.inl rfl)) pgs_nil))) (fun _ _ _ _ _ => pts_nil) (fun _ _ _ _ _ => pv 2) (fun _ _ _ _ _ => pv 3))), ?_⟩
  have ldk : (dk ns us).length = ns.length := by
    unfold dk
    rw [List.length_map, List.length_zip]; omega
  refine ⟨_, rfl, a, C, dx, _, _, rfl, ha, T.cl, T.nQ, rfl, _, rfl, qa, p, ns.map V.str, us.map V.int, rfl, SqL.of hqa, SqT.of hp, ?_⟩
  refine dc_gen (Q := fun D H' => Q (.ref D) H') (dk ns us) (by omega) (dk_nd lu.symm nnd) (fun i H' k lt => ?_) (fun H' k => ⟨_, _, SqL.of (k _ _ hqa), SqT.of (k _ _ hp), by rw [List.length_map, ldk], by rw [List.length_map, ldk, lu]⟩) ?_ fun H' D nD oD k => hq H' D nD oD k
  · rw [ldk] at lt
    exact ⟨_, _, _, _, SqL.of (k _ _ hqa), SqT.of (k _ _ hp), List.getElem?_eq_getElem (by rw [List.length_map]; exact lt), List.getElem?_eq_getElem (by rw [List.length_map]; omega)⟩
  · rintro i x k v H2 H3 Cn Nn ekv s2 ⟨t, x1, x2, rfl, nt, rfl, g1, g2⟩ yes
    have e1 := g1 _ (SqL.of (s2 _ _ hqa))
    have e2 := g2 _ (SqT.of (s2 _ _ hp))
    obtain ⟨y, n, rfl, rfl, ey, _⟩ := dk_at ekv nnd lu.symm
    rw [List.getElem?_map, ey] at e1
    obtain rfl : V.str y = x1 := Option.some.inj e1
    have ex : x2 = V.int n := by
      unfold dk at ekv
      rw [List.getElem?_map] at ekv
      obtain ⟨z, ez, e⟩ := Option.map_eq_some_iff.mp ekv
      have ez : (ns.zip us)[i]? = some z := ez
      rw [List.getElem?_zip_eq_some] at ez
      have en : z.2 = n := V.int.inj (congrArg Prod.snd e)
      rw [List.getElem?_map, ez.2, Option.map_some, en] at e2
      exact (Option.some.inj e2).symm
    subst ex
    have st := same_new (o := .tup [V.str y, V.int n]) nt
    refine ⟨t, _, rfl, SqT.of upd_same, rfl, _, _, rfl, _, _, rfl, rfl, rfl, ?_⟩
    exact ⟨_, rfl, _, rfl, yes _ st⟩
theorem ok_rowsM (F : Fun K "rows" "Table.rows" sRowsM f fd) (T : TabC K C) (FD : Fun K "_dict_of" "Table._dict_of" sDictOf fD fdD) (mD : Meth K C "_dict_of" fD) (gZ : mg "zip" = none) : FnOk P w K mg base CX0 2 f fd ["self"] (spRowsM C) := by
  have GD : FnOk P w K mg base CX0 1 fD fdD ["self", "row"] (spDictOf C) := ok_dictOf FD T gZ
  have bD := FD.binds (ps := ["self", "row"]) fun _ _ _ _ _ _ us hl => match us, hl with | [_, _], _ => rfl
  refine F.ok scRowsM (fun vs H Q E h => by obtain ⟨a, ns, tbl, e, _⟩ := h; rw [e]; rfl) fun cdv A outer s H vs Q E hr hsp => ?_
  obtain ⟨a, ns, tbl, rfl, tab, nnd, nsh, tsh, hq⟩ := hsp
  obtain ⟨dx, qa, ra, ha, hqa, hra⟩ := id tab.ex
  obtain ⟨ps, hps, prs⟩ := hra
  have nd := scRowsM.nd
  have lp : ps.length = tbl.length := Paired.length prs
  refine ⟨_, pss_one (ps_ret (pe_lc (own := [("row", 1)]) (tt := tYes) rfl nd (pi_list (pe_fld (pv 0) rfl)) (blkOk_by (N := NRm) (sc := defScope sRowsM) (by decide +kernel)) (fun _ _ _ _ _ => pg_name (i := 1) nd rfl (Or.inl rfl)) (fun _ _ _ _ _ => pts_nil)
    (fun _ _ _ _ _ => pe_meth (pv 0) T.cl mD GD hr bD .nil pass0 (pa_cons (pv 1) pa_nil)))), ?_⟩
  refine ⟨_, rfl, a, C, dx, _, _, rfl, ha, T.cl, T.nR, rfl, ra, rfl, ⟨_, SqL.of hps⟩, ?_⟩
  refine lc_made (Q := fun D H' => Q (.ref D) H') tbl.length (by omega) (fun i H' k lt => ⟨_, _, SqL.of (k _ _ hps), List.getElem?_eq_getElem (by rw [List.length_map]; omega)⟩) (fun H' k => ⟨_, SqL.of (k _ _ hps), by rw [List.length_map]; omega⟩)
    (fun i y H' => ∃ t us, y = V.ref t ∧ tbl[i]? = some us ∧ H' t = some (.dK (dk ns us)) ∧ us.length = ns.length ∧ H t = none) ?_ ?_ ?_
  · rintro i y H2 H3 D l ⟨t, us, rfl, eu, ot, lu, nt⟩ oD keep
    exact ⟨t, us, rfl, eu, keep _ _ (ne_of ot oD (by intro z; cases z)) ot, lu, nt⟩
  · rintro i x H2 H3 Cn Nn lt s2 ⟨rfl, ex⟩ yes
    have ex := ex _ (SqL.of (s2 _ _ hps))
    rw [List.getElem?_map] at ex
    obtain ⟨p, ep, rfl⟩ := Option.map_eq_some_iff.mp ex
    obtain ⟨us, eu, op, lu⟩ := paired_get prs ep
    refine ⟨rfl, ?_⟩
    exact ⟨_, rfl, a, dx, _, rfl, s2 _ _ ha, rfl, _, rfl, a, p, ns, tbl, us, rfl, tab.same s2, nnd, nsh, s2 _ _ op, lu, fun H4 d nd od s4 => yes _ _ ⟨d, us, rfl, eu, od, lu, s2.free nd⟩ s4⟩
  · intro H2 D ys nD oD ly ry s2
    obtain ⟨as, rfl, pa⟩ := addrs_of (H := H2) (P := fun i t => (∃ us, tbl[i]? = some us ∧ H2 t = some (.dK (dk ns us)) ∧ us.length = ns.length) ∧ H t = none) ys 0 fun j y e => by
      obtain ⟨t, us, e1, e2, e3, e4, e5⟩ := ry j y e
      exact ⟨t, e1, ⟨us, by simpa using e2, e3, e4⟩, e5⟩
    refine hq H2 D as nD oD (paired_of as tbl (by rw [← ly, List.length_map]) fun i t us et eu => ?_) (fun t ht => ?_) s2
    rotate_left
    · obtain ⟨i, hi, e⟩ := List.getElem_of_mem ht
      exact (pa i t (by rw [List.getElem?_eq_getElem hi, e])).2
    obtain ⟨⟨us', e2, e3, e4⟩, _⟩ := pa i t et
    rw [Nat.zero_add, eu] at e2
    cases e2
    exact ⟨e3, e4⟩
end
end L2.TB
namespace L2.TB
open PySem PySem.Spec PyProof.Rows
/-! != of two lists of dicts, alike one by one -/
section
open SeqAt MeetsSeq MeetsSeq2 MeetsSeq3 SeqRoads2
open AutoSeq1 (wpAny_loadPart')
variable {prog : Program} {w : World} {A : Around} {R : Result → Shared → Prop}
theorem ne_turns (l b : Addr) (xs ys : Array Value) (n n2 : Nat) {s : Shared} (gl : s.heap.get? l = some { cls := .type "list", data := .seq xs n }) (gb : s.heap.get? b = some { cls := .type "list", data := .seq ys n2 })
    (sz : xs.size = ys.size) (same : ∀ j (h1 : j < xs.size) (h2 : j < ys.size), EqIn prog w A.in1 s xs[j] ys[j] true) (fin : R (.ok (.ret (.bool false))) s) (k : Nat) :
    ∀ i : Nat, xs.size - i = k → wpAny (model prog w) A.in1 (Builtin.«list.__eq__.loop» ⟨[.ref l, .ref b, rawInt i, rawInt 3], []⟩) (GQ.FinOf prog w A R) (fun e s' => R (.error e) s') s := by
  obtain ⟨h0, gs, ds, tk, os⟩ := s
  induction k with
  | zero =>
    intro i out
    wp_walk using wpAny_loadPart' gl, wpAny_loadPart' gb
    have n1 : xs[((i : Nat) : Int).toNat]? = none := by simp; omega
    have n2' : ys[((i : Nat) : Int).toNat]? = none := by simp; omega
    rw [n1, n2']
    wp_walk using wpAny_loadPart' gl, wpAny_loadPart' gb
    show R (.ok (.ret (.bool (xs.size != ys.size)))) _
    rw [sz, bne_self_eq_false]
    exact fin
  | succ k more =>
    intro i left
    have t1 : i < xs.size := by omega
    have t2 : i < ys.size := by omega
    wp_walk using wpAny_loadPart' gl, wpAny_loadPart' gb
    have e1 : xs[((i : Nat) : Int).toNat]? = some xs[i] := by simp [t1]
    have e2 : ys[((i : Nat) : Int).toNat]? = some ys[i] := by simp [t2]
    have up : ((i : Int) + 1) = ((i + 1 : Nat) : Int) := by omega
    rw [e1, e2]
    refine wpAny_bind (same i t1 t2 _ _ ?_)
    wp_walk
    rw [up]
    have next := more (i + 1) (by omega)
    exact ⟨plainId_quiet plain_eq_loop _, codeAny_builtin entry_eq_loop (by rw [Around.under_plainId plain_eq_loop _]; exact next)⟩
theorem ne_lists (l b : Addr) (xs ys : Array Value) (n n2 : Nat) {s : Shared} (gl : s.heap.get? l = some { cls := .type "list", data := .seq xs n }) (gb : s.heap.get? b = some { cls := .type "list", data := .seq ys n2 })
    (sz : xs.size = ys.size) (same : ∀ j (h1 : j < xs.size) (h2 : j < ys.size), EqIn prog w A.in1 s xs[j] ys[j] true) (fin : R (.ok (.ret (.bool false))) s) :
    wpAny (model prog w) A.in1 (Builtin.«list.__ne__» ⟨[.ref l, .ref b], []⟩) (GQ.FinOf prog w A R) (fun e s' => R (.error e) s') s := by
  have first := ne_turns l b xs ys n n2 gl gb sz same fin _ 0 rfl
  obtain ⟨h0, gs, ds, tk, os⟩ := s
  have sub := AutoSeq1.sub_list_list
  have no : ¬ (xs.size != ys.size) = true := by simp [sz]
  wp_walk using wpAny_loadPart' gl, wpAny_loadPart' gb
  exact ⟨plainId_quiet plain_eq_loop _, codeAny_builtin entry_eq_loop (by rw [Around.under_plainId plain_eq_loop _]; exact first)⟩
end
def rNeLD : R2 := fun x y H Q => ∃ (a b : Addr) (as bs : List Addr), x = .ref a ∧ y = .ref b ∧ H a = some (.lst (as.map V.ref)) ∧ H b = some (.lst (bs.map V.ref)) ∧ as.length = bs.length ∧
  (∀ (i : Nat) (c d : Addr), as[i]? = some c → bs[i]? = some d → ∃ kvs : List (Key × V), H c = some (.dK kvs) ∧ H d = some (.dK kvs) ∧ (kvs.map (·.1)).Nodup ∧ ∀ p ∈ kvs, flatB p.2 = true) ∧ Q (.bl false) H
theorem op_neLD {X : Cx} (hu : X.A.units + 64 < cLine) : OpR X (compareOp .NotEq) rNeLD := by
  intro pins s σ H x y v u Q I rx ry h
  obtain ⟨a, b, as, bs, rfl, rfl, ha, hb, len, same, q⟩ := h
  obtain rfl : v = Value.ref a := rx
  obtain rfl : u = Value.ref b := ry
  obtain ⟨z1, xs, n1, r1, g1⟩ := I.hok a _ ha
  obtain ⟨z2, ys, n2, r2, g2⟩ := I.hok b _ hb
  have lx : xs.length = as.length := by rw [← r1.length, List.length_map]
  have ly : ys.length = bs.length := by rw [← r2.length, List.length_map]
  show wpAny _ _ (richCompare .NotEq (.ref a) (.ref b)) _ _ _
  refine wpAny_richCompare_same_room (op := .NotEq) ⟨_, g1, rfl⟩ ⟨_, g2, rfl⟩ F.slot_list_ne (GQ.call_here F.slot_list_ne ⟨_, g1, rfl⟩ F.entry_list_ne (F.args_list_ne_2 _ _) ?_) (by omega)
  refine ne_lists a b xs.toArray ys.toArray n1 n2 g1 g2 (by rw [List.size_toArray, List.size_toArray, lx, ly, len]) (fun j h1 h2 => ?_) ⟨(fun e => nomatch e), .bl false, H, I, rfl, q⟩
  have j1 : j < as.length := by rw [← lx]; simpa using h1
  have j2 : j < bs.length := by rw [← ly]; simpa using h2
  obtain ⟨kvs, oc, od, nk, flat⟩ := same j as[j] bs[j] (List.getElem?_eq_getElem j1) (List.getElem?_eq_getElem j2)
  obtain ⟨u1, e1, rel1⟩ := r1.get (show (as.map V.ref)[j]? = some (V.ref as[j]) by rw [List.getElem?_map, List.getElem?_eq_getElem j1]; rfl)
  obtain ⟨u2, e2, rel2⟩ := r2.get (show (bs.map V.ref)[j]? = some (V.ref bs[j]) by rw [List.getElem?_map, List.getElem?_eq_getElem j2]; rfl)
  obtain rfl : u1 = Value.ref as[j] := rel1
  obtain rfl : u2 = Value.ref bs[j] := rel2
  have f1 : xs.toArray[j] = Value.ref as[j] := by
    have z : xs[j]? = some xs.toArray[j] := by
      have h1' : j < xs.length := by simpa using h1
      rw [List.getElem?_eq_getElem h1'] <;> simp
    rw [z] at e1
    exact Option.some.inj e1
  have f2 : ys.toArray[j] = Value.ref bs[j] := by
    have z : ys[j]? = some ys.toArray[j] := by
      have h2' : j < ys.length := by simpa using h2
      rw [List.getElem?_eq_getElem h2'] <;> simp
    rw [z] at e2
    exact Option.some.inj e2
  rw [f1, f2]
  by_cases eq : as[j] = bs[j]
  · rw [← eq]
    exact SeqAt.EqAt.inModel (SeqAt.EqAt.same _) _ _
  · refine SeqAt.EqIn.of_refs eq fun E Q' fin => ?_
    obtain ⟨_, y1, v1, kv1, d1⟩ := (show ObjOk X.prog X.w H s.heap as[j] (.dK kvs) from I.hok _ _ oc)
    obtain ⟨_, y2, v2, kv2, d2⟩ := (show ObjOk X.prog X.w H s.heap bs[j] (.dK kvs) from I.hok _ _ od)
    have lv : v1.length = v2.length := by rw [← kv1.length, ← kv2.length]
    exact PySem.W.keq_eq (knd := mixKind X.prog X.w) (r := true) y1 y2 d1 d2 (show X.A.in1.units < cLine from by show X.A.units + _ < cLine; omega) (fun _ => hits_all kv2 kv1 fun p hp => ⟨(let ⟨_, e⟩ := List.mem_iff_getElem?.mp hp; valV_at nk e), flat p hp⟩) (by simpa [lv] using fin)
end L2.TB
/-! the law -/
namespace L2.TB
open PySem PySem.Spec PyProof.Rows LamX
theorem flat_dk (ns : List Str) (us : List Int) : ∀ p ∈ dk ns us, flatB p.2 = true := by
  intro p hp
  unfold dk at hp
  obtain ⟨q, _, rfl⟩ := List.mem_map.mp hp
  rfl
/-- two lists of rows alike -/
theorem rows_alike {H : Hp} {ns : List Str} {as bs : List Addr} {tbl : List (List Int)} (nd : ns.Nodup) (d1 : DRows H ns as tbl) (d2 : DRows H ns bs tbl) : as.length = bs.length ∧ ∀ (i : Nat) (c d : Addr), as[i]? = some c → bs[i]? = some d → ∃ kvs : List (Key × V), H c = some (.dK kvs) ∧ H d = some (.dK kvs) ∧ (kvs.map (·.1)).Nodup ∧ ∀ p ∈ kvs, flatB p.2 = true := by
  refine ⟨(Paired.length d1).trans (Paired.length d2).symm, fun i c d ec ed => ?_⟩
  obtain ⟨u, eu, oc, lu⟩ := paired_get d1 ec
  obtain ⟨v, ev, od, _⟩ := paired_get d2 ed
  rw [eu] at ev
  cases ev
  exact ⟨_, oc, od, dk_nd lu.symm nd, flat_dk _ _⟩
theorem tabs_but {T : List (Addr × Str)} {H H' : Hp} {l ls : Addr} {N : Int} (h : Tabs T H) (S : Strm H l ls N) (B : But l ls H H') : Tabs T H' := fun p hp => by
  obtain ⟨cs, g, k, m, S⟩ := S
  obtain ⟨pa, h1, h2, h3⟩ := h p hp
  refine ⟨pa, B _ _ (fun z => by rw [z, S.o] at h1; cases h1) (fun z => by rw [z, S.c] at h1; cases h1) h1, h2, fun pos cv hc => ?_⟩
  obtain ⟨c, e1, e2⟩ := h3 pos cv hc
  exact ⟨c, e1, B _ _ (fun z => by rw [z, S.o] at e2; unfold CodeO at e2; cases e2) (fun z => by rw [z, S.c] at e2; unfold CodeO at e2; cases e2) e2⟩
theorem Strm.ext {H H' : Hp} {l ls : Addr} {N : Int} (s : Strm H l ls N) (e : ExtN H H') : Strm H' l ls N := by
  obtain ⟨cs, g, k, m, S⟩ := s
  exact ⟨cs, g, k, m, e _ _ S.o (fun _ z => by cases z), e _ _ S.c (fun _ z => by cases z), S.ne, S.g0, S.k0, S.k1, S.m0, S.m1, S.sz⟩
/-- what the law reads -/
structure LawR (P : Program) (w : World) (K : PySem.W.Frag) (mg : Str → Option Value) (base : Heap) (C fIn fQ fI fPl fPr : Addr) (T : List (Addr × Str)) : Prop where
  tm : TabM K C fQ fI fPl fPr
  start : ∃ f fd, mg "_law_start" = some (.ref f) ∧ Fun K "_law_start" "_law_start" sStart f fd
  rows : ∃ f fd, mg "_law_t_rows" = some (.ref f) ∧ Fun K "_law_t_rows" "_law_t_rows" sRows f fd ∧ FnOk P w K mg base CX0 4 f fd ["stream", "many", "rows", "values"] spRows
  eng : ∃ f fd, mg "_law_engine_refused" = some (.ref f) ∧ Fun K "_law_engine_refused" "_law_engine_refused" sEng f fd ∧ FnOk P w K mg base CX0 9 f fd ["table", "names"] (spEng C T)
  han : ∃ f fd, mg "_law_hands_refused" = some (.ref f) ∧ Fun K "_law_hands_refused" "_law_hands_refused" sHan f fd ∧ FnOk P w K mg base CX0 9 f fd ["table", "names"] (spEng C T)
  gro : ∃ f fd, mg "_law_groups_refused" = some (.ref f) ∧ Fun K "_law_groups_refused" "_law_groups_refused" sGro f fd ∧ FnOk P w K mg base CX0 9 f fd ["table", "names"] (spEng C T)
  rowsM : ∃ f fd, Meth K C "rows" f ∧ Fun K "rows" "Table.rows" sRowsM f fd ∧ FnOk P w K mg base CX0 2 f fd ["self"] (spRowsM C)
  made : Mk K C fIn
  init : ∃ fd, Fun K "__init__" "Table.__init__" sInit fIn fd ∧ FnOk P w K mg base CX0 3 fIn fd ["self", "rows"] (spInit C)
  gC : mg "Table" = some (.ref C)
  nR : mg "range" = none
  nL : mg "list" = none
abbrev NLw : List Str := ["script", "stream", "turn", "rows", "table", "names"]
theorem scLaw : FnScope NLw ["script"] (defScope sLaw) := ⟨rfl, rfl, rfl, by decide +kernel, rfl, by decide +kernel, by decide +kernel⟩
def spLawT (K : PySem.W.Frag) (T : List (Addr × Str)) : Sp := fun vs H Q _ => ∃ (a : Addr) (ns : List Int), vs = [.ref a] ∧ SqL K H a (ns.map V.int) ∧ ns.length ≤ 63 ∧ Tabs T H ∧ ∀ H', Q (.bl true) H'
section
variable {P : Program} {w : World} {K : PySem.W.Frag} {mg : Str → Option Value} {base : Heap} {f C fIn fQ fI fPl fPr : Addr} {fd : FuncData} {T : List (Addr × Str)}
theorem ok_law (F : Fun K "law" "law" sLaw f fd) (L : LawR P w K mg base C fIn fQ fI fPl fPr T) : FnOk P w K mg base CX0 11 f fd ["script"] (spLawT K T) := by
  obtain ⟨fS, fdS, gS, FS⟩ := L.start
  have GS : FnOk P w K mg base CX0 1 fS fdS ["script"] (spStart K) := ok_start FS L.nL
  have bS := FS.binds (ps := ["script"]) fun _ _ _ _ _ _ us hl => match us, hl with | [_], _ => rfl
  obtain ⟨fR, fdR, gR, FR, GR⟩ := L.rows
  obtain ⟨fdI, FI, GI⟩ := L.init
  have bR := FR.binds (ps := ["stream", "many", "rows", "values"]) fun _ _ _ _ _ _ us hl => match us, hl with | [_, _, _, _], _ => rfl
  have bI := FI.binds (ps := ["self", "rows"]) fun _ _ _ _ _ _ us hl => match us, hl with | [_, _], _ => rfl
  obtain ⟨f1, fd1, g1, F1, G1⟩ := L.eng
  have b1 := F1.binds (ps := ["table", "names"]) fun _ _ _ _ _ _ us hl => match us, hl with | [_, _], _ => rfl
  obtain ⟨f2, fd2, g2, F2, G2⟩ := L.han
  have b2 := F2.binds (ps := ["table", "names"]) fun _ _ _ _ _ _ us hl => match us, hl with | [_, _], _ => rfl
  obtain ⟨f3, fd3, g3, F3, G3⟩ := L.gro
  have b3 := F3.binds (ps := ["table", "names"]) fun _ _ _ _ _ _ us hl => match us, hl with | [_, _], _ => rfl
  obtain ⟨fM, fdM, mM, FM, GM⟩ := L.rowsM
  have bM := FM.binds (ps := ["self"]) fun _ _ _ _ _ _ us hl => match us, hl with | [_], _ => rfl
  refine F.ok scLaw (fun vs H Q E h => by obtain ⟨a, ns, e, _⟩ := h; rw [e]; rfl) fun cdv A outer s H vs Q E hr hsp => ?_
  obtain ⟨a, cs, rfl, hS, hn, hT, hq⟩ := hsp
  have nd := scLaw.nd
  have hu64 := hr.units
  refine ⟨_, pss_cons (ps_set (i := 1) nd rfl (Or.inl rfl) (pe_call GS (hr.mono (by decide)) rfl gS FS.kp bS .nil pass0 (pa_cons (pv 0) pa_nil)))
    (pss_cons (ps_for PassesOwn.never rfl (pi_range1 rfl L.nR (pa_cons pe_int pa_nil)) (pg_name (i := 2) nd rfl (Or.inl rfl))
      (pss_cons (ps_set (i := 3) nd rfl (Or.inl rfl) (pe_call GR (hr.mono (by decide)) rfl gR FR.kp bR .nil pass0 (pa_cons (pv 1) (pa_cons pe_int (pa_cons pe_int (pa_cons pe_int pa_nil))))))
      (pss_cons (ps_par (i := 4) (j := 5) rfl nd rfl rfl (by decide) rfl rfl (pa_cons (pe_make L.made GI (hr.mono (by decide)) rfl L.gC bI .nil pass0 (pa_cons (pv 3) pa_nil)) (pa_cons (pe_callTy (call_listD rfl) rfl L.nL boot_list' (pa_cons (pe_ix ix_list (pv 3) pe_int (fun _ _ => rfl)) pa_nil)) pa_nil)) (by rfl))
      (pss_cons (ps_if (PW.pt (pw_or (pt_not (pt_val (pe_call G1 (hr.mono (by decide)) rfl g1 F1.kp b1 .nil pass0 (pa_cons (pv 4) (pa_cons (pv 5) pa_nil))))) (pw_or1 (pt_not (pt_val (pe_call G2 (hr.mono (by decide)) rfl g2 F2.kp b2 .nil pass0 (pa_cons (pv 4) (pa_cons (pv 5) pa_nil)))))))) (pss_one ps_never) pss_nil)
      (pss_one (ps_if (PW.pt (pw_or (pt_not (pt_val (pe_call G3 (hr.mono (by decide)) rfl g3 F3.kp b3 .nil pass0 (pa_cons (pv 4) (pa_cons (pv 5) pa_nil))))) (pw_or1 (pt_cmpR (op_neLD hu64) (pe_meth0 (pv 4) L.tm.cl mM GM (hr.mono (by decide)) bM .nil pass0) (pv 3) (nomark _))))) (pss_one ps_never) pss_nil))))))
    (pss_one (ps_ret pe_bl))), ?_⟩
  refine ⟨_, rfl, a, cs, rfl, hS, by omega, fun H1 l ls nl k1 S1 nls => ?_⟩
  refine ⟨3, rfl, by decide, by decide, for_range (n := 3) (fun i σ H' => Strm H' l ls (3000 * (i : Int)) ∧ Tabs T H' ∧ ∃ s2 s3 s4 s5, σ = [some (.ref a), some (.ref l), s2, s3, s4, s5])
    ⟨by simpa using S1, hT.ext k1, _, _, _, _, rfl⟩ ?_ ?_⟩
  · rintro i σ H2 hi ⟨S2, T2, s2, s3, s4, s5, rfl⟩
    refine ⟨_, rfl, l, ls, 4, 5, 3, 3000 * (i : Int), rfl, S2, by omega, by decide, by decide, by decide, by decide, by decide, by decide, fun H3 rr as ns tbl lns nn nnd nok ltbl tn nrr rl rls orr R S3 B3 => ?_⟩
    have T3 := tabs_but T2 S2 B3
    have D1 : DRows H3 ns as tbl := Paired.mapP R fun a vs h => ⟨h.1, h.2.1⟩
    refine ⟨_, rfl, fun x dx nx ndx nex => ?_⟩
    have k1 : Same H3 (upd (upd H3 dx (.own x)) x (.ins C dx [])) := fun b o e => by rw [upd_ne (ne_of_none e nx), upd_ne (ne_of_none e ndx)]; exact e
    refine ⟨x, dx, rr, as, ns, tbl, rfl, upd_same, k1 _ _ orr, D1.same k1, tn, by omega, nn, nnd, nok, by omega, fun H4 tab fr => ⟨rfl, ?_⟩⟩
    have k2 : Same H3 H4 := fun b o e => fr b o (ne_of_none e nx) (k1 _ _ e)
    have pos : 0 < tbl.length := List.length_pos_iff.mpr tn
    have las : as.length = tbl.length := Paired.length D1
    obtain ⟨a0, ea0⟩ : ∃ a0, as[0]? = some a0 := ⟨as[0]'(by omega), List.getElem?_eq_getElem _⟩
    obtain ⟨vs0, ev0, oa0, lv0⟩ := paired_get (D1.same k2) ea0
    have at0' : atI (as.map V.ref) ((0 : Nat) : Int) = some (.ref a0) := atI_nat (by rw [List.getElem?_map, ea0]; rfl)
    have ekeys : ((dk ns vs0).map fun kv => kV kv.1) = ns.map V.str := by
      have z := congrArg (List.map kV) (dk_keys lv0.symm)
      rw [List.map_map, List.map_map] at z
      exact z
    refine ⟨_, rfl, _, _, _, _, rfl, rfl, SqL.of (k2 _ _ orr), at0', a0, _, rfl, .inl oa0, fun n nn1 => ?_⟩
    rw [ekeys]
    have k3 := same_new (o := .lst (ns.map V.str)) nn1
    have on4 := upd_same (H := H4) (a := n) (o := .lst (ns.map V.str))
    generalize upd H4 n (.lst (ns.map V.str)) = H5 at k3 on4
    refine ⟨_, _, rfl, ?_⟩
    have k35 := k2.trans k3
    have I5 : TbNm H5 C x n ns tbl := ⟨tab.same k3, on4, nn, nnd, by omega, nok⟩
    refine ⟨_, rfl, _, rfl, x, n, ns, tbl, rfl, I5, T3.ext k35, fun H6 e6 T6 => ⟨_, rfl, iteF ?_⟩⟩
    refine ⟨_, rfl, _, rfl, x, n, ns, tbl, rfl, I5.ext e6, T6, fun H7 e7 T7 => ⟨_, rfl, iteF ?_⟩⟩
    have e57 := e6.trans e7
    refine ⟨_, rfl, _, rfl, x, n, ns, tbl, rfl, I5.ext e57, T7, fun H8 e8 T8 => ⟨_, rfl, iteF ?_⟩⟩
    have e58 := e57.trans e8
    have I8 := I5.ext e58
    have e38 := (ExtN.of k35).trans e58
    obtain ⟨dxx, _, _, hx, _⟩ := id I8.t.ex
    refine ⟨_, rfl, x, dxx, _, rfl, hx, rfl, x, ns, tbl, rfl, I8.t, nnd, by omega, by omega, fun H9 q cs' nq oq rows _ k9 => ?_⟩
    have e39 := e38.trans (ExtN.of k9)
    have D9 : DRows H9 ns as tbl := Paired.mapP D1 fun a vs h => ⟨e39 _ _ h.1 (fun _ z => by cases z), h.2⟩
    obtain ⟨len, alike⟩ := rows_alike nnd rows D9
    exact ⟨_, rfl, q, rr, cs', as, rfl, rfl, oq, e39 _ _ orr (fun _ z => by cases z), len, alike, _, rfl, iteF ⟨(S3.ext e39).mono (by omega), T8.ext k9, _, _, _, _, rfl⟩⟩
  · rintro σ H2 ⟨S2, T2, s2, s3, s4, s5, rfl⟩
    exact hq H2
end
end L2.TB
namespace L2.TB
open PySem PySem.Spec PyProof.Rows
open LamX MK
section
variable {K : PySem.W.Frag} {h : Heap} {mg : Str → Option Value}
theorem fun_ofD {x q : Str} {st : Stmt} {f : Addr} {fd : FuncData} (F : FunD K x q (defArgs st) (defBody st) (defScope st) [] [] f fd) : Fun K x q st f fd := by
  obtain ⟨⟨oc, od, dV, kV, doc, pm, an, cdv, ct, osl, e, lk, hc, hd, hk⟩, kp⟩ := F
  obtain rfl : dV = .none := hd.elim (fun z => z.2) fun z => absurd rfl z.1
  exact ⟨⟨oc, od, kV, doc, pm, an, cdv, ct, osl, e, lk, hc⟩, kp⟩
theorem def_at (c : He.SaysD faT fnT K) (X : K.In h) (G : h.Ns mainGlobals mg) (i k : Nat) {x : Str} {st : Stmt} (ei : faT[i]? = some (.glo x)) (ek : fnT[k]? = some (dd (x, none) x x st [])) :
    mg x = some (.ref (He.ga K x)) ∧ ∃ fd, Fun K x x st (He.ga K x) fd := by
  obtain ⟨fd, F⟩ := c.def_ k ek
  exact ⟨He.glo_ok X G (c.fact i ei), fd, fun_ofD F⟩
theorem defF_at (c : He.SaysD faT fnT K) (X : K.In h) (G : h.Ns mainGlobals mg) (i k : Nat) {x : Str} {st : Stmt} (ei : faT[i]? = some (.glo x)) (ek : fnT[k]? = some (dd (x, none) x x st [.non])) :
    mg x = some (.ref (He.ga K x)) ∧ ∃ fd, FunF K x st (He.ga K x) fd := by
  obtain ⟨fd, F⟩ := c.def_ k ek
  exact ⟨He.glo_ok X G (c.fact i ei), fd, F⟩
theorem meth_at (c : He.SaysD faT fnT K) (i k : Nat) {m q : Str} {st : Stmt} (ei : faT[i]? = some (.meth "Table" m)) (ek : fnT[k]? = some (dd ("Table", some m) m q st [])) :
    Meth K (He.ga K "Table") m (He.ma K (He.ga K "Table") m) ∧ ∃ fd, Fun K m q st (He.ma K (He.ga K "Table") m) fd := by
  obtain ⟨fd, F⟩ := c.def_ k ek
  exact ⟨He.meth_ok (c.fact i ei), fd, fun_ofD F⟩
theorem code_of {x : Str} {st : Stmt} {fd : FuncData} (F : Fun K x x st (He.ga K x) fd) : fd.code = .ref (He.cT K (x, none)).1 := by
  obtain ⟨⟨oc, od, kV, doc, pm, an, cdv, ct, osl, e, lk, hc⟩, kp⟩ := F
  obtain ⟨c, e2⟩ := He.codeIn_ref hc
  have e3 : fd.code = .ref c := by rw [e]; exact e2
  have lk2 : K.lookup (He.fAd K (x, none)) = some ⟨oc, od, .func fd, osl⟩ := lk
  rw [e3]
  exact congrArg Value.ref (He.codeOf_eq lk2 e3).symm
/-- an error's class -/
theorem err_at {P : Program} {w : World} {base : Heap} (c : SaysK h K) (X : K.In h) (G : h.Ns mainGlobals mg) (i k : Nat) {x fld q : Str} {st : Stmt} {p0 p1 p2 p3 : Pos} (ei : faT[i]? = some (.glo x)) (ek : fnT[k]? = some (dd (x, some "__init__") "__init__" q st [])) (he : (x, fld) ∈ erT)
    (S : FnScope ["self", fld] ["self", fld] (defScope st)) (hb : defBody st = [.Assign [.Attribute (.Name "self" p0) fld p1] (.Name fld p2) p3]) (hv0 : Vis (defScope st) "self") (hv1 : Vis (defScope st) fld) (hdy : (fld == ("__debug__" : Str)) = false) (hcy : (fld == ("__classdict__" : Str)) = false)
    (bd : ∀ (kV doc pm : Value) (an : Option Addr) (cdv ct : Value) (us : List Value), us.length = 2 → bindArgs (PySem.W.fnOf "__init__" q (defArgs st) (defBody st) (defScope st) .none kV doc pm an cdv ct) ⟨us, []⟩ = pure ((["self", fld] : List Str).zip us)) : ErrF P w K mg base x (He.ga K x) fld := by
  obtain ⟨fd, F⟩ := c.d.def_ k ek
  have F' : Fun K "__init__" q st (He.ma K (He.ga K x) "__init__") fd := fun_ofD F
  exact ⟨He.glo_ok X G (c.d.fact i ei), _, fd, fld, errB_ok (c.er _ he), ok_errInit F' S hb hv0 hv1 hdy hcy, F'.binds bd⟩
theorem binds3 {x : Str} {st : Stmt} {f : Addr} {fd : FuncData} (F : FunF K x st f fd) (h : ∀ (T : Addr) (kV doc pm : Value) (an : Option Addr) (cdv ct : Value) (us its : List Value), us.length = 3 → its.length = [V.non].length → ∃ k, bindArgs (PySem.W.fnOf x x (defArgs st) (defBody st) (defScope st) (.ref T) kV doc pm an cdv ct) ⟨us, []⟩ = seqItems? (.ref T) >>= k ∧ k (some its.toArray) = pure ((["field", "asked", "of"] : List Str).zip (us ++ its.drop 1))) :
    Binds K fd ["field", "asked", "of"] [] := by
  obtain ⟨ds, r, b⟩ := F.binds1 (ps := ["field", "asked", "of"]) 3 1 (by simp) rfl h
  cases r
  exact b
abbrev pEn (K : PySem.W.Frag) : Addr := (He.cT K ("_law_engine_refused", none)).2
abbrev pHa (K : PySem.W.Frag) : Addr := (He.cT K ("_law_hands_refused", none)).2
abbrev pGr (K : PySem.W.Frag) : Addr := (He.cT K ("_law_groups_refused", none)).2
def tbL (K : PySem.W.Frag) : List (Addr × Str) := [(pEn K, ("_law_engine_refused" : Str) ++ ".<locals>." ++ "<lambda>"), (pHa K, ("_law_hands_refused" : Str) ++ ".<locals>." ++ "<lambda>"), (pGr K, ("_law_groups_refused" : Str) ++ ".<locals>." ++ "<lambda>")]
theorem csEn : He.cT K ("_law_engine_refused", none) ∈ csL K := List.mem_cons_self
theorem csHa : He.cT K ("_law_hands_refused", none) ∈ csL K := List.mem_cons_of_mem _ List.mem_cons_self
theorem csGr : He.cT K ("_law_groups_refused", none) ∈ csL K := List.mem_cons_of_mem _ (List.mem_cons_of_mem _ List.mem_cons_self)
theorem tabs_nil {H : Hp} (hT : ∀ p ∈ csL K, H p.2 = some (.tbl #[])) : Tabs (tbL K) H := fun p hp => by
  simp only [tbL, List.mem_cons, List.not_mem_nil, or_false] at hp
  rcases hp with rfl | rfl | rfl
  · exact TabS.nil (hT _ csEn)
  · exact TabS.nil (hT _ csHa)
  · exact TabS.nil (hT _ csGr)
theorem np3 (np : (tfT.map fun p => (He.cT K p).2).Nodup) : pEn K ≠ pHa K ∧ pEn K ≠ pGr K ∧ pHa K ≠ pGr K := by
  have z : [pEn K, pHa K, pGr K].Nodup := np
  rw [List.nodup_cons, List.nodup_cons] at z
  simp only [List.mem_cons, List.not_mem_nil, or_false, not_or] at z
  exact ⟨z.1.1, z.1.2, z.2.1⟩
theorem uEn (np : (tfT.map fun p => (He.cT K p).2).Nodup) : ∀ p ∈ tbL K, p.1 = pEn K → p.2 = ("_law_engine_refused" : Str) ++ ".<locals>." ++ "<lambda>" := fun p hp e => by
  obtain ⟨a, b, c⟩ := np3 np
  simp only [tbL, List.mem_cons, List.not_mem_nil, or_false] at hp
  rcases hp with rfl | rfl | rfl
  · rfl
  · exact absurd e.symm a
  · exact absurd e.symm b
theorem uHa (np : (tfT.map fun p => (He.cT K p).2).Nodup) : ∀ p ∈ tbL K, p.1 = pHa K → p.2 = ("_law_hands_refused" : Str) ++ ".<locals>." ++ "<lambda>" := fun p hp e => by
  obtain ⟨a, b, c⟩ := np3 np
  simp only [tbL, List.mem_cons, List.not_mem_nil, or_false] at hp
  rcases hp with rfl | rfl | rfl
  · exact absurd e a
  · rfl
  · exact absurd e.symm c
theorem uGr (np : (tfT.map fun p => (He.cT K p).2).Nodup) : ∀ p ∈ tbL K, p.1 = pGr K → p.2 = ("_law_groups_refused" : Str) ++ ".<locals>." ++ "<lambda>" := fun p hp e => by
  obtain ⟨a, b, c⟩ := np3 np
  simp only [tbL, List.mem_cons, List.not_mem_nil, or_false] at hp
  rcases hp with rfl | rfl | rfl
  · exact absurd e b
  · exact absurd e c
  · rfl
end
theorem facts {P : Program} {w : World} {K : PySem.W.Frag} {h : Heap} {mg : Str → Option Value} {f : Addr} (X : K.In h) (G : h.Ns mainGlobals mg) (hfa : mg ("law" : Str) = some (.ref f)) (cc : SaysK h K) :
    ∃ fd : FuncData, (∀ (s : Shared) (v : Value), BindsTo s fd ⟨[v], []⟩ [("script", v)]) ∧ ∀ base : Heap, K.In base → base.Ns mainGlobals mg → (∀ p ∈ csL K, TabB base mg p.1 p.2) → FnOk P w K mg base CX0 11 f fd ["script"] (spLawT K (tbL K)) := by
  have c := cc.d
  obtain ⟨gStart, dStart, FStart⟩ := def_at c X G 0 0 (x := "_law_start") (st := sStart) rfl rfl
  obtain ⟨gDraw, dDraw, FDraw⟩ := def_at c X G 1 1 (x := "_law_draw") (st := sDraw) rfl rfl
  obtain ⟨gPick, dPick, FPick⟩ := def_at c X G 2 2 (x := "_law_pick") (st := sPick) rfl rfl
  obtain ⟨gNames, dNames, FNames⟩ := def_at c X G 3 3 (x := "_law_t_names") (st := sNames) rfl rfl
  obtain ⟨gRows, dRows, FRows⟩ := def_at c X G 4 4 (x := "_law_t_rows") (st := sRows) rfl rfl
  obtain ⟨gSame, dSame, FSame⟩ := def_at c X G 5 5 (x := "_law_same") (st := sSame) rfl rfl
  obtain ⟨gFrozen, dFrozen, FFrozen⟩ := def_at c X G 6 6 (x := "_law_frozen") (st := sFrozen) rfl rfl
  obtain ⟨gTried, dTried, FTried⟩ := def_at c X G 7 7 (x := "_law_tried") (st := sTried) rfl rfl
  obtain ⟨gEng, dEng, FEng⟩ := def_at c X G 8 8 (x := "_law_engine_refused") (st := sEng) rfl rfl
  obtain ⟨gHan, dHan, FHan⟩ := def_at c X G 9 9 (x := "_law_hands_refused") (st := sHan) rfl rfl
  obtain ⟨gGro, dGro, FGro⟩ := def_at c X G 10 10 (x := "_law_groups_refused") (st := sGro) rfl rfl
  obtain ⟨gLaw, dLaw, FLaw⟩ := def_at c X G 11 11 (x := "law") (st := sLaw) rfl rfl
  obtain ⟨gIsInt, dIsInt, FIsInt⟩ := def_at c X G 12 12 (x := "is_integer") (st := sIsInt) rfl rfl
  obtain ⟨gIsCount, dIsCount, FIsCount⟩ := def_at c X G 13 13 (x := "is_count") (st := sIsCount) rfl rfl
  obtain ⟨gIsList, dIsList, FIsList⟩ := def_at c X G 14 14 (x := "is_list") (st := sIsList) rfl rfl
  obtain ⟨gIsName, dIsName, FIsName⟩ := def_at c X G 15 15 (x := "is_name") (st := sIsName) rfl rfl
  obtain ⟨gIsOne, dIsOne, FIsOne⟩ := def_at c X G 16 16 (x := "is_one_of") (st := sIsOne) rfl rfl
  obtain ⟨gFirst, dFirst, FFirst⟩ := def_at c X G 17 17 (x := "first_bad") (st := sFirst) rfl rfl
  obtain ⟨gCkK, dCkK, FCkK⟩ := def_at c X G 18 18 (x := "check_known") (st := sCkK) rfl rfl
  obtain ⟨gCkA, dCkA, FCkA⟩ := def_at c X G 19 19 (x := "check_asked") (st := sCkA) rfl rfl
  obtain ⟨gCkB, dCkB, FCkB⟩ := def_at c X G 20 20 (x := "check_both") (st := sCkB) rfl rfl
  obtain ⟨gCkH, dCkH, FCkH⟩ := def_at c X G 21 21 (x := "check_hands") (st := sCkH) rfl rfl
  obtain ⟨gAskedF, dAskedF, FAskedF⟩ := def_at c X G 22 22 (x := "asked_files") (st := sAskedF) rfl rfl
  obtain ⟨gHasJust, dHasJust, FHasJust⟩ := def_at c X G 23 23 (x := "has_just") (st := sHasJust) rfl rfl
  obtain ⟨gToldBy, dToldBy, FToldBy⟩ := def_at c X G 24 24 (x := "told_by") (st := sToldBy) rfl rfl
  obtain ⟨gIsClosed, dIsClosed, FIsClosed⟩ := def_at c X G 25 25 (x := "is_closed") (st := sIsClosed) rfl rfl
  obtain ⟨gNeedless, dNeedless, FNeedless⟩ := def_at c X G 26 26 (x := "needless") (st := sNeedless) rfl rfl
  obtain ⟨gThinned, dThinned, FThinned⟩ := def_at c X G 27 27 (x := "thinned") (st := sThinned) rfl rfl
  obtain ⟨gLeastF, dLeastF, FLeastF⟩ := defF_at c X G 28 28 (x := "least_files") (st := sLeastF) rfl rfl
  obtain ⟨gSecrets, dSecrets, FSecrets⟩ := defF_at c X G 29 29 (x := "secrets") (st := sSecrets) rfl rfl
  obtain ⟨gNeeded, dNeeded, FNeeded⟩ := defF_at c X G 30 30 (x := "needed") (st := sNeeded) rfl rfl
  obtain ⟨gIdle, dIdle, FIdle⟩ := defF_at c X G 31 31 (x := "idle") (st := sIdle) rfl rfl
  obtain ⟨gKnows, dKnows, FKnows⟩ := def_at c X G 32 32 (x := "knows") (st := sKnows) rfl rfl
  obtain ⟨gLeastG, dLeastG, FLeastG⟩ := def_at c X G 33 33 (x := "least_groups") (st := sLeastG) rfl rfl
  obtain ⟨gOutsiders, dOutsiders, FOutsiders⟩ := def_at c X G 34 34 (x := "outsiders") (st := sOutsiders) rfl rfl
  obtain ⟨gMayTell, dMayTell, FMayTell⟩ := def_at c X G 35 35 (x := "may_tell") (st := sMayTell) rfl rfl
  obtain ⟨gIsSafe, dIsSafe, FIsSafe⟩ := def_at c X G 36 36 (x := "is_safe") (st := sIsSafe) rfl rfl
  obtain ⟨gCkHA, dCkHA, FCkHA⟩ := def_at c X G 37 37 (x := "_check_both") (st := sCkHA) rfl rfl
  obtain ⟨gBadRow, dBadRow, FBadRow⟩ := def_at c X G 38 38 (x := "_first_bad_row") (st := sBadRow) rfl rfl
  obtain ⟨mInit, dInit, FInit⟩ := meth_at c 63 39 (m := "__init__") (q := "Table.__init__") (st := sInit) rfl rfl
  obtain ⟨mQs, dQs, FQs⟩ := meth_at c 57 40 (m := "questions") (q := "Table.questions") (st := sQs) rfl rfl
  obtain ⟨mRowsM, dRowsM, FRowsM⟩ := meth_at c 58 41 (m := "rows") (q := "Table.rows") (st := sRowsM) rfl rfl
  obtain ⟨mDictOf, dDictOf, FDictOf⟩ := meth_at c 59 42 (m := "_dict_of") (q := "Table._dict_of") (st := sDictOf) rfl rfl
  obtain ⟨mIsTold, dIsTold, FIsTold⟩ := meth_at c 60 43 (m := "is_told") (q := "Table.is_told") (st := sIsTold) rfl rfl
  obtain ⟨mPlaces, dPlaces, FPlaces⟩ := meth_at c 61 44 (m := "_places") (q := "Table._places") (st := sPlaces) rfl rfl
  obtain ⟨mParting, dParting, FParting⟩ := meth_at c 62 45 (m := "_parting_rows") (q := "Table._parting_rows") (st := sParting) rfl rfl
  have n_list : mg "list" = none := He.free_ok X G (c.fact 40 rfl)
  have n_len : mg "len" = none := He.free_ok X G (c.fact 41 rfl)
  have n_int : mg "int" = none := He.free_ok X G (c.fact 42 rfl)
  have n_range : mg "range" = none := He.free_ok X G (c.fact 43 rfl)
  have n_dict : mg "dict" = none := He.free_ok X G (c.fact 44 rfl)
  have n_tuple : mg "tuple" = none := He.free_ok X G (c.fact 45 rfl)
  have n_str : mg "str" = none := He.free_ok X G (c.fact 46 rfl)
  have n_bool : mg "bool" = none := He.free_ok X G (c.fact 47 rfl)
  have n_isinstance : mg "isinstance" = none := He.free_ok X G (c.fact 48 rfl)
  have n_all : mg "all" = none := He.free_ok X G (c.fact 49 rfl)
  have n_enumerate : mg "enumerate" = none := He.free_ok X G (c.fact 50 rfl)
  have n_zip : mg "zip" = none := He.free_ok X G (c.fact 51 rfl)
  have gC : mg "Table" = some (.ref (He.ga K "Table")) := He.glo_ok X G (c.fact 39 rfl)
  have gLo := He.int_ok X G (c.fact (f := .int "LONGEST" 40) 52 rfl)
  have gSg := He.str_ok X G (c.fact (f := .str "SIGNS" "abcdefghijklmnopqrstuvwxyz0123456789.") 53 rfl)
  have T0 : TabC K (He.ga K "Table") := ⟨He.cls_ok (c.fact 54 rfl), He.noat_ok (c.fact 55 rfl), He.noat_ok (c.fact 56 rfl)⟩
  have T : TabM K (He.ga K "Table") _ _ _ _ := ⟨T0, ⟨_, FQs⟩, ⟨_, FIsTold⟩, ⟨_, FPlaces⟩, ⟨_, FParting⟩, mQs, mIsTold, mPlaces, mParting⟩
  have Ck : Chk K mg _ _ _ _ _ _ := ⟨⟨_, FFirst⟩, ⟨_, FIsList⟩, ⟨_, FIsOne⟩, ⟨_, FCkK⟩, ⟨_, FCkA⟩, ⟨_, FCkB⟩, gFirst, gIsList, gIsOne, gCkK, gCkA, gCkB, n_isinstance, n_list, n_tuple, n_str, n_enumerate⟩
  have M : Sm mg := ⟨n_isinstance, n_list, n_tuple, n_int, n_bool, n_len, n_all, n_zip⟩
  have MF : FzM mg := ⟨n_isinstance, n_list, n_tuple, n_dict⟩
  have Mk := He.mkr_ok (c.fact (f := .mkr "Table") 64 rfl)
  have e := hfa.symm.trans gLaw
  cases e
  have cEn := code_of FEng
  have cHa := code_of FHan
  have cGr := code_of FGro
  obtain ⟨oc, od, kV, doc, pm, an, cdv, ct, osl, rfl, lk, hcd⟩ := FLaw.ex
  refine ⟨PySem.W.fnOf "law" "law" (defArgs sLaw) (defBody sLaw) (defScope sLaw) .none kV doc pm an cdv ct, fun s v => .of_eq rfl, fun base _ _ hTB => ?_⟩
  have EBadKnown : ErrF P w K mg base "BadKnown" (He.ga K "BadKnown") "index" := err_at cc X G 65 46 (q := "BadKnown.__init__") (st := sIBadKnown) rfl rfl (by simp [erT]) ⟨rfl, rfl, rfl, by decide +kernel, rfl, by decide +kernel, by decide +kernel⟩ rfl (by first | exact .inl rfl | exact .inr (.inl rfl)) (by first | exact .inl rfl | exact .inr (.inl rfl)) (by decide +kernel) (by decide +kernel) (fun _ _ _ _ _ _ us hl => match us, hl with | [_, _], _ => rfl)
  have ENoQuestion : ErrF P w K mg base "NoQuestion" (He.ga K "NoQuestion") "name" := err_at cc X G 66 47 (q := "NoQuestion.__init__") (st := sINoQuestion) rfl rfl (by simp [erT]) ⟨rfl, rfl, rfl, by decide +kernel, rfl, by decide +kernel, by decide +kernel⟩ rfl (by first | exact .inl rfl | exact .inr (.inl rfl)) (by first | exact .inl rfl | exact .inr (.inl rfl)) (by decide +kernel) (by decide +kernel) (fun _ _ _ _ _ _ us hl => match us, hl with | [_, _], _ => rfl)
  have EBadHands : ErrF P w K mg base "BadHands" (He.ga K "BadHands") "name" := err_at cc X G 67 48 (q := "BadHands.__init__") (st := sIBadHands) rfl rfl (by simp [erT]) ⟨rfl, rfl, rfl, by decide +kernel, rfl, by decide +kernel, by decide +kernel⟩ rfl (by first | exact .inl rfl | exact .inr (.inl rfl)) (by first | exact .inl rfl | exact .inr (.inl rfl)) (by decide +kernel) (by decide +kernel) (fun _ _ _ _ _ _ us hl => match us, hl with | [_, _], _ => rfl)
  have EBadGroup : ErrF P w K mg base "BadGroup" (He.ga K "BadGroup") "index" := err_at cc X G 68 49 (q := "BadGroup.__init__") (st := sIBadGroup) rfl rfl (by simp [erT]) ⟨rfl, rfl, rfl, by decide +kernel, rfl, by decide +kernel, by decide +kernel⟩ rfl (by first | exact .inl rfl | exact .inr (.inl rfl)) (by first | exact .inl rfl | exact .inr (.inl rfl)) (by decide +kernel) (by decide +kernel) (fun _ _ _ _ _ _ us hl => match us, hl with | [_, _], _ => rfl)
  have ENoHand : ErrF P w K mg base "NoHand" (He.ga K "NoHand") "name" := err_at cc X G 69 50 (q := "NoHand.__init__") (st := sINoHand) rfl rfl (by simp [erT]) ⟨rfl, rfl, rfl, by decide +kernel, rfl, by decide +kernel, by decide +kernel⟩ rfl (by first | exact .inl rfl | exact .inr (.inl rfl)) (by first | exact .inl rfl | exact .inr (.inl rfl)) (by decide +kernel) (by decide +kernel) (fun _ _ _ _ _ _ us hl => match us, hl with | [_, _], _ => rfl)
  have EBadNumber : ErrF P w K mg base "BadNumber" (He.ga K "BadNumber") "thing" := err_at cc X G 70 51 (q := "BadNumber.__init__") (st := sIBadNumber) rfl rfl (by simp [erT]) ⟨rfl, rfl, rfl, by decide +kernel, rfl, by decide +kernel, by decide +kernel⟩ rfl (by first | exact .inl rfl | exact .inr (.inl rfl)) (by first | exact .inl rfl | exact .inr (.inl rfl)) (by decide +kernel) (by decide +kernel) (fun _ _ _ _ _ _ us hl => match us, hl with | [_, _], _ => rfl)
  have gOf : ∀ cl ∈ clz6 (He.ga K "BadKnown") (He.ga K "NoQuestion") (He.ga K "BadHands") (He.ga K "BadGroup") (He.ga K "NoHand") (He.ga K "BadNumber"), mg cl.x = some (.ref cl.C) ∧ cl.C = He.ga K cl.x ∧ (cl.x, cl.fld) ∈ erT := fun cl hm => by
    simp only [clz6, List.mem_cons, List.not_mem_nil, or_false] at hm
    rcases hm with rfl | rfl | rfl | rfl | rfl | rfl
    · exact ⟨EBadKnown.g, rfl, by simp [erT]⟩
    · exact ⟨ENoQuestion.g, rfl, by simp [erT]⟩
    · exact ⟨EBadHands.g, rfl, by simp [erT]⟩
    · exact ⟨EBadGroup.g, rfl, by simp [erT]⟩
    · exact ⟨ENoHand.g, rfl, by simp [erT]⟩
    · exact ⟨EBadNumber.g, rfl, by simp [erT]⟩
  have O : ClzOk K mg (clz6 (He.ga K "BadKnown") (He.ga K "NoQuestion") (He.ga K "BadHands") (He.ga K "BadGroup") (He.ga K "NoHand") (He.ga K "BadNumber")) := by
    refine ⟨fun cl hm => (gOf cl hm).1, fun cl hm => ?_, fun cl hm cl' hm' => ?_, fun cl hm cl' hm' e => ?_⟩
    · obtain ⟨_, e1, e2⟩ := gOf cl hm
      have z := errB_ok (cc.er _ e2)
      rw [e1]
      exact ⟨z.xf, z.no⟩
    · simp only [clz6, List.mem_cons, List.not_mem_nil, or_false] at hm hm'
      rcases hm with rfl | rfl | rfl | rfl | rfl | rfl <;> rcases hm' with rfl | rfl | rfl | rfl | rfl | rfl
      · exact He.exm_ok (c.fact (f := .exm "BadKnown" "BadKnown" true) 71 rfl)
      · exact He.exm_ok (c.fact (f := .exm "BadKnown" "NoQuestion" false) 72 rfl)
      · exact He.exm_ok (c.fact (f := .exm "BadKnown" "BadHands" false) 73 rfl)
      · exact He.exm_ok (c.fact (f := .exm "BadKnown" "BadGroup" false) 74 rfl)
      · exact He.exm_ok (c.fact (f := .exm "BadKnown" "NoHand" false) 75 rfl)
      · exact He.exm_ok (c.fact (f := .exm "BadKnown" "BadNumber" false) 76 rfl)
      · exact He.exm_ok (c.fact (f := .exm "NoQuestion" "BadKnown" false) 77 rfl)
      · exact He.exm_ok (c.fact (f := .exm "NoQuestion" "NoQuestion" true) 78 rfl)
      · exact He.exm_ok (c.fact (f := .exm "NoQuestion" "BadHands" false) 79 rfl)
      · exact He.exm_ok (c.fact (f := .exm "NoQuestion" "BadGroup" false) 80 rfl)
      · exact He.exm_ok (c.fact (f := .exm "NoQuestion" "NoHand" false) 81 rfl)
      · exact He.exm_ok (c.fact (f := .exm "NoQuestion" "BadNumber" false) 82 rfl)
      · exact He.exm_ok (c.fact (f := .exm "BadHands" "BadKnown" false) 83 rfl)
      · exact He.exm_ok (c.fact (f := .exm "BadHands" "NoQuestion" false) 84 rfl)
      · exact He.exm_ok (c.fact (f := .exm "BadHands" "BadHands" true) 85 rfl)
      · exact He.exm_ok (c.fact (f := .exm "BadHands" "BadGroup" false) 86 rfl)
      · exact He.exm_ok (c.fact (f := .exm "BadHands" "NoHand" false) 87 rfl)
      · exact He.exm_ok (c.fact (f := .exm "BadHands" "BadNumber" false) 88 rfl)
      · exact He.exm_ok (c.fact (f := .exm "BadGroup" "BadKnown" false) 89 rfl)
      · exact He.exm_ok (c.fact (f := .exm "BadGroup" "NoQuestion" false) 90 rfl)
      · exact He.exm_ok (c.fact (f := .exm "BadGroup" "BadHands" false) 91 rfl)
      · exact He.exm_ok (c.fact (f := .exm "BadGroup" "BadGroup" true) 92 rfl)
      · exact He.exm_ok (c.fact (f := .exm "BadGroup" "NoHand" false) 93 rfl)
      · exact He.exm_ok (c.fact (f := .exm "BadGroup" "BadNumber" false) 94 rfl)
      · exact He.exm_ok (c.fact (f := .exm "NoHand" "BadKnown" false) 95 rfl)
      · exact He.exm_ok (c.fact (f := .exm "NoHand" "NoQuestion" false) 96 rfl)
      · exact He.exm_ok (c.fact (f := .exm "NoHand" "BadHands" false) 97 rfl)
      · exact He.exm_ok (c.fact (f := .exm "NoHand" "BadGroup" false) 98 rfl)
      · exact He.exm_ok (c.fact (f := .exm "NoHand" "NoHand" true) 99 rfl)
      · exact He.exm_ok (c.fact (f := .exm "NoHand" "BadNumber" false) 100 rfl)
      · exact He.exm_ok (c.fact (f := .exm "BadNumber" "BadKnown" false) 101 rfl)
      · exact He.exm_ok (c.fact (f := .exm "BadNumber" "NoQuestion" false) 102 rfl)
      · exact He.exm_ok (c.fact (f := .exm "BadNumber" "BadHands" false) 103 rfl)
      · exact He.exm_ok (c.fact (f := .exm "BadNumber" "BadGroup" false) 104 rfl)
      · exact He.exm_ok (c.fact (f := .exm "BadNumber" "NoHand" false) 105 rfl)
      · exact He.exm_ok (c.fact (f := .exm "BadNumber" "BadNumber" true) 106 rfl)
    · simp only [clz6, List.mem_cons, List.not_mem_nil, or_false] at hm hm'
      rcases hm with rfl | rfl | rfl | rfl | rfl | rfl <;> rcases hm' with rfl | rfl | rfl | rfl | rfl | rfl <;> first | rfl | (dsimp only at e; exact absurd e (by decide))
  have R : Trd P w K mg (He.ga K "BadKnown") (He.ga K "NoQuestion") (He.ga K "BadHands") (He.ga K "BadGroup") (He.ga K "NoHand") (He.ga K "BadNumber") := ⟨O, ⟨_, _, gTried, FTried⟩, ⟨_, _, gFrozen, FFrozen⟩, MF⟩
  have gTB := ok_toldByX (P := P) (w := w) (base := base) FToldBy T Ck EBadKnown
  have b3 : ∀ {x : Str} {st : Stmt} {f : Addr} {fd : FuncData}, FunF K x st f fd → (∀ (T : Addr) (kV doc pm : Value) (an : Option Addr) (cdv ct : Value) (us its : List Value), us.length = 3 → its.length = [V.non].length → ∃ k, bindArgs (PySem.W.fnOf x x (defArgs st) (defBody st) (defScope st) (.ref T) kV doc pm an cdv ct) ⟨us, []⟩ = seqItems? (.ref T) >>= k ∧ k (some its.toArray) = pure ((["field", "asked", "of"] : List Str).zip (us ++ its.drop 1))) → Binds K fd ["field", "asked", "of"] [] := fun F h => binds3 F h
  have EF : EngF P w K mg base (He.ga K "Table") (He.ga K "BadKnown") (He.ga K "NoQuestion") (He.ga K "BadHands") (He.ga K "BadGroup") (He.ga K "NoHand") (He.ga K "BadNumber") := { R := R, told := ⟨_, _, gToldBy, FToldBy, gTB.mono (by decide)⟩, clos := ⟨_, _, gIsClosed, FIsClosed, ok_isClosedX FIsClosed T Ck EBadKnown FToldBy gToldBy n_len⟩, need := ⟨_, _, gNeedless, FNeedless, ok_needlessX FNeedless T Ck EBadKnown ENoQuestion⟩, thin := ⟨_, _, gThinned, FThinned, ok_thinnedX FThinned T Ck EBadKnown ENoQuestion⟩, least := ⟨_, _, gLeastF, FLeastF.kp, b3 FLeastF (fun T kV doc pm an cdv ct us its h1 h2 => match us, its, h1, h2 with | [_, _, _], [_], _, _ => ⟨_, rfl, rfl⟩), ok_leastX FLeastF T Ck EBadKnown ENoQuestion FAskedF gAskedF⟩, secr := ⟨_, _, gSecrets, FSecrets.kp, b3 FSecrets (fun T kV doc pm an cdv ct us its h1 h2 => match us, its, h1, h2 with | [_, _, _], [_], _, _ => ⟨_, rfl, rfl⟩), ok_secretsX FSecrets T Ck EBadKnown ENoQuestion FAskedF gAskedF⟩, nded := ⟨_, _, gNeeded, FNeeded.kp, b3 FNeeded (fun T kV doc pm an cdv ct us its h1 h2 => match us, its, h1, h2 with | [_, _, _], [_], _, _ => ⟨_, rfl, rfl⟩), ok_neededX FNeeded T Ck EBadKnown ENoQuestion FAskedF gAskedF⟩, idle := ⟨_, _, gIdle, FIdle.kp, b3 FIdle (fun T kV doc pm an cdv ct us its h1 h2 => match us, its, h1, h2 with | [_, _, _], [_], _, _ => ⟨_, rfl, rfl⟩), ok_idleX FIdle T Ck EBadKnown ENoQuestion FAskedF gAskedF⟩ }
  have gNm : FnOk P w K mg base CX0 1 _ _ ["thing"] (spIsNameG K) := ok_isNameG FIsName n_isinstance n_str n_len n_all gLo gSg
  have gNm2 : FnOk P w K mg base CX0 1 _ _ ["thing"] spIsName := ok_isName FIsName n_isinstance n_str n_len n_all gLo gSg
  have gH := ok_ckHX (P := P) (w := w) (base := base) FCkH Ck EBadHands FIsName gIsName gNm n_dict n_len
  have gHD := ok_ckHD (P := P) (w := w) (base := base) FCkH Ck EBadHands FIsName gIsName gNm n_dict n_len
  have gA := ok_ckAX (P := P) (w := w) (base := base) Ck ENoQuestion FCkA
  have W : HRef P w K mg base (He.ga K "Table") (He.ga K "BadHands") (He.ga K "NoQuestion") := ⟨⟨_, _, gCkH, FCkH, gH⟩, ⟨_, _, gCkA, FCkA, gA⟩⟩
  have gHA := ok_ckHAX (P := P) (w := w) (base := base) FCkHA T n_list W
  have gHB := ok_bothD (P := P) (w := w) (base := base) FCkHA T n_list FCkH gCkH gHD
  have gLX := ok_leastGX (P := P) (w := w) (base := base) FLeastG FCkHA gCkHA gHA
  have gLD := ok_leastGD (P := P) (w := w) (base := base) FLeastG FCkHA gCkHA gHB
  have gLB : FnOk P w K mg base (L2.CX P w) 5 _ _ ["field", "hands", "asked"] (spLgB w K (He.ga K "Table") (He.ga K "BadHands") (He.ga K "NoQuestion")) := fnOr gLX gLD fun _ _ _ _ h => h
  have GF : GroF P w K mg base (He.ga K "Table") (He.ga K "BadKnown") (He.ga K "NoQuestion") (He.ga K "BadHands") (He.ga K "BadGroup") (He.ga K "NoHand") (He.ga K "BadNumber") := { R := R, kn := ⟨_, _, gKnows, FKnows, ok_knowsX FKnows T Ck W EBadGroup⟩, lg := ⟨_, _, gLeastG, FLeastG, gLX⟩, ou := ⟨_, _, gOutsiders, FOutsiders, ok_outsX FOutsiders FCkHA gCkHA gHA⟩, my := ⟨_, _, gMayTell, FMayTell, ok_mayX FMayTell T Ck W ENoHand⟩, sf := ⟨_, _, gIsSafe, FIsSafe, ok_safeX FIsSafe T n_list W EBadNumber FIsCount gIsCount (ok_isCountG FIsCount FIsInt gIsInt n_isinstance n_int n_bool)⟩ }
  have oEn := ok_eng (T := tbL K) FEng cEn EF (hTB _ csEn) List.mem_cons_self (uEn cc.np) FSame gSame M
  have oHa := ok_han (T := tbL K) FHan cHa GF (hTB _ csHa) (List.mem_cons_of_mem _ List.mem_cons_self) (uHa cc.np) FLeastG gLeastG gLB FSame gSame M
  have oGr := ok_gro (T := tbL K) FGro cGr GF (hTB _ csGr) (List.mem_cons_of_mem _ (List.mem_cons_of_mem _ List.mem_cons_self)) (uGr cc.np) FSame gSame M
  exact ok_law (C := He.ga K "Table") FLaw { tm := T, start := ⟨_, _, gStart, FStart⟩, rows := ⟨_, _, gRows, FRows, ok_rows FRows FNames gNames FPick gPick FDraw gDraw n_int n_len n_range n_dict⟩, eng := ⟨_, _, gEng, FEng, oEn⟩, han := ⟨_, _, gHan, FHan, oHa⟩, gro := ⟨_, _, gGro, FGro, oGr⟩, rowsM := ⟨_, _, mRowsM, FRowsM, ok_rowsM FRowsM T0 FDictOf mDictOf n_zip⟩, made := Mk, init := ⟨_, FInit, ok_init FInit T0 (ok_badRow FBadRow FIsList gIsList FIsInt gIsInt FIsName gIsName FHasJust gHasJust n_isinstance n_list n_tuple n_str n_enumerate n_len n_all n_dict n_int n_bool gLo gSg) FBadRow gBadRow n_list n_tuple⟩, gC := gC, nR := n_range, nL := n_list }
end L2.TB
open PySem PySem.W PySem.Calls PyProof.Rows
set_option maxHeartbeats 0 in
theorem PySem.Challenge.cw_twoworlds_k05_files_refused_holds : PySem.Challenge.rw_twoworlds_k05_files_refused.Holds := by
  w_on; o_law
  refine HandSHeadRun.head_any (r := L2.TB.HdR.R) (q := L2.TB.HdR.qv) (H := L2.TB.hookK) (ob := L2.TB.obT) (M := 16000) (loose := L2.TB.HdR.names)
    (d := HandSHeadRun.topDef L2.TB.HdR.R.prog 74) (kwd := []) L2.TB.obT_eq
    (by kernel_rfl) (fun s => by kernel_rfl) L2.TB.HdR.run (by kernel_rfl) (by kernel_rfl) (by kernel_rfl) (by rfl)
    (by first | assumption | decide +kernel) (by decide +kernel) ⟨rfl, rfl, rfl, rfl, rfl, by decide +kernel⟩ ?hw ?hc
  case hw => w_witness2
  case hc =>
    refine LamX.walk_ofTsE (l := PySem.Challenge.rw_twoworlds_k05_files_refused) (n := 63) (k := 11) (x := "script") (CX := fun _ => L2.CX0)
      rfl (by decide) (by kernel_rfl) ⟨rfl, by decide, by decide⟩ ?F (fun _ _ _ _ _ z => z)
    intro w mg fa h Y G hmg0
    obtain ⟨K, KX, c⟩ := Y
    have hmg : mg ("law" : PySem.Str) = some (.ref fa) := by
      have e : (HandSHeadRun.topDef L2.TB.HdR.R.prog 74).name = ("law" : PySem.Str) := by kernel_rfl
      rw [← e]; exact hmg0
    obtain ⟨fd, hb, hF⟩ := L2.TB.facts (P := PySem.Challenge.rw_twoworlds_k05_files_refused.prog) (w := w) KX G hmg c
    exact ⟨K, KX, fd, L2.TB.csL K, L2.TB.spLawT K (L2.TB.tbL K), fun p hp => c.emptyC hp, fun p hp => c.outC hp, fun p hp => PySem.W.codeHd_of_K KX (c.hdC hp), hb, fun H a ns hl _ hT hS => ⟨a, ns, rfl, hS, by omega, L2.TB.tabs_nil hT, fun _ => rfl⟩, hF⟩
