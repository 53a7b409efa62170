import PyProof.Rows.All
import Wide.All
import OpenK.AllK
import Wide.FinOn
import HandS.ForMost
import HandS.Exc
import HandS.ExcInit
import HandS.IsInst
import HandS.Defaults
import HandS.Wide
import HandS.Conv
import HandS.Dict
import HandS.DictTup
import HandS.DictComp
import HandS.Flow
import HandS.Style
import HandS.TupSets
import HandS.NoneIn
import HandS.ForExc
import HandS.TryMany
import HandS.ExcField
import HandS.WordsExc
import HandS.HeadHook1
import HandS.HeadHook2
import HandS.Head0
import HandS.Head1
import HandS.Head2
import HandS.Head3
import HandS.HeadEnd
import HandS.HeadHook4
import HandS.Nested
import HandS.Iter
import KE.GoesEnum
import HandS.More
import KE.KEqNest
import KE.DatumMore
import KE.DataEq
import HandS.OwnEq
import PyProof.InstEq
import HandS.ListItems
import HandS.Codes
import HandS.DictEq
import HandS.Walk
import HandS.WordsDict
import HandS.SetTxt0
import HandS.Strs
import HandS.Zip
import HandS.TupLen
import PyProof.DictUpdate
import KE.GoesMore
import PyProof.Draws
import KE.KeyNested
import PyProof.DictFindH
import PyProof.DictTable
import HandS.Replace
import HandS.Finally
import PyProof.SliceStr2
import HandS.HeadWalk
import PySem.Challenge.RW_twoworlds_k72_machines_made
set_option Elab.async false
set_option linter.all false
set_option maxRecDepth 100000
set_option maxHeartbeats 40000000
namespace L2.TB
open PySem PySem.Spec PyProof.Rows
def topS (i : Nat) : Stmt := PySem.Challenge.pw_twoworlds_k72_machines_made.main.body.getD i (.Pass ⟨0, 0, 0, 0⟩)
abbrev sStart : Stmt := topS 62
abbrev sDraw : Stmt := topS 63
abbrev sPick : Stmt := topS 64
abbrev sMixed : Stmt := topS 65
abbrev sSame : Stmt := topS 66
abbrev sNameL : Stmt := topS 67
abbrev sNamesL : Stmt := topS 68
abbrev sReaderL : Stmt := topS 59
abbrev sToldL : Stmt := topS 60
abbrev sWordL : Stmt := topS 61
abbrev sHanded : Stmt := topS 69
abbrev sSpoil : Stmt := topS 70
abbrev sOthers : Stmt := topS 71
abbrev sWith : Stmt := topS 72
abbrev sInOrder : Stmt := topS 73
abbrev sTurned : Stmt := topS 74
abbrev sTells : Stmt := topS 75
abbrev sPart : Stmt := topS 76
abbrev sLaw : Stmt := topS 77
abbrev sIsInt : Stmt := topS 18
abbrev sIsCount : Stmt := topS 19
abbrev sIsList : Stmt := topS 20
abbrev sIsPair : Stmt := topS 21
abbrev sIsName : Stmt := topS 22
abbrev sIsOne : Stmt := topS 23
abbrev sIsStr : Stmt := topS 24
abbrev sIsWord : Stmt := topS 25
abbrev sAreLet : Stmt := topS 26
abbrev sIsDigit : Stmt := topS 27
abbrev sHasJust : Stmt := topS 28
abbrev sFirst : Stmt := topS 29
abbrev sCkK : Stmt := topS 30
abbrev sCkA : Stmt := topS 31
abbrev sCkB : Stmt := topS 32
abbrev sCkLet : Stmt := topS 34
abbrev sJoint : Stmt := topS 46
abbrev sAlong : Stmt := topS 48
abbrev sIsReader : Stmt := topS 55
abbrev sOwn : Stmt := topS 56
abbrev sTable : Stmt := topS 54
abbrev sInit : Stmt := inClass sTable 0
abbrev sEqM : Stmt := inClass sTable 1
abbrev sOr : Stmt := inClass sTable 2
abbrev sLetters : Stmt := inClass sTable 3
abbrev sReader : Stmt := inClass sTable 4
abbrev sQs : Stmt := inClass sTable 5
abbrev sHome : Stmt := inClass sTable 6
abbrev sAnswers : Stmt := inClass sTable 7
abbrev sOnly : Stmt := inClass sTable 24
abbrev sJointM : Stmt := inClass sTable 25
abbrev sCkSome : Stmt := inClass sTable 27
end L2.TB
/-! several except clauses, each with a name for the exception or without one -/
namespace TA
open PySem PySem.Spec PyProof.Rows L2
abbrev Cl := Value × Option Nat × (Addr → Value → Option Addr → TS)
/-- the ends of a suite whose name goes behind it -/
def goesE (i : Nat) (D : Ends) : Ends := { nx := fun σ H => D.nx (σ.set i none) H, rt := D.rt, bk := fun σ H => D.bk (σ.set i none) H, ct := fun σ H => D.ct (σ.set i none) H }
/-- what a clause does with the exception at a -/
def cl1 (k : Cl) (D : Ends) (a : Addr) (cls : Value) (d : Option Addr) (σ : L2.St) (H : Hp) : Prop := match k.2.1 with
  | none => k.2.2 a cls d D σ H
  | some i => k.2.2 a cls d (goesE i D) (σ.set i (some (.ref a))) H
def wCls (K : PySem.W.Frag) (Wout : WX) (D : Ends) : List Cl → WX
  | [] => Wout
  | k :: r => fun cls d σ H => ∃ b, PySem.W.exmOne K cls k.1 = some b ∧ (b = true → ∀ a, H a = none → cl1 k D a cls d σ H) ∧ (b = false → wCls K Wout D r cls d σ H)
/-- the name of a clause is a slot -/
def NamedAs (X : Cx) : Option Str → Option Nat → Prop
  | none, none => True
  | some n, some i => X.N[i]? = some n ∧ X.env.kindOf n = some .local
  | _, _ => False
inductive Cls (X : Cx) : List ExceptHandler → List Cl → Prop
  | nil : Cls X [] []
  | cons {x : Str} {on : Option Str} {k : Cl} {b₀ : Stmt} {suite : List Stmt} {np q : Pos} {hds : List ExceptHandler} {l : List Cl} (hn : NamedAs X on k.2.1) (hc : Names X x k.1)
      (hsu : ∀ (a : Addr) (oe : Obj) (cls : Value) (d : Option Addr) (pn : List (Addr × Obj)), Zc cls d oe → (∃ vs, oe.data = .fields vs) → PSs (X.suite a ((a, oe) :: pn)) (b₀ :: suite) (k.2.2 a cls d)) (r : Cls X hds l) :
      Cls X (.ExceptHandler (some (.Name x np)) on (b₀ :: suite) q :: hds) (k :: l)
section
variable {X : Cx} {body : List Stmt} {h₀ : ExceptHandler} {hds : List ExceptHandler} {l : List Cl} {pos : Pos} {tb : WX → TS} {Wout : WX}
theorem ps_try_cls (hs : X.stack = X.env :: X.outer) (hf : X.env.frame = some X.env.locals) (hN : X.N.Nodup) (tk : Takes X Wout)
    (hb : ∀ (W : WX) (pn : List (Addr × Obj)) (xe : Value → Shared → Prop), Takes (X.tr pn xe) W → PassesOwn (model X.prog X.w) X.A X.env xe → PSs (X.tr pn xe) body (tb W))
    (hh : Cls X (h₀ :: hds) l) : PS X (.Try body (h₀ :: hds) [] [] pos) (fun D σ H => tb (wCls X.K Wout D l) D σ H) := by
  refine ⟨fun pins s σ H D I reading => ?_⟩
  have okX := I.ok
  have frA : X.A.frames = some (X.env :: X.outer) := by rw [okX.frames, hs]
  refine wpAny_Try_except (wpAny_mono ((hb (wCls X.K Wout D l) (X.pn ++ pins) (fun e s1 => wpAny (model X.prog X.w) X.A (noteFrame e X.env)
    (fun _ s2 => wpAny (model X.prog X.w) X.A (setFlight e none) (fun _ s3 => wpAny (model X.prog X.w) X.A (handleBy e X.env (h₀ :: hds)) (SP X pins D) X.xe s3) X.xe s2) X.xe s1)
    (fun ev s1 caught => ?_) PassesOwn.looking).run [] s σ H D (I.toTry _) reading) (fun fl s1 done => ?_) (fun _ _ z => z))
  · obtain ⟨a, B, sI, pinsT, σ1, H1, cls, d, rfl, JT, nb, up1, sky, fresh, osE, bare, wish⟩ := caught
    have J : Inv X pins σ1 H1 sI := JT.ofTry okX
    show wpAny (model X.prog X.w) X.A (noteFrame (.ref a) X.env) _ _ _
    refine Sky.land Zc.steady frA hf (by rw [← hs]; exact sky) fun hL landed upL => ?_
    have JL : Inv X pins σ1 H1 { s1 with heap := hL } := J.landed nb landed.1 (up1.trans upL) osE bare
    obtain ⟨oL, vL, eL, zL, dL⟩ := landed.there
    have offFrames : a ∉ frs (X.env :: X.outer) := fun hm => by
      obtain ⟨_, o2, e2, no⟩ := landed.2.2.1.mem hm
      rw [eL] at e2
      cases e2
      exact no _ dL
    have offLocals : a ≠ X.env.locals := fun z => offFrames (List.mem_filterMap.mpr ⟨X.env, List.mem_cons_self, by rw [hf, z]⟩)
    have offFs : a ∉ X.fs := fun hm => by
      obtain ⟨e, he, q⟩ := List.mem_filterMap.mp hm
      exact offFrames (List.mem_filterMap.mpr ⟨e, List.mem_cons_of_mem _ he, q⟩)
    have SL := JL.suite eL dL fresh offLocals offFs
    have along : ∀ {hd2 : List ExceptHandler} {l2 : List Cl}, Cls X hd2 l2 → wCls X.K Wout D l2 cls d σ1 H1 → wpAny (model X.prog X.w) X.A (handleBy (.ref a) X.env hd2) (SP X pins D) X.xe { s1 with heap := hL } := by
      intro hd2 l2 hk
      induction hk with
      | nil =>
        intro w
        refine wpAny_handleBy_nil ?_
        obtain ⟨_, _, _, oe, vs, T, oT, _, he, _, hd, h1, _⟩ := id landed
        unfold PySem.passOn
        refine wpAny_bind (wpAny_field he hd h1 ?_)
        rw [if_neg (by simp)]
        have out : wpAny (model X.prog X.w) X.A (setFlight (.ref a) X.env.frame) (fun _ s4 => wpAny (model X.prog X.w) X.A (throw (.ref a) : Sem Flow) (SP X pins D) X.xe s4) X.xe { s1 with heap := hL } := by
          rw [hf]
          exact HandSPX.setFlight_upZ landed fun h4 up4 more => wpAny_throw (tk _ _ ⟨a, B, sI, pins, σ1, H1, cls, d, rfl, J, nb, (up1.trans upL).trans more, .inr (.inr (by rw [hs]; exact up4)), fresh, osE, bare, w⟩)
        first
          | exact wpAny_bind (wpAny_pure (wpAny_bind out))
          | exact wpAny_bind out
      | @cons x on k b₀ suite np q hds3 l3 hn hc hsu r ih =>
        intro w
        obtain ⟨b, isIt, yes, no⟩ := w
        refine wpAny_handleBy_cons (codeAny_handlers_test ?_) (fun z => by cases z)
        have seesClass : PySem.W.Looks (model X.prog X.w) hL (typeOf (.ref a)) cls := fun A Q E s2 kk go => wpAny_typeOf_ref (kk _ _ eL) (by rw [zL.1]; exact go)
        have matched := PySem.W.exm_one (M := model X.prog X.w) JL.kIn seesClass isIt
        have named : ∀ {Q E : Value → Shared → Prop}, Q k.1 { s1 with heap := hL } → wpAny (model X.prog X.w) (X.A.mark (some (.ref a))) (eval (.Name x np) X.env) Q E { s1 with heap := hL } := fun {Q E} go => by
          rcases hc with ⟨g1, g2, g3 | ⟨g3, g4, g5⟩⟩
          · exact ld_glob (X := X.suite a ((a, oL) :: (X.pn ++ pins))) SL g1 g3 go g2
          · exact ld_blt (X := X.suite a ((a, oL) :: (X.pn ++ pins))) SL g1 g3 g4 go g5 g2
        refine named (matched.here ?_)
        cases b with
        | false => exact ih (no rfl)
        | true =>
          obtain ⟨kc, oi, kt⟩ := k
          match on, oi, hn with
          | none, none, _ =>
            refine codeAny_handlers_suite (HandSPX.lands_againZ landed fun h4 l4 up4 => ?_)
            have J4 : Inv X pins σ1 H1 { s1 with heap := h4 } := J.landed nb l4.1 ((up1.trans upL).trans up4) osE bare
            obtain ⟨o4, v4, e4, z4, d4⟩ := l4.there
            have S4 := J4.suite e4 d4 fresh offLocals offFs
            refine wpAny_mono ((hsu a o4 cls d (X.pn ++ pins) z4 ⟨_, d4⟩).run [] _ σ1 H1 D S4 (yes rfl a fresh)) (fun f2 s6 hsp => ?_) (fun _ _ z => False.elim z)
            cases f2 with
            | ret u =>
              obtain ⟨v6, σ6, H6, S6, r6, q6⟩ := hsp
              exact ⟨v6, σ6, H6, S6.unsuite okX, r6, q6⟩
            | next => exact hsp.imp fun σ6 z => z.imp fun H6 z => ⟨z.1.unsuite okX, z.2⟩
            | brk => exact hsp.imp fun σ6 z => z.imp fun H6 z => ⟨z.1.unsuite okX, z.2⟩
            | cont => exact hsp.imp fun σ6 z => z.imp fun H6 z => ⟨z.1.unsuite okX, z.2⟩
          | some n, some i, hn =>
            refine codeAny_handlers_suite_as (HandSPX.lands_againZ landed fun h4 l4 up4 => ?_)
            have J4 : Inv X pins σ1 H1 { s1 with heap := h4 } := J.landed nb l4.1 ((up1.trans upL).trans up4) osE bare
            obtain ⟨o4, v4, e4, z4, d4⟩ := l4.there
            have S4 := J4.suite e4 d4 fresh offLocals offFs
            refine store_ok (X := X.suite a ((a, o4) :: (X.pn ++ pins))) (v := .ref a) S4 hN hn.1 (.inl hn.2) rfl (fun s5 S5 => ?_) (.inr hn.2)
            refine wpAny_mono ((hsu a o4 cls d (X.pn ++ pins) z4 ⟨_, d4⟩).run [] s5 _ H1 _ S5 (yes rfl a fresh)) (fun f2 s6 hsp => ?_) (fun _ _ z => False.elim z)
            have gone : ∀ {σ6 : L2.St} {H6 : Hp} {Q : Shared → Prop}, Inv (X.suite a ((a, o4) :: (X.pn ++ pins))) [] σ6 H6 s6 → (∀ s7, Inv X pins (σ6.set i none) H6 s7 → Q s7) →
                wpAny (model X.prog X.w) X.A (do bindName X.env n .none; unbindBehindTheSuite X.env n q) (fun _ s7 => Q s7) X.xe s6 := fun S6 go => gone_ok (S6.unsuite okX) hN hn.1 hn.2 go
            cases f2 with
            | ret u =>
              obtain ⟨v6, σ6, H6, S6, r6, q6⟩ := hsp
              exact gone S6 fun _ J7 => ⟨v6, _, H6, J7, r6, q6⟩
            | next => obtain ⟨σ6, H6, S6, q6⟩ := hsp; exact gone S6 fun _ J7 => ⟨_, H6, J7, q6⟩
            | brk => obtain ⟨σ6, H6, S6, q6⟩ := hsp; exact gone S6 fun _ J7 => ⟨_, H6, J7, q6⟩
            | cont => obtain ⟨σ6, H6, S6, q6⟩ := hsp; exact gone S6 fun _ J7 => ⟨_, H6, J7, q6⟩
    exact along hh wish
  · cases fl with
    | ret u =>
      obtain ⟨v, σ1, H1, J1, r, q⟩ := done
      exact ⟨v, σ1, H1, J1.ofTry okX, r, q⟩
    | next =>
      obtain ⟨σ1, H1, J1, q⟩ := done
      exact wpAny_execs_nil ⟨σ1, H1, J1.ofTry okX, q⟩
    | brk => exact done.imp fun σ1 z => z.imp fun H1 z => ⟨z.1.ofTry okX, z.2⟩
    | cont => exact done.imp fun σ1 z => z.imp fun H1 z => ⟨z.1.ofTry okX, z.2⟩
end
end TA
/-! classes of errors with an `__init__` of one parameter: what the top's end must say, how such an error is raised -/
namespace L2.TB
open PySem PySem.Spec PyProof.Rows
/-- the class at C: an error over ValueError whose own bases are classes -/
def ownB (K : PySem.W.Frag) (C : Addr) : Bool := match K.lookup C with
  | some ⟨.type "type", _, .cls cd, sl⟩ => (match cd.mro, sl.toList with
    | .ref C' :: bm, [_, _, _, _, some (.builtin n), _] => C' == C && (n == "ValueError.__new__" && (!cd.hasDel && (cd.hasDict && PySem.HandSPX.refsVE bm)))
    | _, _ => false)
  | _ => false
theorem ownB_ok {K : PySem.W.Frag} {C : Addr} (h : ownB K C = true) :
    ∃ nm q N bs bm sn sub ab col dd k0 k1 k2 k3 k5, K.lookup C = some (excClassObj nm q C N bs bm true sn sub ab col dd k0 k1 k2 k3 k5 "ValueError.__new__") ∧ PySem.HandSPX.refsVE bm = true := by
  unfold ownB at h
  split at h
  · rename_i dd cd sl lk
    split at h
    · rename_i C' bm k0 k1 k2 k3 n k5 em es
      simp only [Bool.and_eq_true, beq_iff_eq, Bool.not_eq_true'] at h
      obtain ⟨rfl, rfl, hd, hh, hr⟩ := h
      obtain ⟨nm, bs, mro, ns, qn, hdc, sn, sub, ab, col, del⟩ := cd
      dsimp only at em hd hh
      subst em hd hh
      have e : sl = #[k0, k1, k2, k3, some (.builtin "ValueError.__new__"), k5] := by
        obtain ⟨l⟩ := sl
        simp only at es
        rw [es]
      subst e
      exact ⟨nm, qn, ns, bs, bm, sn, sub, ab, col, dd, k0, k1, k2, k3, k5, lk, hr⟩
    · cases h
  · cases h
def errB (K : PySem.W.Frag) (x f : Str) : Bool := ownB K (He.ga K x) &&
  (He.eqO (PySem.W.findIn K (.ref (He.ga K x)) "__setattr__") (some (some (.builtin "object.__setattr__"))) &&
  (decide (PySem.W.subIn K (.ref (He.ga K x)) (.type "BaseException") = some true) && (decide (PySem.W.typeIn K (.ref (He.ga K x)) = some (.type "type")) && (PySem.W.keepIn K (.ref (He.ga K x)) &&
  (He.eqO (PySem.W.findIn K (.ref (He.ga K x)) f) (some none) && (He.eqO (PySem.W.findIn K (.ref (He.ga K x)) "__init__") (some (some (.ref (He.ma K (He.ga K x) "__init__")))) &&
  (decide (PySem.W.typeIn K (.ref (He.ma K (He.ga K x) "__init__")) = some (.type "function")) && xfB K (He.ga K x))))))))
/-- a class of errors at C, its `__init__` at fI, its one field fld -/
structure ErrC (K : PySem.W.Frag) (C fI : Addr) (fld : Str) : Prop where
  o : OexC K C
  no : PySem.W.findIn K (.ref C) fld = some none
  ini : PySem.W.findIn K (.ref C) "__init__" = some (some (.ref fI))
  fn : PySem.W.typeIn K (.ref fI) = some (.type "function")
  xf : XfC K C
theorem errB_ok {K : PySem.W.Frag} {x f : Str} (h : errB K x f = true) : ErrC K (He.ga K x) (He.ma K (He.ga K x) "__init__") f := by
  obtain ⟨h1, h⟩ := He.ba h
  obtain ⟨h2, h⟩ := He.ba h
  obtain ⟨h3, h⟩ := He.ba h
  obtain ⟨h4, h⟩ := He.ba h
  obtain ⟨h5, h⟩ := He.ba h
  obtain ⟨h6, h⟩ := He.ba h
  obtain ⟨h7, h⟩ := He.ba h
  obtain ⟨h8, h9⟩ := He.ba h
  exact ⟨⟨ownB_ok h1, He.eqO_ok h2, of_decide_eq_true h3, of_decide_eq_true h4, h5⟩, He.eqO_ok h6, He.eqO_ok h7, of_decide_eq_true h8, xfB_ok h9⟩
/-- self.fld = it -/
def spErr (K : PySem.W.Frag) (fld : Str) : Sp := fun vs H Q _ => ∃ (a C : Addr) (v : V), vs = [.ref a, v] ∧ OexC K C ∧ PySem.W.findIn K (.ref C) fld = some none ∧ H a = some (exo a C none) ∧
  ∀ dx, H dx = none → dx ≠ a → Q .non (upd (upd H dx (exd dx [(fld, v)])) a (exo a C (some dx)))
section
variable {P : Program} {w : World} {K : PySem.W.Frag} {mg : Str → Option Value} {base : Heap} {f : Addr} {fd : FuncData}
theorem ok_errInit {q y fld : Str} {st : Stmt} {p0 p1 p2 p3 : Pos} (F : Fun K "__init__" q st f fd) (S : FnScope ["self", y] ["self", y] (defScope st)) (hb : defBody st = [.Assign [.Attribute (.Name "self" p0) fld p1] (.Name y p2) p3])
    (hv0 : Vis (defScope st) "self") (hv1 : Vis (defScope st) y) (hdy : (y == ("__debug__" : Str)) = false) (hcy : (y == ("__classdict__" : Str)) = false) : FnOk P w K mg base CX0 1 f fd ["self", y] (spErr K fld) := by
  refine F.ok S (fun vs H Q E h => by obtain ⟨a, C, v, e, _⟩ := h; rw [e]; rfl) fun cdv A outer s H vs Q E hr hsp => ?_
  obtain ⟨a, C, v, rfl, T, no, ha, hq⟩ := hsp
  rw [hb]
  refine ⟨_, pss_one (ps_ost (pe_var (i := 0) rfl hv0 (by decide) (by decide)) (pe_var (i := 1) rfl hv1 hdy hcy) rfl), ?_⟩
  exact ⟨_, rfl, _, rfl, a, C, rfl, T, no, .inl ⟨ha, hq⟩⟩
end
/-- x(e), to be raised -/
theorem pmk_err {X : Cx} {x fld : Str} {C fI : Addr} {fd : FuncData} {y : Str} {e : Expr} {te : TE} {p pos : Pos} (E : ErrC X.K C fI fld) (F : FnOk X.prog X.w X.K X.mg X.base CX0 1 fI fd ["self", y] (spErr X.K fld)) (hb : Binds X.K fd ["self", y] [])
    (hr : Room 2 X.A) (hg : Gl X x) (hm : X.mg x = some (.ref C)) (he : PE X e te) (hdb : (x == ("__debug__" : Str)) = false := by decide) (hs : starEach [e] X.env = (false, eval e X.env) :: starEach [] X.env := by rfl) :
    PMk X (.Call (.Name x p) [e] [] pos) (tMkO C (spErr X.K fld) [] (tCons te tNil)) := pmk_oex (x := x) (es := []) (ta := tCons te tNil) (ds := []) (dvs := []) E.o E.ini E.fn F hr hb .nil pass0 hg hm (pa_cons he pa_nil (hs := hs)) hdb hs rfl
/-- what must hold where x(v) flies: d is its dict -/
theorem mk_rs {K : PySem.W.Frag} {fld : Str} {C fI : Addr} {v : V} {H1 : Hp} {Q : XK} (E : ErrC K C fI fld) (h : ∀ d, H1 d = none → Q (.ref C) (some d) (upd H1 d (.xd [(fld, v)]))) :
    [v].length ≤ 1000 ∧ ∀ a, H1 a = none → spErr K fld (.ref a :: ([v] ++ [])) (upd H1 a (exo a C none))
      (fun v H2 => v = .non ∧ ∃ (d : Addr) (fs : List (Str × V)), H2 a = some (exo a C (some d)) ∧ H2 d = some (exd d fs) ∧ H1 d = none ∧ Q (.ref C) (some d) (upd (del H2 a) d (.xd fs))) (fun _ _ _ => False) := by
  refine ⟨by show 1 ≤ 1000; omega, fun a ha => ⟨a, C, v, rfl, E.o, E.no, upd_same, fun dx hdx ne => ⟨rfl, dx, _, upd_same, by rw [upd_ne ne, upd_same], ?_, ?_⟩⟩⟩
  · rw [upd_ne ne] at hdx; exact hdx
  · have n1 : H1 dx = none := by rw [upd_ne ne] at hdx; exact hdx
    have e : upd (del (upd (upd (upd H1 a (exo a C none)) dx (exd dx [(fld, v)])) a (exo a C (some dx))) a) dx (.xd [(fld, v)]) = upd H1 dx (.xd [(fld, v)]) := by
      funext b
      by_cases h1 : b = dx
      · subst h1; rw [upd_same, upd_same]
      · rw [upd_ne h1, upd_ne h1]
        by_cases h2 : b = a
        · subst h2; rw [del_same, ha]
        · rw [del_ne h2, upd_ne h2, upd_ne h1, upd_ne h2]
    rw [e]
    exact h dx n1
/-- an error of the class at C flies from here, v in its field -/
def Flies (C : Addr) (fld : Str) (v : V) (H : Hp) (E : XK) : Prop := ∀ d H', Same H H' → H d = none → H' d = some (.xd [(fld, v)]) → E (.ref C) (some d) H'
theorem Flies.same {C : Addr} {fld : Str} {v : V} {H H' : Hp} {E : XK} (h : Flies C fld v H E) (s : Same H H') : Flies C fld v H' E := fun d H2 s2 n e => h d H2 (s.trans s2) (by
  cases q : H d with
  | none => rfl
  | some o => rw [s _ _ q] at n; cases n) e
theorem Flies.mk {K : PySem.W.Frag} {fld : Str} {C fI : Addr} {v : V} {H1 : Hp} {Q : XK} (E : ErrC K C fI fld) (h : Flies C fld v H1 Q) :
    [v].length ≤ 1000 ∧ ∀ a, H1 a = none → spErr K fld (.ref a :: ([v] ++ [])) (upd H1 a (exo a C none))
      (fun v H2 => v = .non ∧ ∃ (d : Addr) (fs : List (Str × V)), H2 a = some (exo a C (some d)) ∧ H2 d = some (exd d fs) ∧ H1 d = none ∧ Q (.ref C) (some d) (upd (del H2 a) d (.xd fs))) (fun _ _ _ => False) :=
  mk_rs E fun d n => h d _ (fun b o e => by rw [upd_ne (ne_of_none e n)]; exact e) n upd_same
end L2.TB
namespace L2.TB
open PySem PySem.Spec PyProof.Rows
/-! ### what the top leaves, by addresses -/
def asK : List Nat := ([3, 6, 4, 21, 31, 51, 70, 89, 108, 127, 139, 158, 177, 196, 205, 212, 219, 226, 231, 238, 243, 250, 257, 264, 269, 276, 283, 290, 297, 302, 309, 314, 319, 326, 333, 338, 345, 350, 355, 360] : List Nat) ++
  ([365, 372, 379, 384, 594, 603, 608, 613, 618, 625, 630, 637, 644, 651, 656, 661, 666, 671, 678, 685, 690, 697, 702, 709, 714, 719, 724, 20, 30, 50, 69, 88, 107, 126, 138, 157, 176, 195, 204, 211] : List Nat) ++
  ([218, 225, 230, 237, 242, 249, 256, 263, 268, 275, 282, 289, 296, 301, 308, 313, 318, 325, 332, 337, 344, 349, 354, 359, 364, 371, 378, 383, 593, 602, 607, 612, 617, 624, 629, 636, 643, 650, 655, 660] : List Nat) ++
  ([665, 670, 677, 684, 689, 696, 701, 708, 713, 718, 723, 15, 16, 17, 18, 19, 29, 32, 48, 49, 67, 68, 86, 87, 105, 106, 124, 125, 137, 155, 156, 174, 175, 193, 194, 199, 200, 201, 202, 203] : List Nat) ++
  ([206, 207, 208, 209, 210, 213, 214, 215, 216, 217, 220, 221, 222, 223, 224, 227, 228, 229, 232, 233, 234, 235, 236, 239, 240, 241, 244, 245, 246, 247, 248, 251, 252, 253, 254, 255, 258, 259, 260, 261] : List Nat) ++
  ([262, 265, 266, 267, 270, 271, 272, 273, 274, 277, 278, 279, 280, 281, 284, 285, 286, 287, 288, 291, 292, 293, 294, 295, 298, 299, 300, 303, 304, 305, 306, 307, 310, 311, 312, 315, 316, 317, 320, 321] : List Nat) ++
  ([322, 323, 324, 327, 328, 329, 330, 331, 334, 335, 336, 339, 340, 341, 342, 343, 346, 347, 348, 351, 352, 353, 356, 357, 358, 361, 362, 363, 366, 367, 368, 369, 370, 373, 374, 375, 376, 377, 380, 381] : List Nat) ++
  ([382, 396, 403, 410, 417, 424, 431, 438, 443, 450, 457, 464, 469, 476, 483, 490, 497, 504, 511, 518, 525, 532, 539, 546, 553, 558, 563, 570, 577, 584, 591, 592, 595, 596, 599, 600, 601, 604, 605, 606] : List Nat) ++
  ([609, 610, 611, 614, 615, 616, 619, 620, 621, 622, 623, 626, 627, 628, 631, 632, 633, 634, 635, 638, 639, 640, 641, 642, 645, 646, 647, 648, 649, 652, 653, 654, 657, 658, 659, 662, 663, 664, 667, 668] : List Nat) ++
  ([669, 672, 673, 674, 675, 676, 679, 680, 681, 682, 683, 686, 687, 688, 691, 692, 693, 694, 695, 698, 699, 700, 703, 704, 705, 706, 707, 710, 711, 712, 715, 716, 717, 720, 721, 722, 47, 66, 85, 104] : List Nat) ++
  ([123, 154, 173, 192, 395, 402, 409, 416, 423, 430, 437, 442, 449, 456, 463, 468, 475, 482, 489, 496, 503, 510, 517, 524, 531, 538, 545, 552, 557, 562, 569, 576, 583, 590, 42, 43, 44, 45, 46, 61] : List Nat) ++
  ([62, 63, 64, 65, 80, 81, 82, 83, 84, 99, 100, 101, 102, 103, 118, 119, 120, 121, 122, 149, 150, 151, 152, 153, 168, 169, 170, 171, 172, 187, 188, 189, 190, 191, 392, 393, 394, 397, 398, 399] : List Nat) ++
  ([400, 401, 404, 405, 406, 407, 408, 411, 412, 413, 414, 415, 418, 419, 420, 421, 422, 425, 426, 427, 428, 429, 432, 433, 434, 435, 436, 439, 440, 441, 444, 445, 446, 447, 448, 451, 452, 453, 454, 455] : List Nat) ++
  ([458, 459, 460, 461, 462, 465, 466, 467, 470, 471, 472, 473, 474, 477, 478, 479, 480, 481, 484, 485, 486, 487, 488, 491, 492, 493, 494, 495, 498, 499, 500, 501, 502, 505, 506, 507, 508, 509, 512, 513] : List Nat) ++
  ([514, 515, 516, 519, 520, 521, 522, 523, 526, 527, 528, 529, 530, 533, 534, 535, 536, 537, 540, 541, 542, 543, 544, 547, 548, 549, 550, 551, 554, 555, 556, 559, 560, 561, 564, 565, 566, 567, 568, 571] : List Nat) ++
  ([572, 573, 574, 575, 578, 579, 580, 581, 582, 585, 586, 587, 588, 589] : List Nat)
def dd (p : Str × Option Str) (x q : Str) (st : Stmt) (dv : List He.Dv) : He.DefD := { at_ := p, name := x, qual := q, params := defArgs st, body := defBody st, scope := defScope st, dfl := dv }
def fnT : List He.DefD := ([dd ("_law_start", none) "_law_start" "_law_start" sStart [], dd ("_law_draw", none) "_law_draw" "_law_draw" sDraw [], dd ("_law_pick", none) "_law_pick" "_law_pick" sPick [], dd ("_law_mixed", none) "_law_mixed" "_law_mixed" sMixed [], dd ("_law_same", none) "_law_same" "_law_same" sSame [], dd ("_law_name", none) "_law_name" "_law_name" sNameL [], dd ("_law_names", none) "_law_names" "_law_names" sNamesL [], dd ("_law_m_reader", none) "_law_m_reader" "_law_m_reader" sReaderL []] : List He.DefD) ++
  ([dd ("_law_m_told", none) "_law_m_told" "_law_m_told" sToldL [], dd ("_law_m_word", none) "_law_m_word" "_law_m_word" sWordL [], dd ("_law_handed", none) "_law_handed" "_law_handed" sHanded [], dd ("_law_spoil", none) "_law_spoil" "_law_spoil" sSpoil [], dd ("_law_others", none) "_law_others" "_law_others" sOthers [], dd ("_law_with", none) "_law_with" "_law_with" sWith [], dd ("_law_in_order", none) "_law_in_order" "_law_in_order" sInOrder [], dd ("_law_turned", none) "_law_turned" "_law_turned" sTurned []] : List He.DefD) ++
  ([dd ("_law_tells", none) "_law_tells" "_law_tells" sTells [], dd ("_law_part", none) "_law_part" "_law_part" sPart [], dd ("law", none) "law" "law" sLaw [], dd ("is_integer", none) "is_integer" "is_integer" sIsInt [], dd ("is_count", none) "is_count" "is_count" sIsCount [], dd ("is_list", none) "is_list" "is_list" sIsList [], dd ("is_pair", none) "is_pair" "is_pair" sIsPair [], dd ("is_name", none) "is_name" "is_name" sIsName []] : List He.DefD) ++
  ([dd ("is_one_of", none) "is_one_of" "is_one_of" sIsOne [], dd ("is_string_of", none) "is_string_of" "is_string_of" sIsStr [], dd ("is_word", none) "is_word" "is_word" sIsWord [], dd ("are_letters", none) "are_letters" "are_letters" sAreLet [], dd ("is_digit", none) "is_digit" "is_digit" sIsDigit [], dd ("has_just", none) "has_just" "has_just" sHasJust [], dd ("first_bad", none) "first_bad" "first_bad" sFirst [], dd ("check_known", none) "check_known" "check_known" sCkK []] : List He.DefD) ++
  ([dd ("check_asked", none) "check_asked" "check_asked" sCkA [], dd ("check_both", none) "check_both" "check_both" sCkB [], dd ("check_letters", none) "check_letters" "check_letters" sCkLet [], dd ("joint_of", none) "joint_of" "joint_of" sJoint [], dd ("told_along", none) "told_along" "told_along" sAlong [], dd ("_is_reader", none) "_is_reader" "_is_reader" sIsReader [], dd ("_own", none) "_own" "_own" sOwn [], dd ("Machines", some "__init__") "__init__" "Machines.__init__" sInit []] : List He.DefD) ++
  ([dd ("Machines", some "__eq__") "__eq__" "Machines.__eq__" sEqM [], dd ("Machines", some "__or__") "__or__" "Machines.__or__" sOr [], dd ("Machines", some "letters") "letters" "Machines.letters" sLetters [], dd ("Machines", some "reader") "reader" "Machines.reader" sReader [], dd ("Machines", some "questions") "questions" "Machines.questions" sQs [], dd ("Machines", some "home") "home" "Machines.home" sHome [], dd ("Machines", some "answers") "answers" "Machines.answers" sAnswers [], dd ("Machines", some "only") "only" "Machines.only" sOnly []] : List He.DefD) ++
  ([dd ("Machines", some "_joint") "_joint" "Machines._joint" sJointM [], dd ("Machines", some "_check_some") "_check_some" "Machines._check_some" sCkSome []] : List He.DefD)
def faT : List He.Fa := ([.glo "_law_start", .glo "_law_draw", .glo "_law_pick", .glo "_law_mixed", .glo "_law_same", .glo "_law_name", .glo "_law_names", .glo "_law_m_reader", .glo "_law_m_told", .glo "_law_m_word", .glo "_law_handed", .glo "_law_spoil", .glo "_law_others", .glo "_law_with", .glo "_law_in_order", .glo "_law_turned"] : List He.Fa) ++
  ([.glo "_law_tells", .glo "_law_part", .glo "law", .glo "is_integer", .glo "is_count", .glo "is_list", .glo "is_pair", .glo "is_name", .glo "is_one_of", .glo "is_string_of", .glo "is_word", .glo "are_letters", .glo "is_digit", .glo "has_just", .glo "first_bad", .glo "check_known"] : List He.Fa) ++
  ([.glo "check_asked", .glo "check_both", .glo "check_letters", .glo "joint_of", .glo "told_along", .glo "_is_reader", .glo "_own", .glo "Machines", .free "list", .free "len", .free "int", .free "str", .free "range", .free "dict", .free "tuple", .free "bool"] : List He.Fa) ++
  ([.free "isinstance", .free "all", .free "any", .free "enumerate", .free "zip", .free "set", .int "LONGEST" 40, .int "MOST_LETTERS" 3, .int "MOST_STATES" 6, .str "SIGNS" "abcdefghijklmnopqrstuvwxyz0123456789.", .str "SMALL_LETTERS" "abcdefghijklmnopqrstuvwxyz", .cls "Machines", .noat "Machines" "_letters", .noat "Machines" "_readers", .meth "Machines" "__eq__", .meth "Machines" "__or__"] : List He.Fa) ++
  ([.meth "Machines" "letters", .meth "Machines" "reader", .meth "Machines" "questions", .meth "Machines" "home", .meth "Machines" "answers", .meth "Machines" "only", .meth "Machines" "_joint", .meth "Machines" "_check_some", .meth "Machines" "__init__", .mkr "Machines"] : List He.Fa)
/-- the defs that hold a def, a lambda -/
def tfT : List He.Defn := []
/-- the classes of errors, each with its field -/
def erT : List (Str × Str) := []
/-- of the class besides -/
def clsB (K : PySem.W.Frag) (C : Addr) : Bool := He.eqO (PySem.W.findIn K (.ref C) "__class__") (some (some (.builtin "object.__class__"))) && (He.eqO (PySem.W.specialIn K (.builtin "object.__class__") "__get__") (some (some (.builtin "getset_descriptor.__get__"))) &&
  (decide (PySem.W.takesIn K (.builtin "object.__class__") = some true) && decide (PySem.W.mroIn K C (.type "object") = some true)))
def farB (K : PySem.W.Frag) (C : Addr) (t : Value) : Bool := PySem.W.notFirst K C t && decide (PySem.W.kitOne K t (.ref C) = some false)
def ownQ (K : PySem.W.Frag) (C : Addr) : Bool := PySem.W.selfFirst K C && (clsB K C) && (He.eqO (PySem.W.findIn K (.ref C) "__ne__") (some (some (.builtin "object.__ne__"))) && (["NoneType", "int", "dict", "str"].all fun t => farB K C (.type t)))
def moreT (K : PySem.W.Frag) : Bool := ownQ K (He.ga K "Machines")
def csL (K : PySem.W.Frag) : List (Addr × Addr) := tfT.map (He.cT K)
def diffT (K : PySem.W.Frag) : Bool := decide ((tfT.map fun p => (He.cT K p).2).Nodup) && ((erT.all fun p => errB K p.1 p.2) && moreT K)
def obsK (g : Addr → Option Obj) : He.AlD × Bool := (He.obsD faT fnT (He.frT g asK), diffT (He.frT g asK) && He.tabsB g tfT (He.frT g asK))
structure SaysK (h : Heap) (K : PySem.W.Frag) : Prop where
  d : He.SaysD faT fnT K
  np : (tfT.map fun p => (He.cT K p).2).Nodup
  er : ∀ p ∈ erT, errB K p.1 p.2 = true
  mo : moreT K = true
  hd : ∀ p ∈ tfT, PySem.W.codeHdIn K (He.cT K p).1 (He.cT K p).2 = true
  out : ∀ p ∈ tfT, K.lookup (He.cT K p).2 = none
  empty : ∀ p ∈ tfT, h.get? (He.cT K p).2 = some { cls := .none, data := .fields #[] }
theorem saysK_of {h : Heap} (e : obsK h.get? = (He.valD fnT, true)) : SaysK h (He.frT h.get? asK) := by
  have e1 : He.obsD faT fnT (He.frT h.get? asK) = He.valD fnT := congrArg (fun z : He.AlD × Bool => z.1) e
  have e2 : (diffT (He.frT h.get? asK) && He.tabsB h.get? tfT (He.frT h.get? asK)) = true := congrArg (fun z : He.AlD × Bool => z.2) e
  obtain ⟨h1, h2⟩ := He.ba e2
  have key : ∀ p ∈ tfT, PySem.W.codeHdIn (He.frT h.get? asK) (He.cT (He.frT h.get? asK) p).1 (He.cT (He.frT h.get? asK) p).2 = true ∧ ∃ o, h.get? (He.cT (He.frT h.get? asK) p).2 = some o ∧ He.emptyTab o = true := fun p hp => by
    obtain ⟨h3, h4⟩ := He.ba (List.all_eq_true.mp h2 p hp)
    refine ⟨h3, ?_⟩
    cases q : h.get? (He.cT (He.frT h.get? asK) p).2 with
    | none => rw [q] at h4; cases h4
    | some o => rw [q] at h4; exact ⟨o, rfl, h4⟩
  obtain ⟨h5, h6⟩ := He.ba h1
  obtain ⟨h6, h7⟩ := He.ba h6
  exact ⟨e1, of_decide_eq_true h5, fun p hp => List.all_eq_true.mp h6 p hp, h7, fun p hp => (key p hp).1, (fun p hp => by
    obtain ⟨_, o, q, z⟩ := key p hp
    exact He.frT_none q z), (fun p hp => by
    obtain ⟨_, o, q, z⟩ := key p hp
    rw [q, He.emptyTab_eq z])⟩
section
variable {h : Heap} {K : PySem.W.Frag}
theorem SaysK.hdC (c : SaysK h K) {p : Addr × Addr} (hp : p ∈ csL K) : PySem.W.codeHdIn K p.1 p.2 = true := by
  obtain ⟨q, hq, e⟩ := List.mem_map.mp hp
  rw [← e]
  exact c.hd q hq
theorem SaysK.outC (c : SaysK h K) {p : Addr × Addr} (hp : p ∈ csL K) : K.lookup p.2 = none := by
  obtain ⟨q, hq, e⟩ := List.mem_map.mp hp
  rw [← e]
  exact c.out q hq
theorem SaysK.emptyC (c : SaysK h K) {p : Addr × Addr} (hp : p ∈ csL K) : h.get? p.2 = some { cls := .none, data := .fields #[] } := by
  obtain ⟨q, hq, e⟩ := List.mem_map.mp hp
  rw [← e]
  exact c.empty q hq
end
def hookK : PySem.W.Hook where
  α := He.AlD × Bool
  obs := fun s => obsK s.heap.get?
  val := fun _ => (He.valD fnT, true)
  says := fun _ h => ∃ K : PySem.W.Frag, K.In h ∧ SaysK h K
  of := fun _ _ e => ⟨_, He.frT_in, saysK_of e⟩
  keeps := fun _ _ _ ⟨K, hK, c⟩ k => ⟨K, PySem.W.Frag.In.keeps hK k, ⟨c.d, c.np, c.er, c.mo, c.hd, c.out, fun p hp => k _ _ (c.empty p hp)⟩⟩
def obT (s : PySem.W.SharedT) : He.AlD × Bool := obsK (HandSHeadRun.getT s)
theorem obT_eq (s : PySem.W.SharedT) : obT s = hookK.obs s.abs := by
  have e : HandSHeadRun.getT s = s.abs.heap.get? := funext fun a => HandSHeadRun.getT_eq s a
  unfold obT
  rw [e] <;> rfl
namespace HdR
open PySem PySem.W PySem.Calls PyProof.Rows
abbrev R : OpenRow := OpenLaw.row PySem.Challenge.rw_twoworlds_k72_machines_made
abbrev qv : Program := view R.prog [77]
def names : List PySem.Str := (["_wall", "WorldError", "BadWorld", "BadKnown", "NoQuestion", "BadPlan", "BadAnswers", "UnlikeLetters", "BadLetters", "BadMachine", "TakenName", "is_integer", "is_count", "is_list", "is_pair", "is_name", "is_one_of", "is_string_of", "is_word", "are_letters", "is_digit", "has_just", "first_bad", "check_known", "check_asked", "check_both", "check_lacking", "check_letters", "plan_for", "is_plan_for"] : List PySem.Str) ++
  (["read_along", "_shifted", "_is_of_kind", "_is_step", "first_alike", "_firsts", "joint_of", "merged", "told_along", "can_part", "woven", "Machines", "_is_reader", "_own", "_check_digits", "_law_m_reader", "_law_m_told", "_law_m_word", "_law_start", "_law_draw", "_law_pick", "_law_mixed", "_law_same", "_law_name", "_law_names", "_law_handed", "_law_spoil", "_law_others", "_law_with", "_law_in_order"] : List PySem.Str) ++
  (["_law_turned", "_law_tells", "_law_part", "SMALL_LETTERS", "SIGNS", "DIGITS", "LONGEST", "MOST_LETTERS", "MOST_STATES"] : List PySem.Str)
set_option maxHeartbeats 0 in
theorem run (w : World) : HandSHeadRun.RunEq R qv L2.TB.hookK L2.TB.obT 16000 names w := by
  intro os
  kernel_rfl
end HdR
end L2.TB
namespace L2.TB
open PySem PySem.Spec PyProof.Rows
/-! ### the spring of draws -/
structure StrmAt (H : Hp) (l ls : Addr) (cs : List Int) (g k m N : Int) : Prop where
  o : H l = some (.lst [.ref ls, .int g, .int k, .int m])
  c : H ls = some (.lst (cs.map V.int))
  ne : ls ≠ l
  g0 : 0 ≤ g
  k0 : 0 ≤ k
  k1 : k ≤ N
  m0 : 0 ≤ m
  m1 : m < 2147483647
  sz : cs.length ≤ 100
def Strm (H : Hp) (l ls : Addr) (N : Int) : Prop := ∃ cs g k m, StrmAt H l ls cs g k m N
/-- all but the spring is as it was -/
def But (l ls : Addr) (H H' : Hp) : Prop := ∀ b o, b ≠ l → b ≠ ls → H b = some o → H' b = some o
theorem But.refl (l ls : Addr) (H : Hp) : But l ls H H := fun _ _ _ _ e => e
theorem But.trans {l ls : Addr} {H H1 H2 : Hp} (a : But l ls H H1) (b : But l ls H1 H2) : But l ls H H2 := fun c o h1 h2 e => b c o h1 h2 (a c o h1 h2 e)
theorem But.of {l ls : Addr} {H H' : Hp} (a : Same H H') : But l ls H H' := fun c o _ _ e => a c o e
theorem But.upd {l ls a : Addr} {H : Hp} {o : HO} (h : a = l ∨ a = ls) : But l ls H (upd H a o) := fun b u h1 h2 e => by
  have ne : b ≠ a := by rcases h with h | h <;> (subst h; assumption)
  rw [upd_ne ne]; exact e
theorem dp_ints {K : PySem.W.Frag} {H : Hp} : ∀ cs : List Int, DpAll K H (cs.map V.int) (cs.map PyData.int)
  | [] => .nil
  | c :: cs => .cons (.int c) (dp_ints cs)
def spDraw : Sp := fun vs H Q _ => ∃ (l ls : Addr) (many N : Int), vs = [.ref l, .int many] ∧ Strm H l ls N ∧ N ≤ 1000000 ∧ 0 < many ∧ many < 1000000000 ∧
  ∀ H' r, 0 ≤ r → r < many → Strm H' l ls (N + 1) → But l ls H H' → Q (.int r) H'
theorem scDraw : FnScope ["stream", "many", "cell", "digit", "mixed"] ["stream", "many"] (defScope sDraw) := ⟨rfl, rfl, rfl, by decide +kernel, rfl, by decide +kernel, by decide +kernel⟩
theorem pow_nn (a : Int) (h : 0 ≤ a) : 0 ≤ a ^ (Int.toNat 5) := Int.pow_nonneg h
theorem at0 {a b c d : V} : atI [a, b, c, d] 0 = some a := rfl
theorem at1 {a b c d : V} : atI [a, b, c, d] 1 = some b := rfl
theorem at2 {a b c d : V} : atI [a, b, c, d] 2 = some c := rfl
theorem at3 {a b c d : V} : atI [a, b, c, d] 3 = some d := rfl
theorem draw_end {A B C many : Int} (h : 0 < many) : 0 ≤ A % B % many ∧ A % B % many < many :=
  ⟨Int.emod_nonneg _ (by omega), Int.emod_lt_of_pos _ h⟩
section
variable {P : Program} {w : World} {K : PySem.W.Frag} {mg : Str → Option Value} {base : Heap} {f : Addr} {fd : FuncData}
theorem ok_draw (F : Fun K "_law_draw" "_law_draw" sDraw f fd) (gI : mg "int" = none) : FnOk P w K mg base CX0 1 f fd ["stream", "many"] spDraw := by
  refine F.ok scDraw (fun vs H Q E h => by obtain ⟨l, ls, many, N, e, _⟩ := h; rw [e]; rfl) fun cdv A outer s H vs Q E hr hsp => ?_
  obtain ⟨l, ls, many, N, rfl, ⟨cs, g, k, m, S⟩, hN, h0, h1, hq⟩ := hsp
  have nd := scDraw.nd
  have hu := hu_of hr
  have hu64 := hr.units
  obtain ⟨tl, ptl, htl⟩ : ∃ t, PSs (cxOf CX0 P w K mg base ["stream", "many", "cell", "digit", "mixed"] "_law_draw" (defScope sDraw) f cdv A outer s H E).nox ((defBody sDraw).drop 2) t ∧
      ∀ (H1 : Hp) (c : Option V) (cs : List Int) (g k m : Int), StrmAt H1 l ls cs g k m (N + 1) → But l ls H H1 →
        t { nx := fun _ H' => Q .non H', rt := Q } [some (.ref l), some (.int many), c, none, none] H1 := by
    refine ⟨_, pss_cons (ps_if (pt_cmpR op_gt (pe_ix ix_list (pv 0) pe_int (fun _ _ => rfl)) pe_int (nomark _))
      (pss_cons (ps_set (i := 3) nd rfl (Or.inl rfl) (pe_op op_mod (pe_callTy call_int1 rfl gI boot_int (pa_cons (pe_ix ix_list (pv 0) pe_int (fun _ _ => rfl)) pa_nil)) (pv 1)))
      (pss_cons (ps_asg (pe_op op_fdiv (pe_ix ix_list (pv 0) pe_int (fun _ _ => rfl)) (pv 1)) (pg_sub (pv 0) pe_int set_list))
      (pss_one (ps_ret (pv 3)))))
      pss_nil)
    (pss_cons (ps_set (i := 4) nd rfl (Or.inl rfl) (pe_op op_mod (pe_callTy call_int1 rfl gI boot_int (pa_cons (pe_op op_pow (pe_op op_add (pe_op op_add (pe_ix ix_list (pv 0) pe_int (fun _ _ => rfl)) (pe_op op_mul pe_int (pe_ix ix_list (pv 0) pe_int (fun _ _ => rfl)))) pe_int) pe_int) pa_nil)) pe_int))
    (pss_one (ps_ret (pe_op op_mod (pe_op op_mod (pe_callTy call_int1 rfl gI boot_int (pa_cons (pe_op op_pow (pe_op op_add (pe_op op_add (pe_op op_mul (pv 4) pe_int) (pe_op op_mul pe_int (pe_ix ix_list (pv 0) pe_int (fun _ _ => rfl)))) pe_int) pe_int) pa_nil)) pe_int) (pv 1))))), fun H1 c cs g k m S hB => ?_⟩
    refine ⟨_, rfl, _, _, _, _, rfl, rfl, SqL.of S.o, at1, _, _, rfl, rfl, _, rfl, ite2 (fun e => ?_) (fun e => ?_)⟩
    · refine ⟨_, rfl, _, _, _, _, rfl, rfl, SqL.of S.o, at1, .inl ⟨_, rfl, ?_⟩⟩
      refine ⟨_, rfl, _, _, rfl, rfl, h0, ?_⟩
      refine ⟨_, rfl, _, _, _, _, rfl, rfl, SqL.of S.o, at1, _, rfl, _, _, rfl, rfl, ⟨h0, by omega⟩, ?_⟩
      refine ⟨_, rfl, _, _, _, _, rfl, rfl, S.o, rfl, ?_⟩
      refine ⟨_, rfl, ?_⟩
      refine hq _ _ (Int.emod_nonneg _ (by omega)) (Int.emod_lt_of_pos _ h0) ⟨cs, g / many, k, m, ⟨upd_same, ?_, S.ne, Int.ediv_nonneg S.g0 (by omega), S.k0, S.k1, S.m0, S.m1, S.sz⟩⟩ (hB.trans (But.upd (.inl rfl)))
      rw [upd_ne S.ne]; exact S.c
    · have hk := S.k1
      have hk0 := S.k0
      have hm := S.m0
      have hm1 := S.m1
      refine ⟨_, rfl, _, _, _, _, rfl, rfl, SqL.of S.o, at3, _, rfl, _, _, _, _, rfl, rfl, SqL.of S.o, at2, _, _, rfl, rfl, .inl ⟨by decide, by decide⟩, _, _, rfl, rfl, _, _, rfl, rfl, _, _, rfl, rfl, ⟨by decide, by decide, ?_⟩, ?_⟩
      · omega
      refine .inl ⟨_, rfl, _, _, rfl, rfl, (by show (0 : Int) < 2147483629; decide), ?_⟩
      have e1 := Int.emod_nonneg ((m + 7919 * k + 104729) ^ Int.toNat 5) (show (2147483629 : Int) ≠ 0 by decide)
      have e2 := Int.emod_lt_of_pos ((m + 7919 * k + 104729) ^ Int.toNat 5) (show (0 : Int) < 2147483629 by decide)
      generalize (m + 7919 * k + 104729) ^ Int.toNat 5 % 2147483629 = z at e1 e2 ⊢
      refine ⟨_, rfl, _, _, rfl, rfl, .inr ⟨by decide, by decide⟩, _, rfl, _, _, _, _, rfl, rfl, SqL.of S.o, at2, _, _, rfl, rfl, .inl ⟨by decide, by decide⟩, _, _, rfl, rfl, _, _, rfl, rfl, _, _, rfl, rfl, ⟨by decide, by decide, ?_⟩, ?_⟩
      · omega
      refine .inl ⟨_, rfl, _, _, rfl, rfl, (by show (0 : Int) < 1000000007; decide), _, rfl, _, _, rfl, rfl, h0, ?_⟩
      exact hq _ _ (Int.emod_nonneg _ (by omega)) (Int.emod_lt_of_pos _ h0) ⟨cs, g, k, m, S⟩ hB
  refine ⟨_, pss_cons (ps_asg (pe_op op_add (pe_ix ix_list (pv 0) pe_int (fun _ _ => rfl)) pe_int) (pg_sub (pv 0) pe_int set_list))
    (pss_cons (ps_if (PW.pt (pw_and (pt_cmpR op_eq (pe_ix ix_list (pv 0) pe_int (fun _ _ => rfl)) pe_int (nomark _))
        (pw_and1 (pt_cmpR (op_neD hu64) (pe_ix ix_list (pv 0) pe_int (fun _ _ => rfl)) (pe_lst pa_nil) (nomark _)))))
      (pss_cons (ps_set (i := 2) nd rfl (Or.inl rfl) (pe_bm PySem.F.plainAttrs_list PySem.F.slot_list_pop PySem.F.type_list_pop mt_popAt (pe_ix ix_list (pv 0) pe_int (fun _ _ => rfl)) (pa_cons pe_int pa_nil)))
      (pss_cons (ps_asg (pe_op op_mod (pe_callTy call_int1 rfl gI boot_int (pa_cons (pe_op op_add (pe_op op_add (pe_op op_mul (pe_ix ix_list (pv 0) pe_int (fun _ _ => rfl)) pe_int) (pv 2)) pe_int) pa_nil)) pe_int) (pg_sub (pv 0) pe_int set_list))
      (pss_one (ps_asg (pe_ifExp (pt_cmpR op_ge (pv 2) (pe_op op_pow pe_int pe_int) (nomark _)) (pv 2) pe_int) (pg_sub (pv 0) pe_int set_list)))))
      pss_nil) ptl), ?_⟩
  refine ⟨_, rfl, _, _, _, _, rfl, rfl, SqL.of S.o, at2, _, _, rfl, rfl, _, rfl, _, _, _, _, rfl, rfl, S.o, rfl, ?_⟩
  have S1 : StrmAt (upd H l (.lst [.ref ls, .int g, .int (k + 1), .int m])) l ls cs g (k + 1) m (N + 1) :=
    ⟨upd_same, by rw [upd_ne S.ne]; exact S.c, S.ne, S.g0, by have := S.k0; omega, by have := S.k1; omega, S.m0, S.m1, S.sz⟩
  have B1 : But l ls H (upd H l (.lst [.ref ls, .int g, .int (k + 1), .int m])) := But.upd (.inl rfl)
  refine ⟨_, rfl, _, _, _, _, rfl, rfl, SqL.of S1.o, at1, rfl, _, rfl, ite2 (fun e => ?_) (fun e => ?_)⟩
  · refine ⟨_, rfl, _, _, _, _, rfl, rfl, SqL.of S1.o, at0, Nat.zero_le _, fun q nq => ?_⟩
    have ql : q ≠ l := by
      intro z; rw [z, upd_same] at nq; cases nq
    have qs : q ≠ ls := by
      intro z; rw [z, upd_ne S.ne] at nq; rw [S.c] at nq; cases nq
    have S2 : StrmAt (upd (upd H l (.lst [.ref ls, .int g, .int (k + 1), .int m])) q (.lst [])) l ls cs g (k + 1) m (N + 1) :=
      ⟨by rw [upd_ne (Ne.symm ql)]; exact S1.o, by rw [upd_ne (Ne.symm qs)]; exact S1.c, S.ne, S1.g0, S1.k0, S1.k1, S1.m0, S1.m1, S1.sz⟩
    have B2 : But l ls H (upd (upd H l (.lst [.ref ls, .int g, .int (k + 1), .int m])) q (.lst [])) := B1.trans (But.of fun b o eb => by
      rw [upd_ne (ne_of_none eb nq)]; exact eb)
    refine ⟨.list (cs.map .int), .list [], .lst (SqL.of S2.c) (dp_ints cs), .lst (SqL.of upd_same) .nil, PySem.W.shaped_ints cs, by decide, ?_⟩
    cases cs with
    | nil =>
      refine ⟨_, rfl, iteF ?_⟩
      exact htl _ none [] g (k + 1) m S2 B2
    | cons c cs =>
      refine ⟨_, rfl, iteT ?_⟩
      refine ⟨_, rfl, _, _, _, _, rfl, rfl, SqL.of S2.o, at0, .inl ⟨rfl, _, SqL.of S2.c⟩, ?_⟩
      have ix0 : ixN ((c :: cs).map V.int).length 0 = some 0 := by
        simp [ixN]
      refine ⟨ls, _, 0, 0, .int c, rfl, rfl, S2.c, by decide, by decide, (ixN_seq ix0).1, rfl, ?_⟩
      have S3 : StrmAt (upd (upd (upd H l (.lst [.ref ls, .int g, .int (k + 1), .int m])) q (.lst [])) ls (.lst (cs.map V.int))) l ls cs g (k + 1) m (N + 1) :=
        ⟨by rw [upd_ne (Ne.symm S.ne)]; exact S2.o, upd_same, S.ne, S2.g0, S2.k0, S2.k1, S2.m0, S2.m1, by have := S2.sz; simp only [List.length_cons] at this; omega⟩
      have B3 := B2.trans (But.upd (l := l) (ls := ls) (a := ls) (H := upd (upd H l (.lst [.ref ls, .int g, .int (k + 1), .int m])) q (.lst [])) (o := .lst (cs.map V.int)) (.inr rfl))
      have hm0 := S.m0
      have hm1 := S.m1
      refine ⟨_, rfl, _, _, _, _, rfl, rfl, SqL.of S3.o, at3, _, _, rfl, rfl, .inl ⟨by omega, by omega⟩, _, rfl, _, _, rfl, rfl, _, _, rfl, rfl, .inl ⟨_, rfl, _, _, rfl, rfl, (by show (0 : Int) < 2147483647; decide), ?_⟩⟩
      refine ⟨_, rfl, _, _, _, _, rfl, rfl, S3.o, rfl, ?_⟩
      have S4 : StrmAt (upd (upd (upd (upd H l (.lst [.ref ls, .int g, .int (k + 1), .int m])) q (.lst [])) ls (.lst (cs.map V.int))) l (.lst [.ref ls, .int g, .int (k + 1), .int ((m * 8191 + c + 3) % 2147483647)])) l ls cs g (k + 1) ((m * 8191 + c + 3) % 2147483647) (N + 1) :=
        ⟨upd_same, by rw [upd_ne S.ne]; exact S3.c, S.ne, S3.g0, S3.k0, S3.k1, Int.emod_nonneg _ (by decide), Int.emod_lt_of_pos _ (by decide), S3.sz⟩
      have B4 := B3.trans (But.upd (l := l) (ls := ls) (a := l) (o := .lst [.ref ls, .int g, .int (k + 1), .int ((m * 8191 + c + 3) % 2147483647)]) (.inl rfl))
      refine ⟨_, rfl, _, _, rfl, rfl, ⟨by decide, by decide, by decide⟩, _, _, rfl, rfl, _, rfl, ite2 (fun e4 => ?_) (fun e4 => ?_)⟩
      · refine ⟨_, rfl, _, rfl, _, _, _, _, rfl, rfl, S4.o, rfl, ?_⟩
        have hc : (0 : Int) ≤ c := by
          have z := of_decide_eq_true e4
          have z2 : (0 : Int) ≤ 10 ^ (Int.toNat 18) := Int.pow_nonneg (by decide)
          omega
        exact htl _ (some (.int c)) cs c (k + 1) ((m * 8191 + c + 3) % 2147483647)
          ⟨upd_same, by rw [upd_ne S.ne]; exact S4.c, S.ne, hc, S4.k0, S4.k1, S4.m0, S4.m1, S4.sz⟩ (B4.trans (But.upd (.inl rfl)))
      · refine ⟨_, rfl, _, _, _, _, rfl, rfl, S4.o, rfl, ?_⟩
        exact htl _ (some (.int c)) cs 0 (k + 1) ((m * 8191 + c + 3) % 2147483647)
          ⟨upd_same, by rw [upd_ne S.ne]; exact S4.c, S.ne, by decide, S4.k0, S4.k1, S4.m0, S4.m1, S4.sz⟩ (B4.trans (But.upd (.inl rfl)))
  · refine iteF ?_
    exact htl _ none cs g (k + 1) m S1 B1
def spStart (K : PySem.W.Frag) : Sp := fun vs H Q _ => ∃ (a : Addr) (ns : List Int), vs = [.ref a] ∧ SqL K H a (ns.map V.int) ∧ ns.length ≤ 100 ∧
  ∀ H' l ls, H l = none → Same H H' → Strm H' l ls 0 → H ls = none → Q (.ref l) H'
theorem scStart : FnScope ["script"] ["script"] (defScope sStart) := ⟨rfl, rfl, rfl, by decide +kernel, rfl, by decide +kernel, by decide +kernel⟩
theorem ok_start (F : Fun K "_law_start" "_law_start" sStart f fd) (gL : mg "list" = none) : FnOk P w K mg base CX0 1 f fd ["script"] (spStart K) := by
  refine F.ok scStart (fun vs H Q E h => by obtain ⟨a, ns, e, _⟩ := h; rw [e]; rfl) fun cdv A outer s H vs Q E hr hsp => ?_
  obtain ⟨a, ns, rfl, hS, hn, hq⟩ := hsp
  refine ⟨_, pss_one (ps_ret (pe_lst (pa_cons (pe_callTy call_list_of rfl gL (by decide +kernel) (pa_cons (pv 0) pa_nil)) (pa_cons pe_int (pa_cons pe_int (pa_cons pe_int pa_nil)))))), ?_⟩
  refine ⟨_, rfl, _, _, rfl, .inl hS, fun ls hls => ⟨by rw [sizeLine_eq]; show 4 ≤ _; omega, fun l hl => ?_⟩⟩
  have ne : ls ≠ l := by
    intro z; rw [← z, upd_same] at hl; cases hl
  have hl2 : H l = none := by rw [upd_ne (Ne.symm ne)] at hl; exact hl
  exact hq _ l ls hl2 (fun b o e => by rw [upd_ne (ne_of_none e hl2), upd_ne (ne_of_none e hls)]; exact e)
    ⟨ns, 0, 0, 11, ⟨upd_same, by rw [upd_ne ne, upd_same], ne, by decide, by decide, by decide, by decide, by decide, hn⟩⟩ hls
def spPick (K : PySem.W.Frag) : Sp := fun vs H Q _ => ∃ (l ls c : Addr) (xs : List V) (N : Int), vs = [.ref l, .ref c] ∧ Strm H l ls N ∧ N ≤ 1000000 ∧
  c ≠ l ∧ c ≠ ls ∧ H c = some (.lst xs) ∧ 0 < xs.length ∧ xs.length < 1000 ∧
  ∀ H' x, x ∈ xs → Strm H' l ls (N + 1) → But l ls H H' → Q x H'
theorem scPick : FnScope ["stream", "some"] ["stream", "some"] (defScope sPick) := ⟨rfl, rfl, rfl, by decide +kernel, rfl, by decide +kernel, by decide +kernel⟩
theorem ok_pick {fD : Addr} {fdD : FuncData} (F : Fun K "_law_pick" "_law_pick" sPick f fd) (FD : Fun K "_law_draw" "_law_draw" sDraw fD fdD)
    (gD : mg "_law_draw" = some (.ref fD)) (gI : mg "int" = none) (gN : mg "len" = none) : FnOk P w K mg base CX0 2 f fd ["stream", "some"] (spPick K) := by
  have G : FnOk P w K mg base CX0 1 fD fdD ["stream", "many"] spDraw := ok_draw FD gI
  have b := FD.binds (ps := ["stream", "many"]) fun _ _ _ _ _ _ us hl => match us, hl with | [_, _], _ => rfl
  refine F.ok scPick (fun vs H Q E h => by obtain ⟨l, ls, c, xs, N, e, _⟩ := h; rw [e]; rfl) fun cdv A outer s H vs Q E hr hsp => ?_
  obtain ⟨l, ls, c, xs, N, rfl, hS, hN, n1, n2, hc, h0, h1, hq⟩ := hsp
  refine ⟨_, pss_one (ps_ret (pe_ix ix_list (pv 1) (pe_call G hr rfl gD FD.kp b .nil pass0 (pa_cons (pv 0) (pa_cons (pe_callB call_len rfl gN boot_len (pa_cons (pv 1) pa_nil)) pa_nil))) (fun _ _ => rfl))), ?_⟩
  refine ⟨_, rfl, _, rfl, _, rfl, _, xs.length, rfl, .inl ⟨_, SqL.of hc, rfl⟩, ?_⟩
  refine ⟨l, ls, _, N, rfl, hS, hN, by omega, by omega, fun H' r r0 r1 S' B' => ?_⟩
  have hr2 : r.toNat < xs.length := by omega
  refine ⟨_, _, _, xs[r.toNat], rfl, rfl, SqL.of (B' c _ n1 n2 hc), ?_, hq H' _ (List.getElem_mem _) S' B'⟩
  have e : ((r.toNat : Nat) : Int) = r := by omega
  have z := atI_nat (xs := xs) (j := r.toNat) (v := xs[r.toNat]) (by simp)
  rw [e] at z
  exact z
end
end L2.TB
namespace L2.TB
open PySem PySem.Spec PyProof.Rows
theorem same_new {H : Hp} {p : Addr} {o : HO} (n : H p = none) : Same H (upd H p o) := fun c u z => by rw [upd_ne (ne_of_none z n)]; exact z
theorem Strm.same {H H' : Hp} {l ls : Addr} {N : Int} (h : Strm H l ls N) (s : Same H H') : Strm H' l ls N := by
  obtain ⟨cs, g, k, m, S⟩ := h
  exact ⟨cs, g, k, m, s _ _ S.o, s _ _ S.c, S.ne, S.g0, S.k0, S.k1, S.m0, S.m1, S.sz⟩
theorem Strm.some {H : Hp} {l ls : Addr} {N : Int} (h : Strm H l ls N) : (∃ o, H l = some o) ∧ ∃ o, H ls = some o := by
  obtain ⟨cs, g, k, m, S⟩ := h
  exact ⟨⟨_, S.o⟩, ⟨_, S.c⟩⟩
/-- what was not there is not the spring -/
theorem Strm.apart {H H' : Hp} {l ls p : Addr} {N : Int} (h : Strm H l ls N) (s : Same H H') (n : H' p = none) : p ≠ l ∧ p ≠ ls := by
  obtain ⟨⟨o, e⟩, ⟨o', e'⟩⟩ := h.some
  exact ⟨(fun z => by rw [z, s _ _ e] at n; cases n), (fun z => by rw [z, s _ _ e'] at n; cases n)⟩
def spPickS : Sp := fun vs H Q _ => ∃ (l ls : Addr) (x : Str) (N : Int), vs = [.ref l, .str x] ∧ Strm H l ls N ∧ N ≤ 1000000 ∧ 0 < x.cps.size ∧ x.cps.size < 1000 ∧
  ∀ H' c, c ∈ x.cps.toList → Strm H' l ls (N + 1) → But l ls H H' → Q (.str ⟨#[c]⟩) H'
/-- a mixed list: what was in it, in some order -/
def spMixed (K : PySem.W.Frag) : Sp := fun vs H Q _ => ∃ (l ls c : Addr) (xs : List V) (N : Int), vs = [.ref l, .ref c] ∧ Strm H l ls N ∧ N ≤ 900000 ∧ SqL K H c xs ∧ xs.length < 1000 ∧
  ∀ H' q ys, ys.Perm xs → H q = none → H' q = some (.lst ys) → Strm H' l ls (N + xs.length) → But l ls H H' → Q (.ref q) H'
theorem scMixed : FnScope ["stream", "some", "left", "k"] ["stream", "some"] (defScope sMixed) := ⟨rfl, rfl, rfl, by decide +kernel, rfl, by decide +kernel, by decide +kernel⟩
theorem pop_perm : ∀ (l : List V) (k : Nat) (y : V), l[k]? = some y → (y :: l.eraseIdx k).Perm l
  | [], k, y, h => by simp at h
  | a :: l, 0, y, h => by
    obtain rfl : a = y := by simpa using h
    exact List.Perm.refl _
  | a :: l, k + 1, y, h => by
    have z := pop_perm l k y (by simpa using h)
    exact (List.Perm.swap a y _).trans (z.cons a)
section
variable {P : Program} {w : World} {K : PySem.W.Frag} {mg : Str → Option Value} {base : Heap} {f fD fP fM : Addr} {fd fdD fdP fdM : FuncData}
theorem ok_pickS (F : Fun K "_law_pick" "_law_pick" sPick f fd) (FD : Fun K "_law_draw" "_law_draw" sDraw fD fdD)
    (gD : mg "_law_draw" = some (.ref fD)) (gI : mg "int" = none) (gN : mg "len" = none) : FnOk P w K mg base CX0 2 f fd ["stream", "some"] spPickS := by
  have G : FnOk P w K mg base CX0 1 fD fdD ["stream", "many"] spDraw := ok_draw FD gI
  have b := FD.binds (ps := ["stream", "many"]) fun _ _ _ _ _ _ us hl => match us, hl with | [_, _], _ => rfl
  refine F.ok scPick (fun vs H Q E h => by obtain ⟨l, ls, x, N, e, _⟩ := h; rw [e]; rfl) fun cdv A outer s H vs Q E hr hsp => ?_
  obtain ⟨l, ls, x, N, rfl, hS, hN, h0, h1, hq⟩ := hsp
  refine ⟨_, pss_one (ps_ret (pe_ix ix_str (pv 1) (pe_call G hr rfl gD FD.kp b .nil pass0 (pa_cons (pv 0) (pa_cons (pe_callB call_len rfl gN boot_len (pa_cons (pv 1) pa_nil)) pa_nil))) (fun _ _ => rfl))), ?_⟩
  have hz : x.length ≤ sizeLine := by rw [sizeLine_eq]; show x.cps.size ≤ _; omega
  have hl : ((x.length : Nat) : Int) = (x.cps.size : Int) := rfl
  refine ⟨_, rfl, _, rfl, _, rfl, _, x.length, rfl, ⟨hz, rfl⟩, ?_⟩
  refine ⟨l, ls, _, N, rfl, hS, hN, by omega, by omega, fun H' r r0 r1 S' B' => ?_⟩
  have hr2 : r.toNat < x.cps.toList.length := by rw [Array.length_toList]; omega
  refine ⟨x, r, x.cps.toList[r.toNat], rfl, rfl, hz, ?_, hq H' _ (List.getElem_mem _) S' B'⟩
  have e : ((r.toNat : Nat) : Int) = r := by omega
  have z := atI_nat (xs := x.cps.toList) (j := r.toNat) (v := x.cps.toList[r.toNat]) (by simp)
  rw [e] at z
  exact z
theorem ok_mixed (F : Fun K "_law_mixed" "_law_mixed" sMixed f fd) (FD : Fun K "_law_draw" "_law_draw" sDraw fD fdD)
    (gD : mg "_law_draw" = some (.ref fD)) (gI : mg "int" = none) (gN : mg "len" = none) (gL : mg "list" = none) (gR : mg "range" = none) : FnOk P w K mg base CX0 2 f fd ["stream", "some"] (spMixed K) := by
  have G : FnOk P w K mg base CX0 1 fD fdD ["stream", "many"] spDraw := ok_draw FD gI
  have b := FD.binds (ps := ["stream", "many"]) fun _ _ _ _ _ _ us hl => match us, hl with | [_, _], _ => rfl
  refine F.ok scMixed (fun vs H Q E h => by obtain ⟨l, ls, c, xs, N, e, _⟩ := h; rw [e]; rfl) fun cdv A outer s H vs Q E hr hsp => ?_
  obtain ⟨l, ls, c, xs, N, rfl, hS, hN, hc, h1, hq⟩ := hsp
  have nd := scMixed.nd
  refine ⟨_, pss_cons (ps_set (i := 2) nd rfl (Or.inr rfl) (pe_callTy call_list_of rfl gL (by decide +kernel) (pa_cons (pv 1) pa_nil)))
    (pss_one (ps_ret (pe_lc (own := [("k", 3)]) (tt := tYes) (te := tBM K "list" rPopAt (tVar 2) (tCons (tCall spDraw [] E0 (tCons (tVar 0) (tCons (tCB (rLen K) (tCons (tVar 2) tNil)) tNil))) tNil)) rfl nd (pi_range1 rfl gR (pa_cons (pe_callB call_len rfl gN boot_len (pa_cons (pv 2) pa_nil)) pa_nil)) (blkOk_by (N := ["stream", "some", "left", "k"]) (sc := defScope sMixed) (by decide +kernel))
      (fun _ _ _ _ _ => pg_name (i := 3) nd rfl (Or.inl rfl)) (fun _ _ _ _ _ => pts_nil)
      (fun _ _ _ _ _ => pe_bm PySem.F.plainAttrs_list PySem.F.slot_list_pop PySem.F.type_list_pop mt_popAt (pv 2) (pa_cons (pe_call G hr rfl gD FD.kp b .nil pass0 (pa_cons (pv 0) (pa_cons (pe_callB call_len rfl gN boot_len (pa_cons (pv 2) pa_nil)) pa_nil))) pa_nil))))), ?_⟩
  refine ⟨_, rfl, c, xs, rfl, .inl hc, fun p np => ?_⟩
  have kp := same_new (o := .lst xs) np
  have ap := hS.apart (Same.refl _) np
  refine ⟨_, rfl, .ref p, xs.length, rfl, .inl ⟨_, SqL.of upd_same, rfl⟩, _, rfl, by omega, by omega, fun q nq => ?_⟩
  have aq := hS.apart kp nq
  have pq : p ≠ q := fun z => by rw [← z, upd_same] at nq; cases nq
  have nq0 : H q = none := Same.free kp nq
  refine lc_range (n := xs.length) (fun i H' => ∃ done rest, H' q = some (.lst done) ∧ H' p = some (.lst rest) ∧ done.length = i ∧ (done ++ rest).Perm xs ∧ Strm H' l ls (N + i) ∧ But l ls H H')
    ⟨[], xs, upd_same, by rw [upd_ne pq]; exact upd_same, rfl, List.Perm.refl _, by simpa using ((hS.same kp).same (same_new nq)), But.of (kp.trans (same_new nq))⟩ ?_ ?_
  · rintro i H3 hi ⟨done, rest, oq, op, ln, pm, S3, B3⟩
    have hlen : done.length + rest.length = xs.length := by rw [← pm.length_eq, List.length_append]
    refine ⟨rfl, ?_⟩
    refine ⟨_, rfl, .inl ⟨rfl, _, SqL.of op⟩, _, rfl, _, rfl, .ref p, rest.length, rfl, .inl ⟨_, SqL.of op, rfl⟩, ?_⟩
    refine ⟨l, ls, _, _, rfl, S3, by omega, by omega, by omega, fun H4 r r0 r1 S4 B4 => ?_⟩
    have hr2 : r.toNat < rest.length := by omega
    have er : ((r.toNat : Nat) : Int) = r := by omega
    have ix0 : ixN rest.length r = some r.toNat := by
      unfold ixN
      rw [if_pos r0, if_pos r1]
    refine ⟨p, rest, r, r.toNat, rest[r.toNat], rfl, rfl, B4 _ _ ap.1 ap.2 op, by omega, by omega, (ixN_seq ix0).1, by simp, done, ?_, (by rw [sizeLine_eq]; omega), done ++ [rest[r.toNat]], rest.eraseIdx r.toNat, upd_same, ?_, by simp [ln], ?_, ?_, ?_⟩
    · rw [upd_ne (Ne.symm pq)]; exact B4 _ _ aq.1 aq.2 oq
    · rw [upd_ne pq, upd_same]
    · have z := pop_perm rest r.toNat rest[r.toNat] (by simp)
      rw [List.append_assoc]
      exact (List.Perm.append_left done z).trans pm
    · obtain ⟨cs, g, k, m, S⟩ := S4
      have e1 : N + ((i + 1 : Nat) : Int) = N + (i : Int) + 1 := by omega
      rw [e1]
      exact ⟨cs, g, k, m, by rw [upd_ne (Ne.symm aq.1), upd_ne (Ne.symm ap.1)]; exact S.o, by rw [upd_ne (Ne.symm aq.2), upd_ne (Ne.symm ap.2)]; exact S.c, S.ne, S.g0, S.k0, S.k1, S.m0, S.m1, S.sz⟩
    · intro b o h1 h2 e
      have nb : b ≠ q := ne_of_none e nq0
      have nb2 : b ≠ p := ne_of_none e np
      rw [upd_ne nb, upd_ne nb2]
      exact B4 _ _ h1 h2 (B3 _ _ h1 h2 e)
  · rintro H3 ⟨done, rest, oq, op, ln, pm, S3, B3⟩
    have hlen : done.length + rest.length = xs.length := by rw [← pm.length_eq, List.length_append]
    have er : rest = [] := List.eq_nil_of_length_eq_zero (by omega)
    subst er
    rw [List.append_nil] at pm
    exact hq H3 q done pm nq0 oq S3 B3
end
end L2.TB
namespace L2.TB
open PySem PySem.Spec PyProof.Rows
theorem Strm.mono {H : Hp} {l ls : Addr} {N M : Int} (h : Strm H l ls N) (le : N ≤ M) : Strm H l ls M := by
  obtain ⟨cs, g, k, m, S⟩ := h
  exact ⟨cs, g, k, m, S.o, S.c, S.ne, S.g0, S.k0, by have := S.k1; omega, S.m0, S.m1, S.sz⟩
end L2.TB
namespace L2.TB
open PySem PySem.Spec PyProof.Rows
def signsL : List Nat := (Str.ofString "abcdefghijklmnopqrstuvwxyz0123456789.").cps.toList
/-- a name that is_name lets pass -/
def NmOk (x : Str) : Prop := 1 ≤ x.cps.toList.length ∧ x.cps.toList.length ≤ 40 ∧ ∀ c ∈ x.cps.toList, c ∈ signsL
def wordL : List Nat := (Str.ofString "abcdefghijklmnopqrstuvwxyz").cps.toList
def letL : List Nat := (Str.ofString "abcdefghijklmnop").cps.toList
/-- a name as the law draws it -/
def NmS (x : Str) : Prop := NmOk x ∧ x.cps.toList.length ≤ 8 ∧ ∀ c ∈ x.cps.toList, c ∈ wordL
theorem word_sub : ∀ c ∈ wordL, c ∈ signsL := by decide +kernel
theorem let_sub : ∀ c ∈ letL, c ∈ signsL := by decide +kernel
theorem join_flat : ∀ cs : List Nat, TL.joinL [] (cs.map fun c => [c]) = cs
  | [] => rfl
  | [c] => rfl
  | c :: d :: r => by
    show [c] ++ ([] ++ TL.joinL [] ((d :: r).map fun c => [c])) = _
    rw [join_flat (d :: r)]; rfl
theorem join_cps (cs : List Nat) : (Txt.join (Str.ofString "") (cs.map fun c => (⟨#[c]⟩ : Str))).cps.toList = cs := by
  rw [TL.join_eq]
  have e := TL.tl_join (Str.ofString "") (cs.map fun c => (⟨#[c]⟩ : Str))
  have e2 : (cs.map fun c => (⟨#[c]⟩ : Str)).map TL.tl = cs.map fun c => [c] := by rw [List.map_map]; rfl
  have e3 : TL.tl (Str.ofString "") = [] := by decide +kernel
  rw [e2, e3, join_flat] at e
  exact e
/-- the spare names: a letter, j and q -/
def spare (c : Nat) : Str := (⟨#[c]⟩ : Str) ++ Str.ofString "jq"
theorem spare_ok : ∀ c ∈ letL, NmS (spare c) := by
  unfold NmS NmOk
  decide +kernel
theorem spare_nd : (letL.map spare).Nodup := by decide +kernel
theorem str_inj (a b : Str) : eqV (.str a) (.str b) = decide (a = b) := by
  show (a == b) = _
  by_cases h : a = b
  · subst h; simp
  · rw [decide_eq_false h]; simpa using h
theorem inV_strs (x : Str) : ∀ xs : List Str, inV (.str x) (xs.map V.str) = decide (x ∈ xs)
  | [] => by simp [inV]
  | a :: xs => by
    have e := inV_strs x xs
    unfold inV at e ⊢
    rw [List.map_cons, List.any_cons, e, str_inj]
    by_cases h : a = x
    · subst h; simp
    · by_cases h2 : x ∈ xs
      · simp [h2]
      · simp [h, h2, Ne.symm h]
theorem flat_strs (xs : List Str) : (xs.map V.str).all flatV = true := by
  rw [List.all_map]; exact List.all_eq_true.mpr fun _ _ => rfl
/-- some spare name is not among the found ones -/
theorem spare_left (w : Str) (found : List Str) (h : found.length < 16) : ((w :: letL.map spare).filter fun x => decide (x ∉ found)) ≠ [] := by
  intro e
  have sub : ∀ x ∈ letL.map spare, x ∈ found := fun x hx => by
    by_cases h2 : x ∈ found
    · exact h2
    · have z : x ∈ (w :: letL.map spare).filter fun x => decide (x ∉ found) := List.mem_filter.mpr ⟨List.mem_cons_of_mem _ hx, by simp [h2]⟩
      rw [e] at z; cases z
  have le := List.Nodup.length_le_of_subset spare_nd (fun x hx => sub x hx)
  have e26 : (letL.map spare).length = 16 := by decide +kernel
  omega
def spNameL : Sp := fun vs H Q _ => ∃ (l ls : Addr) (N : Int), vs = [.ref l] ∧ Strm H l ls N ∧ N ≤ 990000 ∧ ∀ H' x, NmS x → Strm H' l ls (N + 9) → But l ls H H' → Q (.str x) H'
abbrev NNm : List Str := ["stream", "width", "k"]
theorem scNameL : FnScope NNm ["stream"] (defScope sNameL) := ⟨rfl, rfl, rfl, by decide +kernel, rfl, by decide +kernel, by decide +kernel⟩
theorem width_at {r : Int} (h0 : 0 ≤ r) (h1 : r < 6) : ∃ wd : Int, atI [V.int 1, .int 1, .int 2, .int 3, .int 5, .int 8] r = some (.int wd) ∧ 1 ≤ wd ∧ wd ≤ 8 := by
  have c : r = 0 ∨ r = 1 ∨ r = 2 ∨ r = 3 ∨ r = 4 ∨ r = 5 := by omega
  rcases c with rfl | rfl | rfl | rfl | rfl | rfl
  · exact ⟨1, rfl, by decide, by decide⟩
  · exact ⟨1, rfl, by decide, by decide⟩
  · exact ⟨2, rfl, by decide, by decide⟩
  · exact ⟨3, rfl, by decide, by decide⟩
  · exact ⟨5, rfl, by decide, by decide⟩
  · exact ⟨8, rfl, by decide, by decide⟩
section
variable {P : Program} {w : World} {K : PySem.W.Frag} {mg : Str → Option Value} {base : Heap} {f fD fP fM : Addr} {fd fdD fdP fdM : FuncData}
theorem ok_nameL (F : Fun K "_law_name" "_law_name" sNameL f fd) (FP : Fun K "_law_pick" "_law_pick" sPick fP fdP) (gP : mg "_law_pick" = some (.ref fP)) (FD : Fun K "_law_draw" "_law_draw" sDraw fD fdD)
    (gD : mg "_law_draw" = some (.ref fD)) (gI : mg "int" = none) (gN : mg "len" = none) (gR : mg "range" = none) : FnOk P w K mg base CX0 3 f fd ["stream"] spNameL := by
  have G : FnOk P w K mg base CX0 1 fD fdD ["stream", "many"] spDraw := ok_draw FD gI
  have b := FD.binds (ps := ["stream", "many"]) fun _ _ _ _ _ _ us hl => match us, hl with | [_, _], _ => rfl
  have GP : FnOk P w K mg base CX0 2 fP fdP ["stream", "some"] spPickS := ok_pickS FP FD gD gI gN
  have bP := FP.binds (ps := ["stream", "some"]) fun _ _ _ _ _ _ us hl => match us, hl with | [_, _], _ => rfl
  refine F.ok scNameL (fun vs H Q E h => by obtain ⟨l, ls, N, e, _⟩ := h; rw [e]; rfl) fun cdv A outer s H vs Q E hr hsp => ?_
  obtain ⟨l, ls, N, rfl, hS, hN, hq⟩ := hsp
  have nd := scNameL.nd
  refine ⟨_, pss_cons (ps_set (i := 1) nd rfl (Or.inl rfl) (pe_ix ix_list (pe_lst (pa_cons pe_int (pa_cons pe_int (pa_cons pe_int (pa_cons pe_int (pa_cons pe_int (pa_cons pe_int pa_nil))))))) (pe_call G (hr.mono (by decide)) rfl gD FD.kp b .nil pass0 (pa_cons (pv 0) (pa_cons pe_int pa_nil))) (fun _ _ => rfl)))
    (pss_one (ps_ret (pe_join pe_str (pe_lc (own := [("k", 2)]) (tt := tYes) rfl nd (pi_range1 rfl gR (pa_cons (pv 1) pa_nil)) (blkOk_by (N := NNm) (sc := defScope sNameL) (by decide +kernel)) (fun _ _ _ _ _ => pg_name (i := 2) nd rfl (Or.inl rfl)) (fun _ _ _ _ _ => pts_nil) (fun _ _ _ _ _ => pe_call GP hr rfl gP FP.kp bP .nil pass0 (pa_cons (pv 0) (pa_cons pe_str pa_nil))))))), ?_⟩
  refine ⟨(by show 6 ≤ sizeLine; decide), fun D1 n1 => ?_⟩
  have kd := same_new (o := .lst [.int 1, .int 1, .int 2, .int 3, .int 5, .int 8]) n1
  have od : upd H D1 (.lst [.int 1, .int 1, .int 2, .int 3, .int 5, .int 8]) D1 = _ := upd_same
  have ad := hS.apart (Same.refl _) n1
  generalize upd H D1 (.lst [.int 1, .int 1, .int 2, .int 3, .int 5, .int 8]) = H1 at kd od ⊢
  refine ⟨_, rfl, l, ls, 6, _, rfl, hS.same kd, by omega, by decide, by decide, fun H2 r r0 r1 S2 B2 => ?_⟩
  obtain ⟨wd, ew, w0, w1⟩ := width_at r0 r1
  refine ⟨D1, _, r, _, rfl, rfl, SqL.of (B2 _ _ ad.1 ad.2 od), ew, ?_⟩
  have B02 : But l ls H H2 := (But.of kd).trans B2
  refine ⟨⟨_, rfl⟩, _, rfl, wd, rfl, by omega, by omega, fun D nD => ?_⟩
  have aD := S2.apart (Same.refl _) nD
  refine lc_range (n := wd.toNat) (fun j H' => ∃ cs : List Nat, H' D = some (.lst (cs.map fun c => V.str ⟨#[c]⟩)) ∧ cs.length = j ∧ (∀ c ∈ cs, c ∈ wordL) ∧ Strm H' l ls (N + 1 + j) ∧ But l ls H2 H')
    ⟨[], upd_same, rfl, fun c hc => by simp at hc, by simpa using S2.same (same_new nD), But.of (same_new nD)⟩ ?_ ?_
  · rintro j H3 hj ⟨cs, oD, lc, cok, S3, B3⟩
    refine ⟨rfl, ?_⟩
    refine ⟨_, rfl, l, ls, _, _, rfl, S3, by omega, by decide +kernel, by decide +kernel, fun H4 c hc S4 B4 => ?_⟩
    have oD4 := B4 _ _ aD.1 aD.2 oD
    refine ⟨_, oD4, (by rw [sizeLine_eq, List.length_map]; omega), cs ++ [c], by rw [upd_same]; simp, by simp [lc], ?_, ?_, ?_⟩
    · intro d hd
      rcases List.mem_append.mp hd with h | h
      · exact cok d h
      · obtain rfl : d = c := by simpa using h
        exact hc
    · obtain ⟨cs', g, k, m, S⟩ := S4
      exact Strm.mono ⟨cs', g, k, m, by rw [upd_ne (Ne.symm aD.1)]; exact S.o, by rw [upd_ne (Ne.symm aD.2)]; exact S.c, S.ne, S.g0, S.k0, S.k1, S.m0, S.m1, S.sz⟩ (by omega)
    · intro b o h1 h2 e
      have nb : b ≠ D := ne_of_none e nD
      rw [upd_ne nb]
      exact B4 _ _ h1 h2 (B3 _ _ h1 h2 e)
  · rintro H3 ⟨cs, oD, lc, cok, S3, B3⟩
    have lc3 : 1 ≤ cs.length ∧ cs.length ≤ 8 := by omega
    have em : (cs.map fun c => V.str ⟨#[c]⟩) = (cs.map fun c => (⟨#[c]⟩ : Str)).map V.str := by rw [List.map_map]; rfl
    rw [em] at oD
    have sums : ∀ l : List Nat, ((l.map fun c => (⟨#[c]⟩ : Str)).map (·.length)).sum = l.length := fun l => by
      induction l with
      | nil => rfl
      | cons a l ih => rw [List.map_cons, List.map_cons, List.sum_cons, ih, List.length_cons]; show 1 + _ = _; omega
    refine ⟨_, D, _, rfl, rfl, .inl (SqL.of oD), ?_, ?_⟩
    · rw [sums, List.length_map]; show cs.length + cs.length * 0 ≤ _; omega
    have hw : (Txt.join (Str.ofString "") (cs.map fun c => (⟨#[c]⟩ : Str))).cps.toList = cs := join_cps cs
    generalize Txt.join (Str.ofString "") (cs.map fun c => (⟨#[c]⟩ : Str)) = wd at hw
    refine hq H3 wd ?_ (S3.mono (by omega)) (B02.trans B3)
    unfold NmS NmOk
    rw [hw]
    exact ⟨⟨lc3.1, by omega, fun c hc => word_sub c (cok c hc)⟩, by omega, cok⟩
end
end L2.TB
namespace L2.TB
open PySem PySem.Spec PyProof.Rows
def spNames : Sp := fun vs H Q _ => ∃ (l ls : Addr) (many N : Int), vs = [.ref l, .int many] ∧ Strm H l ls N ∧ N ≤ 900000 ∧ 0 ≤ many ∧ many ≤ 12 ∧
  ∀ H' q (ns : List Str), (ns.length : Int) = many → ns.Nodup → (∀ x ∈ ns, NmS x) → H q = none → H' q = some (.lst (ns.map V.str)) → Strm H' l ls (N + 9 * many) → But l ls H H' → Q (.ref q) H'
abbrev NN : List Str := ["stream", "many", "found", "k", "spare", "letter", "x"]
theorem scNames : FnScope NN ["stream", "many"] (defScope sNamesL) := ⟨rfl, rfl, rfl, by decide +kernel, rfl, by decide +kernel, by decide +kernel⟩
section
variable {P : Program} {w : World} {K : PySem.W.Frag} {mg : Str → Option Value} {base : Heap} {f fD fP fM fW : Addr} {fd fdD fdP fdM fdW : FuncData}
theorem ok_names (F : Fun K "_law_names" "_law_names" sNamesL f fd) (FW : Fun K "_law_name" "_law_name" sNameL fW fdW) (gW : mg "_law_name" = some (.ref fW)) (FP : Fun K "_law_pick" "_law_pick" sPick fP fdP) (gP : mg "_law_pick" = some (.ref fP)) (FD : Fun K "_law_draw" "_law_draw" sDraw fD fdD)
    (gD : mg "_law_draw" = some (.ref fD)) (gI : mg "int" = none) (gN : mg "len" = none) (gR : mg "range" = none) : FnOk P w K mg base CX0 4 f fd ["stream", "many"] spNames := by
  have GW : FnOk P w K mg base CX0 3 fW fdW ["stream"] spNameL := ok_nameL FW FP gP FD gD gI gN gR
  have bW := FW.binds (ps := ["stream"]) fun _ _ _ _ _ _ us hl => match us, hl with | [_], _ => rfl
  refine F.ok scNames (fun vs H Q E h => by obtain ⟨l, ls, many, N, e, _⟩ := h; rw [e]; rfl) fun cdv A outer s H vs Q E hr hsp => ?_
  obtain ⟨l, ls, many, N, rfl, hS, hN, h0, h1, hq⟩ := hsp
  have nd := scNames.nd
  refine ⟨_, pss_cons (ps_set (i := 2) nd rfl (Or.inr rfl) (pe_lst pa_nil))
    (pss_cons (ps_for PassesOwn.never rfl (pi_range1 rfl gR (pa_cons (pv 1) pa_nil)) (pg_name (i := 3) nd rfl (Or.inl rfl))
      (pss_cons (ps_set (i := 4) nd rfl (Or.inl rfl) (pe_op op_cat (pe_lst (pa_cons (pe_call GW hr rfl gW FW.kp bW .nil pass0 (pa_cons (pv 0) pa_nil)) pa_nil)) (pe_lc (own := [("letter", 5)]) (tt := tYes) rfl nd (pi_str pe_str) (blkOk_by (N := NN) (sc := defScope sNamesL) (by decide +kernel))
          (fun _ _ _ _ _ => pg_name (i := 5) nd rfl (Or.inl rfl)) (fun _ _ _ _ _ => pts_nil) (fun _ _ _ _ _ => pe_op op_add_str (pv 5) pe_str))))
      (pss_one (ps_expr (pe_bm PySem.F.plainAttrs_list PySem.F.slot_list_append PySem.F.type_list_append mt_append (pv 2) (pa_cons (pe_ix ix_list (pe_lc (own := [("x", 6)]) (tt := tTest (tOp (rIn K true) (tVar 6) (tVar 2))) rfl nd (pi_list (pv 4)) (blkOk_by (N := NN) (sc := defScope sNamesL) (by decide +kernel))
          (fun _ _ _ _ _ => pg_name (i := 6) nd rfl (Or.inl rfl)) (fun _ _ _ _ _ => pts_one (pt_cmpR op_notIn_seq (pv 6) (pv 2) rfl)) (fun _ _ _ _ _ => pv 6)) pe_int (fun _ _ => rfl)) pa_nil))))))
    (pss_one (ps_ret (pv 2)))), ?_⟩
  refine ⟨Nat.zero_le _, fun q nq => ?_⟩
  have aq := hS.apart (Same.refl _) nq
  refine ⟨_, rfl, many, rfl, by omega, by omega, for_range (n := many.toNat) (fun i σ H' => ∃ ns : List Str, H' q = some (.lst (ns.map V.str)) ∧ ns.length = i ∧ ns.Nodup ∧ (∀ x ∈ ns, NmS x) ∧ Strm H' l ls (N + 9 * i) ∧ But l ls H H' ∧
    ∃ s3 s4 s5 s6, σ = [some (.ref l), some (.int many), some (.ref q), s3, s4, s5, s6])
    ⟨[], upd_same, rfl, .nil, fun x hx => by simp at hx, by simpa using hS.same (same_new nq), But.of (same_new nq), _, _, _, _, rfl⟩ ?_ ?_⟩
  · rintro i σ H1 hi ⟨ns, oq, ln, nn, nok, S1, B1, s3, s4, s5, s6, rfl⟩
    have hi2 : (i : Int) < 12 := by omega
    -- the word
    refine ⟨_, rfl, l, ls, _, rfl, S1, by omega, fun H3 wd wok S3 B13 => ?_⟩
    have oq3 := B13 _ _ aq.1 aq.2 oq
    -- the spare names
    · refine ⟨(by rw [sizeLine_eq]; show 1 ≤ _; omega), fun a1 n1 => ?_⟩
      have k1 := same_new (o := .lst [.str wd]) n1
      have e26 : (Str.ofString "abcdefghijklmnop").cps.size = 16 := by decide +kernel
      have l26 : letL.length = 16 := by decide +kernel
      refine ⟨_, rfl, fun D2 nD2 => ⟨fun j m H' => m = 16 - j ∧ j ≤ 16 ∧ H' D2 = some (.lst ((letL.take j).map fun c => V.str (spare c))) ∧ Same (upd H3 a1 (.lst [.str wd])) H',
        ⟨16, rfl, by decide, upd_same, same_new nD2⟩, ?_⟩⟩
      rintro j m H4 ⟨rfl, hj, oD2, sm4⟩
      by_cases lt : j < 16
      · refine .inr ⟨(by show j < _; rw [e26]; exact lt), fun H' => H' D2 = some (.lst ((letL.take (j + 1)).map fun c => V.str (spare c))) ∧ Same (upd H3 a1 (.lst [.str wd])) H', fun H' h => ⟨16 - (j + 1), by omega, rfl, lt, h⟩, ?_⟩
        rintro v H' ⟨rfl, c, hc, rfl⟩
        have hc2 : letL[j]? = some c := by
          unfold letL
          rw [Array.getElem?_toList]; exact hc
        refine ⟨rfl, ?_⟩
        refine ⟨_, rfl, _, _, rfl, rfl, (by rw [sizeLine_eq]; show 1 + 2 ≤ _; omega), _, oD2, (by rw [sizeLine_eq, List.length_map, List.length_take]; omega), ?_, fun b o e => by rw [upd_ne (ne_of_none e nD2)]; exact sm4 b o e⟩
        rw [upd_same, List.take_succ, hc2]
        simp [spare]
      · have j26 : j = 16 := by omega
        refine .inl ⟨(by show _ ≤ j; rw [e26]; omega), ?_⟩
        have et : letL.take j = letL := List.take_of_length_le (by omega)
        rw [et] at oD2
        refine ⟨a1, D2, _, _, rfl, rfl, sm4 _ _ upd_same, oD2, (by rw [sizeLine_eq, List.length_map, l26]; show 1 + 16 ≤ _; omega), fun p np => ?_⟩
        have esp : [V.str wd] ++ letL.map (fun c => V.str (spare c)) = (wd :: letL.map spare).map V.str := by simp [List.map_map]
        rw [esp]
        have spl : (wd :: letL.map spare).length = 17 := by rw [List.length_cons, List.length_map, l26]
        have spok : ∀ x ∈ (wd :: letL.map spare), NmS x := fun x hx => by
          rcases List.mem_cons.mp hx with h | h
          · rw [h]; exact wok
          · obtain ⟨c, hc, rfl⟩ := List.mem_map.mp h
            exact spare_ok c hc
        have hne := spare_left wd ns (by omega)
        generalize wd :: letL.map spare = sp at spl spok hne
        have k5 := same_new (o := .lst (sp.map V.str)) np
        have k35 := (k1.trans sm4).trans k5
        refine ⟨_, rfl, .inl ⟨rfl, _, SqL.of (k35 _ _ oq3)⟩, _, rfl, p, rfl, ⟨_, SqL.of upd_same⟩, fun D3 nD3 => ?_⟩
        refine lc_list (xs := sp.map V.str) (fun j H' => H' D3 = some (.lst (((sp.take j).filter fun x => decide (x ∉ ns)).map V.str)) ∧ Same (upd H4 p (.lst (sp.map V.str))) H')
          ⟨by rw [upd_same]; rfl, same_new nD3⟩ (fun j H' _ h => SqL.of (h.2 _ _ upd_same)) ?_ ?_
        · rintro j v H6 ev ⟨oD3, sm6⟩
          rw [List.getElem?_map] at ev
          obtain ⟨x, ex, rfl⟩ := Option.map_eq_some_iff.mp ev
          have et2 : sp.take (j + 1) = sp.take j ++ [x] := by rw [List.take_succ, ex]; rfl
          refine ⟨rfl, ?_⟩
          refine ⟨_, rfl, _, rfl, q, ns.map V.str, rfl, .inl (SqL.of (sm6 _ _ (k35 _ _ oq3))), rfl, flat_strs ns, _, rfl, ?_⟩
          rw [inV_strs]
          by_cases hx : x ∈ ns
          · rw [decide_eq_true hx]
            refine iteF ?_
            refine ⟨?_, sm6⟩
            rw [et2, List.filter_append]
            simpa [hx] using oD3
          · rw [decide_eq_false hx]
            refine iteT ?_
            refine ⟨_, rfl, _, oD3, ?_, ?_, fun b o e => by rw [upd_ne (ne_of_none e nD3)]; exact sm6 b o e⟩
            · have z := List.length_filter_le (fun x => decide (x ∉ ns)) (sp.take j)
              rw [List.length_take] at z
              rw [sizeLine_eq, List.length_map]; omega
            · rw [upd_same, et2, List.filter_append]
              simp [hx]
        · rintro H6 ⟨oD3, sm6⟩
          have ef : sp.take (sp.map V.str).length = sp := List.take_of_length_le (by rw [List.length_map]; omega)
          rw [ef] at oD3
          have oq6 := sm6 _ _ (k35 _ _ oq3)
          cases efl : sp.filter fun x => decide (x ∉ ns) with
          | nil => exact absurd efl hne
          | cons y rest =>
            rw [efl] at oD3
            have hy : y ∈ sp.filter fun x => decide (x ∉ ns) := by rw [efl]; exact List.mem_cons_self
            obtain ⟨hy1, hy2⟩ := List.mem_filter.mp hy
            have hy3 : y ∉ ns := by simpa using hy2
            refine ⟨D3, _, 0, .str y, rfl, rfl, SqL.of oD3, atI_nat (j := 0) (by simp), ?_⟩
            refine ⟨q, ns.map V.str, .str y, rfl, rfl, oq6, (by rw [sizeLine_eq, List.length_map]; omega), ns ++ [y], by rw [upd_same]; simp, by simp [ln], ?_, ?_, ?_, ?_, _, _, _, _, rfl⟩
            · rw [List.nodup_append]
              exact ⟨nn, by simp, fun a ha b hb => by
                obtain rfl : b = y := by simpa using hb
                exact fun z => hy3 (z ▸ ha)⟩
            · intro x hx
              rcases List.mem_append.mp hx with h | h
              · exact nok x h
              · obtain rfl : x = y := by simpa using h
                exact spok _ hy1
            · obtain ⟨cs', g, k, m, S⟩ := (S3.same k35).same sm6
              exact Strm.mono ⟨cs', g, k, m, by rw [upd_ne (Ne.symm aq.1)]; exact S.o, by rw [upd_ne (Ne.symm aq.2)]; exact S.c, S.ne, S.g0, S.k0, S.k1, S.m0, S.m1, S.sz⟩ (by omega)
            · intro b o h1 h2 e
              have nb : b ≠ q := ne_of_none e nq
              rw [upd_ne nb]
              exact sm6 _ _ (k35 _ _ (B13 _ _ h1 h2 (B1 _ _ h1 h2 e)))
  · rintro σ H1 ⟨ns, oq, ln, nn, nok, S1, B1, s3, s4, s5, s6, rfl⟩
    have em : ((many.toNat : Nat) : Int) = many := by omega
    rw [em] at S1
    exact ⟨_, rfl, hq H1 q ns (by omega) nn nok nq oq S1 B1⟩
end
end L2.TB
namespace L2.TB
open PySem
open PySem.Spec PyProof.Rows
/-! for i, x in enumerate(thing), thing a list or a tuple -/
abbrev tupIter (t : Addr) : Obj := { cls := .type "tuple_iterator", data := .fields #[.ref t, .int 0 0] }
abbrev enumRec (q : Addr) : Obj := { cls := .type "enumerate", data := .fields #[.none, .bool false, .ref q, rawInt 0, .none, .none] }
section
variable {P : Program} {w : World}
/-- what enumerate's maker does with a tuple -/
theorem made_enum (t : Addr) (ys : Array Value) : Meets (Builtin.«enumerate.__new__» ⟨[.type "enumerate", .ref t], []⟩) fun _ done z =>
    z.heap.IsTuple t ys ∧ done (.ok (.ret (.ref (z.heap.push (tupIter t)).objs.size))) { z with heap := (z.heap.push (tupIter t)).push (enumRec z.heap.objs.size) } :=
  .of_wp fun _ _ _ _ z hz => by
    obtain ⟨h0, gs, ds, tk, os⟩ := z
    obtain ⟨isT, fin⟩ := hz
    have sub := sub_enumerate
    have step : ∀ {A' : Around} {E' : Value → Shared → Prop} {Q' : Value → Shared → Prop} {P' : Program} {w' : World}, Q' (.ref h0.objs.size) ⟨h0.push (tupIter t), gs, ds, tk, os⟩ → wpAny (model P' w') A' (pyIter (.ref t)) Q' E' ⟨h0, gs, ds, tk, os⟩ :=
      fun more => wpAny_pyIter_tuple (s := ⟨h0, gs, ds, tk, os⟩) isT more
    wp_walk using step
    refine wpAny_stack_any (fun _ => wpAny_pure ?_)
    split
    · rename_i c _ _ _ _ _
      rcases (c == Value.type "enumerate") with _ | _ <;> (wp_walk using step; exact ⟨_, rfl, fin⟩)
    · wp_walk using step
      exact ⟨_, rfl, fin⟩
/-- the call -/
theorem enum_of_tuple {A : Around} {z : Shared} {E Q : Value → Shared → Prop} {t : Addr} {ys : Array Value} (isT : z.heap.IsTuple t ys)
    (more : IsEnum ((z.heap.push (tupIter t)).push (enumRec z.heap.objs.size)) (z.heap.objs.size + 1) z.heap.objs.size 0 .none →
      Q (.ref (z.heap.objs.size + 1)) { z with heap := (z.heap.push (tupIter t)).push (enumRec z.heap.objs.size) }) : wpAny (model P w) A (call (.type "enumerate") [.ref t]) Q E z := by
  refine callType_new F.called_enumerate (by decide) (F.typeCall_enumerate_1 _) (F.newCall_enumerate_1 _) (fun b => F.args_object_init_2 b _) F.entry_enumerate_new (made_enum t ys) ⟨isT, ?_⟩
  have size1 : (z.heap.push (tupIter t)).objs.size = z.heap.objs.size + 1 := Heap.size_push ..
  have rec1 := Heap.get?_push_size (z.heap.push (tupIter t)) (o := enumRec z.heap.objs.size) rfl
  rw [size1] at rec1
  show _ ∧ _
  rw [size1]
  exact ⟨⟨_, rec1, rfl⟩, more rec1⟩
end
/-- the items of the tuple at t, each in a new pair with its number -/
def IteT (K : PySem.W.Frag) (t : Addr) : It where
  go i H := ∃ (ys : List V) (y : V), SqT K H t ys ∧ ys[i]? = some y
  yld i H v H' := ∃ T y, v = .ref T ∧ H T = none ∧ H' = upd H T (.tup [.int (i : Nat), y]) ∧ ∀ ys, SqT K H t ys → ys[i]? = some y
  stop i H := ∃ ys : List V, SqT K H t ys ∧ ys.length ≤ i
/-- three records of three classes stand at three places -/
theorem three {h : Heap} {t q r : Addr} {ys : Array Value} {i : Nat} {c : Int} {old : Value} (isT : h.IsTuple t ys) (isQ : h.IsTupleIter q t i) (isR : IsEnum h r q c old) : t ≠ q ∧ r ≠ t := by
  obtain ⟨ot, gt, ct, _⟩ := isT
  obtain ⟨oq, gq, cq, _⟩ := isQ
  have ct : ot.cls = Value.type "tuple" := ct
  have cq : oq.cls = Value.type "tuple_iterator" := cq
  constructor
  · rintro rfl
    rw [gt] at gq
    injection gq with same
    rw [← same, ct] at cq
    exact absurd cq (by decide)
  · rintro rfl
    have gr := isR
    unfold IsEnum at gr
    rw [gt] at gr
    injection gr with same
    rw [same] at ct
    exact absurd (show Value.type "enumerate" = Value.type "tuple" from ct) (by decide)
theorem two_of {b r q : Addr} {p : Addr → Prop} (hr : p r) (hq : p q) (hb : b ∈ [r, q]) : p b := by
  rcases List.mem_cons.mp hb with rfl | hb
  · exact hr
  · obtain rfl := List.mem_singleton.mp hb
    exact hq
theorem turn_enumT {P : Program} {w : World} {K : PySem.W.Frag} {elts : List Expr} {kk : Nat} {tpos : Pos} (t r q : Addr) :
    Turn P w K (.Tuple elts kk tpos) (IteT K t) [r, q] r (fun i h => r ≠ q ∧ h.IsTupleIter q t i ∧ ∃ old, IsEnum h r q ((i : Nat) : Int) old) := by
  refine ⟨List.mem_cons_self, fun i h st b hb => ?_, fun i h h' st same => ?_, ?_, ?_, fun A i z Q E st more => ?_⟩
  · obtain ⟨_, ⟨oq, gq, _, dq⟩, old, gr⟩ := st
    exact two_of (p := fun b => ∃ o, h.get? b = some o ∧ ∀ v, o.data ≠ .cell v) ⟨_, gr, fun _ e => nomatch e⟩ ⟨oq, gq, fun _ e => by rw [dq] at e; exact nomatch e⟩ hb
  · obtain ⟨ne, gq, old, gr⟩ := st
    exact ⟨ne, gq.at fun o e => same q (List.mem_cons_of_mem _ List.mem_cons_self) o e, old, same r List.mem_cons_self _ gr⟩
  · rintro X rfl rfl rfl calm i pins z σ H E I room ⟨ne, gq, old, gr⟩ ⟨ys, y, isY, nth⟩
    obtain ⟨vs, rel, isT, _⟩ := I.tuple isY
    obtain ⟨v, nthV, relV⟩ := rel.get nth
    have isT : z.heap.IsTuple t vs.toArray := isT
    obtain ⟨tq, rt⟩ := three isT gq gr
    have lr : r < z.heap.objs.size := Heap.lt_size gr
    have lq : q < z.heap.objs.size := gq.elim fun _ e => Heap.lt_size e.1
    have inside : i < vs.toArray.size := by
      have := (List.getElem?_eq_some_iff.mp nthV).1
      simpa using this
    have draws := Draws.tuple (prog := X.prog) (w := X.w) (A := X.A.in1) (I.ok.hd calm) q t tq vs.toArray
    refine wpAny_pyNext_enum_itemC draws gr ⟨gq, isT⟩ inside ne (fun m => two_of (p := fun b => r = b → False) ne rt m rfl) fun v' h1 tk hv out stQ newT _ kept1 => ?_
    obtain rfl : v' = v := by
      have hv : vs.toArray[i]? = some v' := hv
      rw [List.getElem?_toArray, nthV] at hv
      exact (Option.some.inj hv).symm
    refine ⟨_, rfl, wpAny_letOwnedTupleGo_enum (s := { z with heap := h1, toks := tk + 1 }) out fun h2 back same2 => ?_⟩
    have at2 : ∀ b o, b ∉ [r, q] → z.heap.get? b = some o → h2.get? b = some o := fun b o away e =>
      (same2.2 b fun k => away (k ▸ List.mem_cons_self)).trans (kept1 b o (fun k => away (k ▸ List.mem_cons_self)) (fun k => away (k ▸ List.mem_cons_of_mem _ List.mem_cons_self)) e)
    have pair : ObjOk X.prog X.w (upd H z.heap.objs.size (.tup [.int (i : Nat), y])) h2 z.heap.objs.size (.tup [.int (i : Nat), y]) :=
      ⟨show 2 ≤ sizeLine by decide, [.int i tk, v'], .cons ⟨tk, rfl⟩ (.cons relV .nil), _, (same2.2 _ (Nat.ne_of_gt lr)).trans newT, rfl, _, rfl⟩
    refine ⟨.ref z.heap.objs.size, _, I.turnedNew (t' := tk + 1) at2 room (Nat.le_refl _) pair, rfl, ⟨_, y, rfl, I.hok.fresh (Nat.le_refl _), rfl, fun ys' is' => ?_⟩, ⟨ne, ?_, v', ?_⟩, fun b hb => ?_⟩
    · rw [I.tuple_inj is' isY]; exact nth
    · exact stQ.1.at fun o e => (same2.2 q ne.symm).trans e
    · rw [show ((i + 1 : Nat) : Int) = (i : Int) + 1 from by omega]; exact back
    · have lb : b < z.heap.objs.size := two_of (p := fun b => b < z.heap.objs.size) lr lq hb
      rw [upd_ne (Nat.ne_of_lt lb)]
      exact (room b hb).1
  · rintro X rfl rfl rfl calm i pins z σ H E I room ⟨ne, gq, old, gr⟩ ⟨ys, isY, past⟩
    obtain ⟨vs, rel, isT, _⟩ := I.tuple isY
    have isT : z.heap.IsTuple t vs.toArray := isT
    obtain ⟨k0, k1, k2, k3, k4, k5⟩ := room q (List.mem_cons_of_mem _ List.mem_cons_self)
    have isE : z.TypeIs (.ref r) "enumerate" := ⟨_, gr, rfl⟩
    have len := rel.length
    have past : vs.toArray[i]? = none := by rw [List.getElem?_toArray, List.getElem?_eq_none_iff]; omega
    unfold pyNext
    refine wpAny_bind (wpAny_attempt (wpAny_callSpecial?_slot (name := Str.ofString "__next__") isE F.slot_enumerate_next (wpAny_call_entry F.slot_enumerate_next isE F.entry_enumerate_next ?_ (F.args_enumerate_next_1 _))))
    show wpAny _ _ (field (.ref r) 2 >>= _) _ _ z
    refine wpAny_bind (wpAny_field gr rfl (x := .ref q) rfl (wpAny_bind (wpAny_nextOf_tuple_end (I.ok.hd calm) gq isT past fun h1 x but ⟨ox, gx, cx⟩ => ?_)))
    exact wpAny_bind (wpAny_isInstance (T := "StopIteration") (b := true) ⟨ox, gx, cx⟩ isSubtype_stop (wpAny_pure ⟨rfl, I.turned (t' := z.toks) (fun b o away e => but b o away e) k0 k1 k3 k4 k5⟩))
  · obtain ⟨_, _, old, gr⟩ := st
    exact wpAny_pyIter_enum gr more
/-- the reading of enumerate over a list or over a tuple -/
def iEnumS (K : PySem.W.Frag) (ta : TA) : TI := fun σ H R => ta σ H fun vs H1 => ∃ a xs, vs = [.ref a] ∧ ((SqL K H1 a xs ∧ R (Ite K a) H1) ∨ (SqT K H1 a xs ∧ R (IteT K a) H1))
theorem pi_enumS {X : Cx} {e : Expr} {ta : TA} {p pos tpos : Pos} {elts : List Expr} {kk : Nat} (hg : Gl X "enumerate") (hm : X.mg "enumerate" = none) (ha : PA X [e] ta) (hs : starEach [e] X.env = [(false, eval e X.env)] := by rfl) :
    PI X (.Tuple elts kk tpos) (.Call (.Name "enumerate" p) [e] [] pos) (iEnumS X.K ta) := by
  refine PI.mk fun pins z σ H R I reading => Call_ (ld_blt I hg hm boot_enumerate (PyProof.Rows.callWith_type1 (thn (ha.run pos pins z σ H _ I reading) fun us z1 hu => ?_) hs rfl))
  obtain ⟨vs, H1, I1, rel, a, xs, rfl, cases2⟩ := hu
  match us, rel with
  | [u], .cons ru .nil =>
    obtain rfl : u = Value.ref a := ru
    have fresh : ∀ b ∈ [z1.heap.objs.size + 1, z1.heap.objs.size], FpOk X pins H1 b := fun b hb =>
      have far : z1.heap.objs.size ≤ b := two_of (p := fun b => z1.heap.objs.size ≤ b) (Nat.le_succ _) (Nat.le_refl _) hb
      I1.fpOk far (I1.hok.fresh far)
    rcases cases2 with ⟨sq, q⟩ | ⟨sq, q⟩
    · obtain ⟨its, rv, isL, _⟩ := I1.list sq
      exact call_enumerate_list isL.isList fun h' gE gI _ kept => wpAny_pyIter_enum gE ⟨_, _, _, _, H1, rfl, I1.kept (t' := z1.toks) kept, turn_enum a _ _, ⟨⟨.none, gE⟩, gI, Nat.succ_ne_self _⟩, fresh, q⟩
    · obtain ⟨its, rv, isT, _⟩ := I1.tuple sq
      have isT : z1.heap.IsTuple a its.toArray := isT
      refine enum_of_tuple isT fun gE => wpAny_pyIter_enum gE ⟨_, _, _, _, H1, rfl, I1.kept (t' := z1.toks) fun b o e => ?_, turn_enumT a _ _, ⟨Nat.succ_ne_self _, ?_, .none, gE⟩, fresh, q⟩
      · exact Heap.get?_push_of_some _ (Heap.get?_push_of_some _ e)
      · exact ⟨_, Heap.get?_push_of_some _ (Heap.get?_push_size _ rfl), rfl, rfl⟩
end L2.TB
namespace L2.TB
open PySem PySem.Spec PyProof.Rows
/-! the program's looks at what it is passed -/
theorem boot_int' : bootBuiltins "int" = some (.type "int") := by decide +kernel
theorem boot_bool' : bootBuiltins "bool" = some (.type "bool") := by decide +kernel
theorem boot_str' : bootBuiltins "str" = some (.type "str") := by decide +kernel
theorem boot_list' : bootBuiltins "list" = some (.type "list") := by decide +kernel
theorem boot_tuple' : bootBuiltins "tuple" = some (.type "tuple") := by decide +kernel
theorem boot_dict' : bootBuiltins "dict" = some (.type "dict") := by decide +kernel
theorem boot_isi : bootBuiltins "isinstance" = some (.builtin "isinstance") := by decide +kernel
/-- the list or the tuple at a -/
def SqA (K : PySem.W.Frag) (H : Hp) (a : Addr) (xs : List V) : Prop := H a = some (.lst xs) ∨ H a = some (.tup xs)
theorem SqA.seq {K : PySem.W.Frag} {H : Hp} {a : Addr} {xs : List V} (h : SqA K H a xs) : SqL K H a xs ∨ SqT K H a xs := h.imp SqL.of SqT.of
theorem SqA.same {K : PySem.W.Frag} {H H' : Hp} {a : Addr} {xs : List V} (h : SqA K H a xs) (s : Same H H') : SqA K H' a xs := h.imp (s _ _) (s _ _)
theorem kit_two_l {K : PySem.W.Frag} : PySem.W.kitAny K (.type "list") [.type "list", .type "tuple"] = some true := by
  unfold PySem.W.kitAny
  rw [kit_ty (K := K) (a := "list") (b := "list") (r := true) (by decide +kernel)]
theorem kit_two_t {K : PySem.W.Frag} : PySem.W.kitAny K (.type "tuple") [.type "list", .type "tuple"] = some true := by
  unfold PySem.W.kitAny
  rw [kit_ty (K := K) (a := "tuple") (b := "list") (r := false) (by decide +kernel)]
  dsimp only
  unfold PySem.W.kitAny
  rw [kit_ty (K := K) (a := "tuple") (b := "tuple") (r := true) (by decide +kernel)]
def spIsInt : Sp := fun vs H Q _ => ∃ k : Int, vs = [.int k] ∧ Q (.bl true) H
def spIsList (K : PySem.W.Frag) : Sp := fun vs H Q _ => ∃ (a : Addr) (xs : List V), vs = [.ref a] ∧ SqA K H a xs ∧ ∀ H', Same H H' → Q (.bl true) H'
def spIsOne (K : PySem.W.Frag) : Sp := fun vs H Q _ => ∃ (c : Addr) (ns : List Str) (x : Str), vs = [.ref c, .str x] ∧ SqL K H c (ns.map V.str) ∧ Q (.bl (decide (x ∈ ns))) H
/-- no bad one -/
def spFirst (K : PySem.W.Frag) : Sp := fun vs H Q _ => ∃ (c a : Addr) (ns known : List Str), vs = [.ref c, .ref a] ∧ H c = some (.lst (ns.map V.str)) ∧ SqA K H a (known.map V.str) ∧ known.Nodup ∧ (∀ x ∈ known, x ∈ ns) ∧ known.length < 1000 ∧ ∀ H', Same H H' → Q .non H'
theorem scIsInt : FnScope ["thing"] ["thing"] (defScope sIsInt) := ⟨rfl, rfl, rfl, by decide +kernel, rfl, by decide +kernel, by decide +kernel⟩
theorem scIsList : FnScope ["thing"] ["thing"] (defScope sIsList) := ⟨rfl, rfl, rfl, by decide +kernel, rfl, by decide +kernel, by decide +kernel⟩
theorem scIsOne : FnScope ["names", "thing"] ["names", "thing"] (defScope sIsOne) := ⟨rfl, rfl, rfl, by decide +kernel, rfl, by decide +kernel, by decide +kernel⟩
abbrev NF : List Str := ["names", "things", "seen", "index", "thing"]
theorem scFirst : FnScope NF ["names", "things"] (defScope sFirst) := ⟨rfl, rfl, rfl, by decide +kernel, rfl, by decide +kernel, by decide +kernel⟩
section
variable {P : Program} {w : World} {K : PySem.W.Frag} {mg : Str → Option Value} {base : Heap} {f fL fO : Addr} {fd fdL fdO : FuncData}
theorem ok_isInt (F : Fun K "is_integer" "is_integer" sIsInt f fd) (gI : mg "isinstance" = none) (gInt : mg "int" = none) (gB : mg "bool" = none) : FnOk P w K mg base CX0 1 f fd ["thing"] spIsInt := by
  refine F.ok scIsInt (fun vs H Q E h => by obtain ⟨k, e, _⟩ := h; rw [e]; rfl) fun cdv A outer s H vs Q E hr hsp => ?_
  obtain ⟨k, rfl, hq⟩ := hsp
  refine ⟨_, pss_one (ps_ret (pe_and (pe_callB (r := rIsi K) call_isi rfl gI boot_isi (pa_cons (pv 0) (pa_cons (pe_bltn (v := .ty "int") rfl gInt boot_int' rfl) pa_nil)))
    (pe_one (pe_not (pe_callB (r := rIsi K) call_isi rfl gI boot_isi (pa_cons (pv 0) (pa_cons (pe_bltn (v := .ty "bool") rfl gB boot_bool' rfl) pa_nil))))))), ?_⟩
  exact ⟨_, rfl, _, _, _, _, true, rfl, .ty _, .base (.int k), kit_ty (by decide +kernel), true, rfl, _, rfl, _, _, _, _, false, rfl, .ty _, .base (.int k), kit_ty (by decide +kernel), false, rfl, hq⟩
theorem ok_isList (F : Fun K "is_list" "is_list" sIsList f fd) (gI : mg "isinstance" = none) (gL : mg "list" = none) (gT : mg "tuple" = none) : FnOk P w K mg base CX0 1 f fd ["thing"] (spIsList K) := by
  refine F.ok scIsList (fun vs H Q E h => by obtain ⟨a, xs, e, _⟩ := h; rw [e]; rfl) fun cdv A outer s H vs Q E hr hsp => ?_
  obtain ⟨a, xs, rfl, hS, hq⟩ := hsp
  refine ⟨_, pss_one (ps_ret (pe_callB (r := rIsiT K) call_isiT rfl gI boot_isi (pa_cons (pv 0) (pa_cons (pe_tup (pa_cons (pe_bltn (v := .ty "list") rfl gL boot_list' rfl) (pa_cons (pe_bltn (v := .ty "tuple") rfl gT boot_tuple' rfl) pa_nil))) pa_nil)))), ?_⟩
  refine ⟨_, rfl, (by show 2 ≤ sizeLine; decide), fun t nt => ?_⟩
  have kt := same_new (o := .tup [.ty "list", .ty "tuple"]) nt
  rcases hS.same kt with e | e
  · exact ⟨_, _, _, _, _, true, rfl, upd_same, .cons (.ty _) (.cons (.ty _) .nil), .base (.lst e), kit_two_l, hq _ kt⟩
  · exact ⟨_, _, _, _, _, true, rfl, upd_same, .cons (.ty _) (.cons (.ty _) .nil), .base (.tup e), kit_two_t, hq _ kt⟩
theorem ok_isOne (F : Fun K "is_one_of" "is_one_of" sIsOne f fd) (gI : mg "isinstance" = none) (gS : mg "str" = none) : FnOk P w K mg base CX0 1 f fd ["names", "thing"] (spIsOne K) := by
  refine F.ok scIsOne (fun vs H Q E h => by obtain ⟨c, ns, x, e, _⟩ := h; rw [e]; rfl) fun cdv A outer s H vs Q E hr hsp => ?_
  obtain ⟨c, ns, x, rfl, hS, hq⟩ := hsp
  refine ⟨_, pss_one (ps_ret (pe_and (pe_callB (r := rIsi K) call_isi rfl gI boot_isi (pa_cons (pv 1) (pa_cons (pe_bltn (v := .ty "str") rfl gS boot_str' rfl) pa_nil)))
    (pe_one (pe_cmpR op_in_seq (pv 1) (pv 0) rfl)))), ?_⟩
  refine ⟨_, rfl, _, _, _, _, true, rfl, .ty _, .base (.str x), kit_ty (by decide +kernel), true, rfl, _, rfl, _, rfl, c, _, rfl, .inl hS, rfl, flat_strs ns, ?_⟩
  rw [inV_strs]
  exact hq
/-- the dict of what was seen -/
def seenD (xs : List Str) : List (Key × V) := xs.map fun x => (Sum.inr x, V.bl true)
theorem seen_none {xs : List Str} {x : Str} (h : x ∉ xs) : valV (seenD xs) (Sum.inr x) = none := by
  cases e : valV (seenD xs) (Sum.inr x) with
  | none => rfl
  | some v =>
    exfalso
    have z : (valV (seenD xs) (Sum.inr x)).isSome = true := by rw [e]; rfl
    rw [← valV_any, List.any_eq_true] at z
    obtain ⟨q, hq, hq2⟩ := z
    obtain ⟨y, hy, rfl⟩ := List.mem_map.mp hq
    have hq3 : (Sum.inr y : Key) = Sum.inr x := of_decide_eq_true hq2
    exact h (Sum.inr.inj hq3 ▸ hy)
theorem seen_put {xs : List Str} {x : Str} (h : x ∉ xs) : putK (seenD xs) (Sum.inr x) (.bl true) = seenD (xs ++ [x]) := by
  rw [putK_new (.bl true) (seen_none h)]
  simp [seenD]
/-- what the for loop asks of its turns -/
def ForW (J : It) (g : TG) (tb : TS) (D : Ends) (σ : St) (H : Hp) : Prop := ∃ W : Nat → Nat → St → Hp → Prop, (∃ m, W 0 m σ H) ∧ ∀ i m σ H, W i m σ H →
  (J.stop i H ∧ D.nx σ H) ∨ (J.go i H ∧ ∃ N : St → Hp → Prop, (∀ σ' H', N σ' H' → ∃ m', m' < m ∧ W (i + 1) m' σ' H') ∧ ∀ x H', J.yld i H x H' → g x σ H' fun σ2 H2 => tb { D with nx := N, ct := N, bk := D.nx } σ2 H2)
theorem enum_seq {K : PySem.W.Frag} {a : Addr} {xs : List V} {o : HO} {g : TG} {tb : TS} {D : Ends} {σ : St} {H : Hp} (ko : o = .lst xs ∨ o = .tup xs) (Pv : Nat → St → Hp → Prop) (h0 : Pv 0 σ H) (hl : ∀ i σ H, i ≤ xs.length → Pv i σ H → H a = some o)
    (hs : ∀ i x σ H T, xs[i]? = some x → Pv i σ H → H T = none → g (.ref T) σ (upd H T (.tup [.int (i : Nat), x])) fun σ2 H2 => tb { D with nx := Pv (i + 1), ct := Pv (i + 1), bk := D.nx } σ2 H2) (hd : ∀ σ H, Pv xs.length σ H → D.nx σ H) :
    ∃ b ys, [V.ref a] = [V.ref b] ∧ ((SqL K H b ys ∧ ForW (Ite K b) g tb D σ H) ∨ (SqT K H b ys ∧ ForW (IteT K b) g tb D σ H)) := by
  have fin : ∀ J : It, (∀ i H, i < xs.length → H a = some o → J.go i H) → (∀ i H, i = xs.length → H a = some o → J.stop i H) → (∀ i H v H', i < xs.length → H a = some o → J.yld i H v H' → ∃ T x, v = .ref T ∧ H T = none ∧ H' = upd H T (.tup [.int (i : Nat), x]) ∧ xs[i]? = some x) → ForW J g tb D σ H := by
    intro J go stop yld
    refine ⟨fun i m σ H => m = xs.length - i ∧ i ≤ xs.length ∧ Pv i σ H, ⟨_, rfl, Nat.zero_le _, h0⟩, ?_⟩
    rintro i m σ H ⟨rfl, le, p⟩
    have q := hl i σ H le p
    by_cases lt : i < xs.length
    · refine .inr ⟨go i H lt q, Pv (i + 1), fun σ' H' p' => ⟨xs.length - (i + 1), by omega, rfl, lt, p'⟩, fun v H' y => ?_⟩
      obtain ⟨T, x, rfl, nT, rfl, ex⟩ := yld i H v H' lt q y
      exact hs i x σ H T ex p nT
    · obtain rfl : i = xs.length := by omega
      exact .inl ⟨stop _ H rfl q, hd σ H p⟩
  have q0 := hl 0 σ H (Nat.zero_le _) h0
  rcases ko with rfl | rfl
  · exact ⟨a, xs, rfl, .inl ⟨SqL.of q0, fin _ (fun i H lt q => ⟨xs, xs[i], SqL.of q, by simp [lt]⟩) (fun i H e' q => ⟨xs, SqL.of q, by omega⟩)
      (fun i H v H' lt q ⟨T, x, e1, e2, e3, e4⟩ => ⟨T, x, e1, e2, e3, e4 xs (SqL.of q)⟩)⟩⟩
  · exact ⟨a, xs, rfl, .inr ⟨SqT.of q0, fin _ (fun i H lt q => ⟨xs, xs[i], SqT.of q, by simp [lt]⟩) (fun i H e' q => ⟨xs, SqT.of q, by omega⟩)
      (fun i H v H' lt q ⟨T, x, e1, e2, e3, e4⟩ => ⟨T, x, e1, e2, e3, e4 xs (SqT.of q)⟩)⟩⟩
theorem ok_first (F : Fun K "first_bad" "first_bad" sFirst f fd) (FL : Fun K "is_list" "is_list" sIsList fL fdL) (gIL : mg "is_list" = some (.ref fL)) (FO : Fun K "is_one_of" "is_one_of" sIsOne fO fdO) (gIO : mg "is_one_of" = some (.ref fO))
    (gI : mg "isinstance" = none) (gL : mg "list" = none) (gT : mg "tuple" = none) (gS : mg "str" = none) (gE : mg "enumerate" = none) : FnOk P w K mg base CX0 2 f fd ["names", "things"] (spFirst K) := by
  have GL : FnOk P w K mg base CX0 1 fL fdL ["thing"] (spIsList K) := ok_isList FL gI gL gT
  have bL := FL.binds (ps := ["thing"]) fun _ _ _ _ _ _ us hl => match us, hl with | [_], _ => rfl
  have GO : FnOk P w K mg base CX0 1 fO fdO ["names", "thing"] (spIsOne K) := ok_isOne FO gI gS
  have bO := FO.binds (ps := ["names", "thing"]) fun _ _ _ _ _ _ us hl => match us, hl with | [_, _], _ => rfl
  refine F.ok scFirst (fun vs H Q E h => by obtain ⟨c, a, ns, known, e, _⟩ := h; rw [e]; rfl) fun cdv A outer s H vs Q E hr hsp => ?_
  obtain ⟨c, a, ns, known, rfl, hc, hS, nd1, sub, short, hq⟩ := hsp
  have nd := scFirst.nd
  have hu := hu_of hr
  refine ⟨_, pss_cons (ps_if (pt_not (pt_val (pe_call GL hr rfl gIL FL.kp bL .nil pass0 (pa_cons (pv 1) pa_nil)))) (pss_one ps_never) pss_nil)
    (pss_cons (ps_set (i := 2) nd rfl (Or.inl rfl) pe_dnewK)
    (pss_cons (ps_for PassesOwn.never rfl (pi_enumS rfl gE (pa_cons (pv 1) pa_nil)) (pg_tup rfl (pgs_cons (pg_name (i := 3) nd rfl (Or.inl rfl)) (pgs_cons (pg_name (i := 4) nd rfl (Or.inl rfl)) pgs_nil)))
      (pss_cons (ps_if (PW.pt (pw_or (pt_not (pt_val (pe_call GO hr rfl gIO FO.kp bO .nil pass0 (pa_cons (pv 0) (pa_cons (pv 4) pa_nil))))) (pw_or1 (pt_cmp (pc_din hu (pv 4) (pv 2)))))) (pss_one ps_never) pss_nil)
      (pss_one (ps_dput hu (pv 2) (pv 4) pe_bl rfl))))
    (pss_one (ps_ret pe_non)))), ?_⟩
  refine ⟨_, rfl, a, _, rfl, hS, fun H1 k1 => ⟨_, rfl, iteF fun d nd2 => ?_⟩⟩
  have kd := same_new (o := .dK []) nd2
  obtain ⟨o, ho, ko⟩ : ∃ o, H1 a = some o ∧ (o = .lst (known.map V.str) ∨ o = .tup (known.map V.str)) := by
    rcases hS.same k1 with e | e
    · exact ⟨_, e, .inl rfl⟩
    · exact ⟨_, e, .inr rfl⟩
  refine ⟨_, rfl, enum_seq ko (fun i σ H' => H' d = some (.dK (seenD (known.take i))) ∧ Same H1 H' ∧ ∃ s3 s4, σ = [some (.ref c), some (.ref a), some (.ref d), s3, s4])
    ⟨upd_same, kd, _, _, rfl⟩ (fun i σ H' _ h => h.2.1 _ _ ho) ?_ ?_⟩
  · rintro i v σ H2 T ev ⟨od, s2, s3, s4, rfl⟩ nT
    rw [List.getElem?_map] at ev
    obtain ⟨x, ex, rfl⟩ := Option.map_eq_some_iff.mp ev
    have hi : i < known.length := (List.getElem?_eq_some_iff.mp ex).1
    have kT := same_new (o := .tup [.int (i : Nat), .str x]) nT
    refine ⟨T, _, rfl, SqT.of upd_same, rfl, ?_⟩
    have e1 : known.take (i + 1) = known.take i ++ [x] := by rw [List.take_succ, ex]; rfl
    have notin : x ∉ known.take i := fun m => by
      have z := nd1
      rw [← List.take_append_drop (i + 1) known, e1, List.append_assoc, List.nodup_append] at z
      exact z.2.2 x m x (by simp) rfl
    have xin : x ∈ ns := sub x (List.mem_of_getElem? ex)
    refine ⟨_, _, rfl, _, _, rfl, rfl, ?_⟩
    refine ⟨_, rfl, _, rfl, c, ns, x, rfl, SqL.of (kT _ _ (s2 _ _ (k1 _ _ hc))), _, rfl, ?_⟩
    rw [decide_eq_true xin]
    refine iteF ⟨_, rfl, _, rfl, d, _, rfl, DGet.k (k := Sum.inr x) (kT _ _ od), ?_⟩
    rw [seen_none notin]
    refine ⟨_, rfl, iteF ?_⟩
    have small : (seenD (known.take i)).length < sizeLine := by
      rw [sizeLine_eq]
      unfold seenD
      rw [List.length_map, List.length_take]; omega
    refine ⟨_, rfl, _, rfl, d, _, rfl, DPut.k (k := Sum.inr x) (kT _ _ od) small, ?_, ?_, _, _, rfl⟩
    · rw [upd_same, seen_put notin, ← e1]
    · intro b u e
      have nb : b ≠ d := ne_of_none e nd2
      rw [upd_ne nb]
      exact kT _ _ (s2 _ _ e)
  · rintro σ H2 ⟨od, s2, s3, s4, rfl⟩
    exact hq _ (k1.trans s2)
end
end L2.TB
namespace L2.TB
open PySem PySem.Spec PyProof.Rows
/-! the checks, where nothing is wrong -/
def spCkA (K : PySem.W.Frag) : Sp := fun vs H Q _ => ∃ (c : Addr) (ns : List Str) (x : Str), vs = [.ref c, .str x] ∧ SqL K H c (ns.map V.str) ∧ x ∈ ns ∧ Q .non H
def spCkB (K : PySem.W.Frag) : Sp := fun vs H Q _ => ∃ (c a : Addr) (ns known : List Str) (x : Str), vs = [.ref c, .ref a, .str x] ∧ H c = some (.lst (ns.map V.str)) ∧ SqA K H a (known.map V.str) ∧ known.Nodup ∧ (∀ x ∈ known, x ∈ ns) ∧ known.length < 1000 ∧ x ∈ ns ∧ ∀ H', Same H H' → Q .non H'
theorem scCkK : FnScope ["names", "known", "index"] ["names", "known"] (defScope sCkK) := ⟨rfl, rfl, rfl, by decide +kernel, rfl, by decide +kernel, by decide +kernel⟩
theorem scCkA : FnScope ["names", "asked"] ["names", "asked"] (defScope sCkA) := ⟨rfl, rfl, rfl, by decide +kernel, rfl, by decide +kernel, by decide +kernel⟩
theorem scCkB : FnScope ["names", "known", "asked"] ["names", "known", "asked"] (defScope sCkB) := ⟨rfl, rfl, rfl, by decide +kernel, rfl, by decide +kernel, by decide +kernel⟩
/-- what the checks need of the module -/
structure Chk (K : PySem.W.Frag) (mg : Str → Option Value) (aF aL aO aK aA aB : Addr) : Prop where
  F : ∃ fd, Fun K "first_bad" "first_bad" sFirst aF fd
  L : ∃ fd, Fun K "is_list" "is_list" sIsList aL fd
  O : ∃ fd, Fun K "is_one_of" "is_one_of" sIsOne aO fd
  CK : ∃ fd, Fun K "check_known" "check_known" sCkK aK fd
  CA : ∃ fd, Fun K "check_asked" "check_asked" sCkA aA fd
  CB : ∃ fd, Fun K "check_both" "check_both" sCkB aB fd
  gF : mg "first_bad" = some (.ref aF)
  gL : mg "is_list" = some (.ref aL)
  gO : mg "is_one_of" = some (.ref aO)
  gCK : mg "check_known" = some (.ref aK)
  gCA : mg "check_asked" = some (.ref aA)
  gCB : mg "check_both" = some (.ref aB)
  nI : mg "isinstance" = none
  nL : mg "list" = none
  nT : mg "tuple" = none
  nS : mg "str" = none
  nE : mg "enumerate" = none
section
variable {P : Program} {w : World} {K : PySem.W.Frag} {mg : Str → Option Value} {base : Heap} {aF aL aO aK aA aB : Addr} {fd : FuncData}
theorem ok_ckK (C : Chk K mg aF aL aO aK aA aB) (F : Fun K "check_known" "check_known" sCkK aK fd) : FnOk P w K mg base CX0 3 aK fd ["names", "known"] (spFirst K) := by
  obtain ⟨fdF, FF⟩ := C.F
  obtain ⟨fdL, FL⟩ := C.L
  obtain ⟨fdO, FO⟩ := C.O
  have G : FnOk P w K mg base CX0 2 aF fdF ["names", "things"] (spFirst K) := ok_first FF FL C.gL FO C.gO C.nI C.nL C.nT C.nS C.nE
  have b := FF.binds (ps := ["names", "things"]) fun _ _ _ _ _ _ us hl => match us, hl with | [_, _], _ => rfl
  refine F.ok scCkK (fun vs H Q E h => by obtain ⟨c, a, ns, known, e, _⟩ := h; rw [e]; rfl) fun cdv A outer s H vs Q E hr hsp => ?_
  obtain ⟨c, a, ns, known, rfl, hc, hS, nd1, sub, short, hq⟩ := hsp
  have nd := scCkK.nd
  refine ⟨_, pss_cons (ps_set (i := 2) nd rfl (Or.inl rfl) (pe_call G hr rfl C.gF FF.kp b .nil pass0 (pa_cons (pv 0) (pa_cons (pv 1) pa_nil))))
    (pss_one (ps_if (pt_cmp (pc_notN (pv 2))) (pss_one ps_never) pss_nil)), ?_⟩
  refine ⟨_, rfl, _, rfl, c, a, ns, known, rfl, hc, hS, nd1, sub, short, fun H1 k1 => ?_⟩
  exact ⟨_, rfl, _, rfl, iteF (hq H1 k1)⟩
theorem ok_ckA (C : Chk K mg aF aL aO aK aA aB) (F : Fun K "check_asked" "check_asked" sCkA aA fd) : FnOk P w K mg base CX0 2 aA fd ["names", "asked"] (spCkA K) := by
  obtain ⟨fdO, FO⟩ := C.O
  have G : FnOk P w K mg base CX0 1 aO fdO ["names", "thing"] (spIsOne K) := ok_isOne FO C.nI C.nS
  have b := FO.binds (ps := ["names", "thing"]) fun _ _ _ _ _ _ us hl => match us, hl with | [_, _], _ => rfl
  refine F.ok scCkA (fun vs H Q E h => by obtain ⟨c, ns, x, e, _⟩ := h; rw [e]; rfl) fun cdv A outer s H vs Q E hr hsp => ?_
  obtain ⟨c, ns, x, rfl, hc, xin, hq⟩ := hsp
  refine ⟨_, pss_one (ps_if (pt_not (pt_val (pe_call G hr rfl C.gO FO.kp b .nil pass0 (pa_cons (pv 0) (pa_cons (pv 1) pa_nil))))) (pss_one ps_never) pss_nil), ?_⟩
  refine ⟨_, rfl, _, rfl, c, ns, x, rfl, hc, _, rfl, ?_⟩
  rw [decide_eq_true xin]
  exact iteF hq
theorem ok_ckB (C : Chk K mg aF aL aO aK aA aB) (F : Fun K "check_both" "check_both" sCkB aB fd) : FnOk P w K mg base CX0 4 aB fd ["names", "known", "asked"] (spCkB K) := by
  obtain ⟨fdK, FK⟩ := C.CK
  obtain ⟨fdA, FA⟩ := C.CA
  have GK := ok_ckK (P := P) (w := w) (base := base) C FK
  have bK := FK.binds (ps := ["names", "known"]) fun _ _ _ _ _ _ us hl => match us, hl with | [_, _], _ => rfl
  have GA := ok_ckA (P := P) (w := w) (base := base) C FA
  have bA := FA.binds (ps := ["names", "asked"]) fun _ _ _ _ _ _ us hl => match us, hl with | [_, _], _ => rfl
  refine F.ok scCkB (fun vs H Q E h => by obtain ⟨c, a, ns, known, x, e, _⟩ := h; rw [e]; rfl) fun cdv A outer s H vs Q E hr hsp => ?_
  obtain ⟨c, a, ns, known, x, rfl, hc, hS, nd1, sub, short, xin, hq⟩ := hsp
  refine ⟨_, pss_cons (ps_expr (pe_call GK hr rfl C.gCK FK.kp bK .nil pass0 (pa_cons (pv 0) (pa_cons (pv 1) pa_nil))))
    (pss_one (ps_expr (pe_call GA (hr.mono (by decide)) rfl C.gCA FA.kp bA .nil pass0 (pa_cons (pv 0) (pa_cons (pv 2) pa_nil))))), ?_⟩
  refine ⟨_, rfl, _, rfl, c, a, ns, known, rfl, hc, hS, nd1, sub, short, fun H1 k1 => ?_⟩
  exact ⟨_, rfl, _, rfl, c, ns, x, rfl, SqL.of (k1 _ _ hc), xin, hq H1 k1⟩
end
end L2.TB
namespace L2.TB
open PySem PySem.Spec PyProof.Rows
/-! what is walked is a list or a tuple -/
def iSeq (K : PySem.W.Frag) (tl : TE) : TI := fun σ H R => tl σ H fun x H1 => ∃ a xs, x = .ref a ∧ ((SqL K H1 a xs ∧ R (Itl K a) H1) ∨ (SqT K H1 a xs ∧ R (Itt K a) H1))
theorem pi_seq {X : Cx} {tg l : Expr} {tl : TE} (hl : PE X l tl) : PI X tg l (iSeq X.K tl) := by
  refine PI.mk fun pins z σ H R I reading => thn (hl.run pins z σ H _ I reading) fun v z1 ⟨x, H1, I1, rel, a, xs, ex, both⟩ => ?_
  subst ex
  obtain rfl : v = Value.ref a := rel
  have one : ∀ (o : Obj), FpOk X pins H1 z1.heap.objs.size := fun _ => I1.fpOk (Nat.le_refl _) (I1.hok.fresh (Nat.le_refl _))
  have fresh : ∀ b ∈ [z1.heap.objs.size], FpOk X pins H1 b := fun b hb => by
    obtain rfl := List.mem_singleton.mp hb
    exact I1.fpOk (Nat.le_refl _) (I1.hok.fresh (Nat.le_refl _))
  rcases both with ⟨sq, q⟩ | ⟨sq, q⟩
  · obtain ⟨its, rv, isL, _⟩ := I1.list sq
    exact wpAny_pyIter_list isL.isList ⟨_, _, _, _, H1, rfl, I1.kept (t' := z1.toks) (fun b o e => Heap.get?_push_of_some _ e), turn_list a _, ⟨_, Heap.get?_push_size _ rfl, rfl, rfl⟩, fresh, q⟩
  · obtain ⟨its, rv, isT, _⟩ := I1.tuple sq
    exact wpAny_pyIter_tuple (show z1.heap.IsTuple a its.toArray from isT) ⟨_, _, _, _, H1, rfl, I1.kept (t' := z1.toks) (fun b o e => Heap.get?_push_of_some _ e), turn_tuple a _, ⟨_, Heap.get?_push_size _ rfl, rfl, rfl⟩, fresh, q⟩
/-- a for loop over it -/
theorem for_seq {K : PySem.W.Frag} {a : Addr} {xs : List V} {o : HO} {g : TG} {tb : TS} {D : Ends} {σ : St} {H : Hp} (ko : o = .lst xs ∨ o = .tup xs) (Pv : Nat → St → Hp → Prop) (h0 : Pv 0 σ H) (hl : ∀ i σ H, i ≤ xs.length → Pv i σ H → H a = some o)
    (hs : ∀ i x σ H, xs[i]? = some x → Pv i σ H → g x σ H fun σ2 H2 => tb { D with nx := Pv (i + 1), ct := Pv (i + 1), bk := D.nx } σ2 H2) (hd : ∀ σ H, Pv xs.length σ H → D.nx σ H) :
    ∃ b ys, V.ref a = V.ref b ∧ ((SqL K H b ys ∧ ForW (Itl K b) g tb D σ H) ∨ (SqT K H b ys ∧ ForW (Itt K b) g tb D σ H)) := by
  have q0 := hl 0 σ H (Nat.zero_le _) h0
  rcases ko with rfl | rfl
  · exact ⟨a, xs, rfl, .inl ⟨SqL.of q0, for_list Pv h0 (fun i σ H le p => SqL.of (hl i σ H le p)) hs hd⟩⟩
  · exact ⟨a, xs, rfl, .inr ⟨SqT.of q0, for_tup Pv h0 (fun i σ H le p => SqT.of (hl i σ H le p)) hs hd⟩⟩
/-- what a list comprehension asks of its turns -/
def LcW (J : It) (g : TG) (tt : TT) (te : TE) (vs : List Nat) (σ : St) (H1 : Hp) (Q : Addr → Hp → Prop) : Prop := ∀ D, H1 D = none → ∃ W : Nat → Nat → Hp → Prop, (∃ m, W 0 m (upd H1 D (.lst []))) ∧ ∀ i m H, W i m H →
  (J.stop i H ∧ Q D H) ∨ (J.go i H ∧ ∃ Nx : Hp → Prop, (∀ H', Nx H' → ∃ m', m' < m ∧ W (i + 1) m' H') ∧ ∀ x H', J.yld i H x H' → g x (wipe σ vs) H' fun σ2 H2 => wipe σ2 vs = wipe σ vs ∧ tt σ2 H2 fun b H3 =>
    if b = true then te σ2 H3 fun y H4 => ∃ acc, H4 D = some (.lst acc) ∧ acc.length < sizeLine ∧ Nx (upd H4 D (.lst (acc ++ [y]))) else Nx H3)
/-- a turn of a comprehension: keep tells whether x is kept, fv x is what is made of it; nothing that was there is changed -/
def LcTurn (g : TG) (tt : TT) (te : TE) (vs : List Nat) (σ : St) (xs : List V) (keep : V → Bool) (fv : V → V) (H1 : Hp) : Prop :=
  ∀ (i : Nat) (x : V) (H : Hp) (C : V → Hp → Prop) (N : Hp → Prop), xs[i]? = some x → Same H1 H → (keep x = true → ∀ H4, Same H H4 → C (fv x) H4) → (keep x = false → ∀ H4, Same H H4 → N H4) →
    g x (wipe σ vs) H fun σ2 H2 => wipe σ2 vs = wipe σ vs ∧ tt σ2 H2 fun b H3 => if b = true then te σ2 H3 C else N H3
theorem filter_snoc (keep : V → Bool) (fv : V → V) {xs : List V} {i : Nat} {x : V} (ex : xs[i]? = some x) :
    ((xs.take (i + 1)).filter keep).map fv = ((xs.take i).filter keep).map fv ++ (if keep x = true then [fv x] else []) := by
  have e1 : xs.take (i + 1) = xs.take i ++ [x] := by rw [List.take_succ, ex]; rfl
  rw [e1, List.filter_append, List.map_append]
  congr 1
  cases h : keep x <;> simp [h]
theorem lc_seq {K : PySem.W.Frag} {a : Addr} {xs : List V} {o : HO} {g : TG} {tt : TT} {te : TE} {vs : List Nat} {σ : St} {H1 : Hp} {Q : Addr → Hp → Prop} (ko : o = .lst xs ∨ o = .tup xs) (ho : H1 a = some o) (short : xs.length < 1000000) (keep : V → Bool) (fv : V → V)
    (turn : LcTurn g tt te vs σ xs keep fv H1) (fin : ∀ H D, H1 D = none → H D = some (.lst ((xs.filter keep).map fv)) → Same H1 H → Q D H) :
    ∃ b ys, V.ref a = V.ref b ∧ ((SqL K H1 b ys ∧ LcW (Itl K b) g tt te vs σ H1 Q) ∨ (SqT K H1 b ys ∧ LcW (Itt K b) g tt te vs σ H1 Q)) := by
  have go : ∀ D, H1 D = none → ∀ (i : Nat) (x : V) (H : Hp), xs[i]? = some x → (H D = some (.lst (((xs.take i).filter keep).map fv)) ∧ Same H1 H) → g x (wipe σ vs) H fun σ2 H2 => wipe σ2 vs = wipe σ vs ∧ tt σ2 H2 fun b H3 =>
      if b = true then te σ2 H3 fun y H4 => ∃ acc, H4 D = some (.lst acc) ∧ acc.length < sizeLine ∧ ((upd H4 D (.lst (acc ++ [y]))) D = some (.lst (((xs.take (i + 1)).filter keep).map fv)) ∧ Same H1 (upd H4 D (.lst (acc ++ [y])))) else (H3 D = some (.lst (((xs.take (i + 1)).filter keep).map fv)) ∧ Same H1 H3) := by
    rintro D nD i x H ex ⟨oD, s1⟩
    refine turn i x H _ _ ex s1 (fun k H4 s4 => ⟨_, s4 _ _ oD, ?_, ?_, ?_⟩) (fun k H4 s4 => ⟨?_, s1.trans s4⟩)
    · rw [sizeLine_eq, List.length_map]
      have := List.length_filter_le keep (xs.take i)
      rw [List.length_take] at this
      omega
    · rw [upd_same, filter_snoc keep fv ex, if_pos k]
    · intro b u e
      have nb : b ≠ D := ne_of_none e nD
      rw [upd_ne nb]
      exact s4 _ _ (s1 _ _ e)
    · rw [filter_snoc keep fv ex, k]
      simpa using s4 _ _ oD
  have all : xs.take xs.length = xs := List.take_length
  rcases ko with rfl | rfl
  · exact ⟨a, xs, rfl, .inl ⟨SqL.of ho, fun D nD => lc_list (xs := xs) (fun i H => H D = some (.lst (((xs.take i).filter keep).map fv)) ∧ Same H1 H) ⟨upd_same, same_new nD⟩ (fun i H _ p => SqL.of (p.2 _ _ ho)) (fun i x H ex p => go D nD i x H ex p)
      (fun H p => fin H D nD (by rw [all] at p; exact p.1) p.2)⟩⟩
  · exact ⟨a, xs, rfl, .inr ⟨SqT.of ho, fun D nD => lc_tup (xs := xs) (fun i H => H D = some (.lst (((xs.take i).filter keep).map fv)) ∧ Same H1 H) ⟨upd_same, same_new nD⟩ (fun i H _ p => SqT.of (p.2 _ _ ho)) (fun i x H ex p => go D nD i x H ex p)
      (fun H p => fin H D nD (by rw [all] at p; exact p.1) p.2)⟩⟩
end L2.TB
namespace L2.TB
open PySem PySem.Spec PyProof.Rows
theorem boot_all' : bootBuiltins "all" = some (.builtin "all") := by decide +kernel
/-- a comprehension without a test over anything: ys is what it makes -/
theorem lc_gen {J : It} {g : TG} {tt : TT} {te : TE} {vs : List Nat} {σ : St} {H1 : Hp} {Q : Addr → Hp → Prop} (ys : List V) (short : ys.length < 1000000) (go : ∀ i H, Same H1 H → i < ys.length → J.go i H) (stop : ∀ H, Same H1 H → J.stop ys.length H)
    (turn : ∀ (i : Nat) (x y : V) (H H' : Hp) (C : V → Hp → Prop) (N : Hp → Prop), ys[i]? = some y → Same H1 H → J.yld i H x H' → (∀ H4, Same H H4 → C y H4) → g x (wipe σ vs) H' fun σ2 H2 => wipe σ2 vs = wipe σ vs ∧ tt σ2 H2 fun b H3 => if b = true then te σ2 H3 C else N H3)
    (fin : ∀ H D, H1 D = none → H D = some (.lst ys) → Same H1 H → Q D H) : LcW J g tt te vs σ H1 Q := by
  intro D nD
  refine ⟨fun i m H => m = ys.length - i ∧ i ≤ ys.length ∧ H D = some (.lst (ys.take i)) ∧ Same H1 H, ⟨_, rfl, Nat.zero_le _, upd_same, same_new nD⟩, ?_⟩
  rintro i m H ⟨rfl, le, oD, s1⟩
  by_cases lt : i < ys.length
  · refine .inr ⟨go i H s1 lt, fun H' => H' D = some (.lst (ys.take (i + 1))) ∧ Same H1 H', fun H' h => ⟨ys.length - (i + 1), by omega, rfl, lt, h⟩, fun x H' yl => ?_⟩
    have ey : ys[i]? = some ys[i] := List.getElem?_eq_getElem lt
    refine turn i x ys[i] H H' _ _ ey s1 yl fun H4 s4 => ⟨_, s4 _ _ oD, ?_, ?_, ?_⟩
    · rw [sizeLine_eq, List.length_take]; omega
    · rw [upd_same, List.take_succ, ey]; rfl
    · intro b u e
      rw [upd_ne (ne_of_none e nD)]
      exact s4 _ _ (s1 _ _ e)
  · obtain rfl : i = ys.length := by omega
    rw [List.take_length] at oD
    exact .inl ⟨stop H s1, fin H D nD oD s1⟩
def bools (n : Nat) : List V := List.replicate n (V.bl true)
theorem bools_map (n : Nat) : bools n = (List.replicate n true).map V.bl := by unfold bools; rw [List.map_replicate]
theorem bools_at {n i : Nat} {y : V} (h : (bools n)[i]? = some y) : y = .bl true ∧ i < n := by
  unfold bools at h
  rw [List.getElem?_replicate] at h
  split at h
  · exact ⟨(Option.some.inj h).symm, by assumption⟩
  · cases h
theorem bools_len (n : Nat) : (bools n).length = n := List.length_replicate
theorem all_true (n : Nat) : (List.replicate n true).all id = true := by simp
def spIsName : Sp := fun vs H Q _ => ∃ x : Str, vs = [.str x] ∧ NmOk x ∧ ∀ H', Same H H' → Q (.bl true) H'
abbrev NIn : List Str := ["thing", "sign"]
theorem scIsName : FnScope NIn ["thing"] (defScope sIsName) := ⟨rfl, rfl, rfl, by decide +kernel, rfl, by decide +kernel, by decide +kernel⟩
/-- a dict has just these names, all true -/
def spHasJust : Sp := fun vs H Q _ => ∃ (d c : Addr) (kvs : List (Key × V)) (ns : List Str), vs = [.ref d, .ref c] ∧ H d = some (.dK kvs) ∧ H c = some (.lst (ns.map V.str)) ∧ kvs.map (·.1) = ns.map Sum.inr ∧ ns.length < 1000 ∧ ∀ H', Same H H' → Q (.bl true) H'
abbrev NHj : List Str := ["thing", "names", "name"]
theorem scHasJust : FnScope NHj ["thing", "names"] (defScope sHasJust) := ⟨rfl, rfl, rfl, by decide +kernel, rfl, by decide +kernel, by decide +kernel⟩
section
variable {P : Program} {w : World} {K : PySem.W.Frag} {mg : Str → Option Value} {base : Heap} {f : Addr} {fd : FuncData}
theorem ok_isName (F : Fun K "is_name" "is_name" sIsName f fd) (gI : mg "isinstance" = none) (gS : mg "str" = none) (gN : mg "len" = none) (gA : mg "all" = none) (gL : ∃ t, mg "LONGEST" = some (.int 40 t)) (gSg : ∃ t, mg "SIGNS" = some (.str (Str.ofString "abcdefghijklmnopqrstuvwxyz0123456789.") t)) :
    FnOk P w K mg base CX0 1 f fd ["thing"] spIsName := by
  obtain ⟨tL, gL⟩ := gL
  obtain ⟨tS, gSg⟩ := gSg
  refine F.ok scIsName (fun vs H Q E h => by obtain ⟨x, e, _⟩ := h; rw [e]; rfl) fun cdv A outer s H vs Q E hr hsp => ?_
  obtain ⟨x, rfl, ok, hq⟩ := hsp
  obtain ⟨l1, l2, chars⟩ := ok
  have nd := scIsName.nd
  refine ⟨_, pss_cons (ps_if (PW.pt (pw_or (pt_not (pt_val (pe_callB (r := rIsi K) call_isi rfl gI boot_isi (pa_cons (pv 0) (pa_cons (pe_bltn (v := .ty "str") rfl gS boot_str' rfl) pa_nil)))))
      (pw_or1 (pt_not (pt_chain op_le op_le pe_int (pe_callB call_len_str rfl gN boot_len (pa_cons (pv 0) pa_nil)) (pe_glob (v := .int 40) rfl gL ⟨_, rfl⟩)))))) (pss_one ps_never) pss_nil)
    (pss_one (ps_ret (pe_callB (cr_all rfl) rfl gA boot_all' (pa_cons (pe_lc (own := [("sign", 1)]) (tt := tYes) rfl nd (pi_str (pv 0)) (blkOk_by (N := NIn) (sc := defScope sIsName) (by decide +kernel)) (fun _ _ _ _ _ => pg_name (i := 1) nd rfl (Or.inl rfl)) (fun _ _ _ _ _ => pts_nil)
      (fun _ _ _ _ _ => pe_cmpR op_in_sign (pv 1) (pe_glob (v := .str (Str.ofString "abcdefghijklmnopqrstuvwxyz0123456789.")) rfl gSg ⟨_, rfl⟩) rfl)) pa_nil)))), ?_⟩
  have lz : x.length = x.cps.toList.length := (Array.length_toList (xs := x.cps)).symm
  refine ⟨_, rfl, _, _, _, _, true, rfl, .ty _, .base (.str x), kit_ty (by decide +kernel), _, rfl, iteF ?_⟩
  refine ⟨_, rfl, x, rfl, (by rw [sizeLine_eq]; omega), _, _, rfl, rfl, _, rfl, ?_⟩
  rw [decide_eq_true (by omega : (1 : Int) ≤ (x.length : Nat))]
  refine iteT ⟨_, _, rfl, rfl, _, rfl, ?_⟩
  rw [decide_eq_true (by omega : ((x.length : Nat) : Int) ≤ 40)]
  refine iteF ?_
  refine ⟨_, rfl, x, rfl, lc_gen (bools x.cps.toList.length) (by rw [bools_len]; omega) (fun i H' _ lt => ?_) (fun H' _ => ?_) ?_ ?_⟩
  · rw [bools_len, Array.length_toList] at lt; exact lt
  · rw [bools_len, Array.length_toList]; exact Nat.le_refl _
  · rintro i v y H2 H3 Cn Nn ey s2 ⟨rfl, c, ec, rfl⟩ yes
    obtain ⟨rfl, lt⟩ := bools_at ey
    have cin : c ∈ signsL := chars c (List.mem_of_getElem? (by rw [Array.getElem?_toList]; exact ec))
    refine ⟨rfl, ?_⟩
    refine ⟨_, rfl, c, _, rfl, rfl, ?_⟩
    have z := yes H3 (Same.refl _)
    have e : decide (c ∈ (Str.ofString "abcdefghijklmnopqrstuvwxyz0123456789.").cps.toList) = true := decide_eq_true cin
    rw [e]
    exact z
  · intro H2 D nD oD s2
    rw [bools_map] at oD
    refine ⟨D, _, rfl, SqL.of oD, ?_⟩
    rw [all_true]
    exact hq H2 s2
end
end L2.TB
/-! data with a Lean type, dicts among it; == and != of it -/
namespace L2.TB
open PySem PySem.Spec PyProof.Rows
open PySem.W (EqTree)
theorem tree_mono {prog : Program} {w : World} {s : Shared} {n : Nat} {v y : Value} {b : Bool} (t : EqTree prog w s n v y b) : ∀ {m : Nat}, n ≤ m → EqTree prog w s m v y b := by
  induction t with
  | leaf h1 => exact fun h => .leaf fun A hu => h1 A (by omega)
  | same => exact fun h => .same
  | lists hne hl hl' hsz _ ih =>
    intro m h
    obtain ⟨k, rfl⟩ : ∃ k, m = k + 1 := ⟨m - 1, by omega⟩
    exact .lists hne hl hl' hsz fun j h1 h2 => ih j h1 h2 (by omega)
  | listsLen hne hl hl' hsz =>
    intro m h
    obtain ⟨k, rfl⟩ : ∃ k, m = k + 1 := ⟨m - 1, by omega⟩
    exact .listsLen hne hl hl' hsz
  | tuples hne hl hl' _ ih =>
    intro m h
    obtain ⟨k, rfl⟩ : ∃ k, m = k + 1 := ⟨m - 1, by omega⟩
    exact .tuples hne hl hl' fun j h1 h2 => ih j h1 h2 (by omega)
  | dicts hne ha hb da db _ ih =>
    intro m h
    obtain ⟨k, rfl⟩ : ∃ k, m = k + 1 := ⟨m - 1, by omega⟩
    exact .dicts hne ha hb da db fun k v y hm hv => ih k v y hm hv (by omega)
class PyD (α : Type) where
  at_ : (Addr → Prop) → Hp → V → α → Prop
  eqv : α → α → Bool
  depth : Nat
  same : ∀ (A B : Addr → Prop) (H : Hp) (v : V) (p q : α), at_ A H v p → at_ B H v q → eqv p q = true
  tree : ∀ {X : Cx} {pins : List (Addr × Obj)} {σ : L2.St} {H : Hp} {s : Shared} {A B : Addr → Prop}, Inv X pins σ H s → ∀ (x y : V) (v u : Value) (p q : α), at_ A H x p → at_ B H y q → RelV x v → RelV y u → EqTree X.prog X.w s depth v u (eqv p q)
  kp : ∀ {A A' : Addr → Prop} {H H' : Hp} {v : V} {p : α}, at_ A H v p → (∀ b o, A b → H b = some o → A' b ∧ H' b = some o) → at_ A' H' v p
instance : PyD Str where
  at_ _ _ v x := v = .str x
  eqv a b := decide (a = b)
  depth := 0
  same _ _ _ v p q h1 h2 := by
    subst h1
    exact decide_eq_true (V.str.inj h2)
  tree {X pins σ H s A0 B0} I x y v u p q h1 h2 rx ry := by
    subst h1 h2
    obtain ⟨t, rfl⟩ := rx
    obtain ⟨t', rfl⟩ := ry
    refine .leaf fun A hu => ?_
    have z := SeqAt.eqAt_plain (.str p) (.str q) A s (.str p t) (.str q t') _ _ (Reads.str (h := s.heap) p t) (Reads.str (h := s.heap) q t') rfl rfl (by
      have := Nat.min_le_left (PyData.str p).depth (PyData.str q).depth
      have e : (PyData.str p).depth = 0 := rfl
      omega)
    have e : PyData.eqv (.str p) (.str q) = decide (p = q) := PySem.W.Datum.eqv p q
    rw [e] at z
    exact z
  kp h _ := h
instance : PyD Int where
  at_ _ _ v x := v = .int x
  eqv a b := decide (a = b)
  depth := 0
  same _ _ _ v p q h1 h2 := by
    subst h1
    exact decide_eq_true (V.int.inj h2)
  tree {X pins σ H s A0 B0} I x y v u p q h1 h2 rx ry := by
    subst h1 h2
    obtain ⟨t, rfl⟩ := rx
    obtain ⟨t', rfl⟩ := ry
    refine .leaf fun A hu => ?_
    have z := SeqAt.eqAt_plain (.int p) (.int q) A s (.int p t) (.int q t') _ _ (Reads.int (h := s.heap) p t) (Reads.int (h := s.heap) q t') rfl rfl (by
      have := Nat.min_le_left (PyData.int p).depth (PyData.int q).depth
      have e : (PyData.int p).depth = 0 := rfl
      omega)
    have e : PyData.eqv (.int p) (.int q) = decide (p = q) := PySem.W.Datum.eqv p q
    rw [e] at z
    exact z
  kp h _ := h
theorem vals_two {x1 x2 : V} : ∀ {us : List Value}, Vals [x1, x2] us → ∃ u1 u2, us = [u1, u2] ∧ RelV x1 u1 ∧ RelV x2 u2
  | _, .cons h1 (.cons h2 .nil) => ⟨_, _, rfl, h1, h2⟩
instance {α β : Type} [PyD α] [PyD β] : PyD (α × β) where
  at_ A H v p := ∃ a x y, v = .ref a ∧ A a ∧ H a = some (.tup [x, y]) ∧ PyD.at_ A H x p.1 ∧ PyD.at_ A H y p.2
  eqv p q := PyD.eqv p.1 q.1 && PyD.eqv p.2 q.2
  depth := max (PyD.depth α) (PyD.depth β) + 1
  same A B H v p q h1 h2 := by
    obtain ⟨a, x, y, rfl, _, o, a1, a2⟩ := h1
    obtain ⟨b, x', y', e, _, o', b1, b2⟩ := h2
    obtain rfl := V.ref.inj e
    rw [o] at o'
    have e2 := HO.tup.inj (Option.some.inj o')
    obtain rfl := (List.cons.inj e2).1
    obtain rfl := (List.cons.inj (List.cons.inj e2).2).1
    rw [PyD.same A B H x _ _ a1 b1, PyD.same A B H y _ _ a2 b2]
    rfl
  tree {X pins σ H s A0 B0} I x y v u p q h1 h2 rx ry := by
    obtain ⟨a, x1, x2, rfl, _, o, a1, a2⟩ := h1
    obtain ⟨b, y1, y2, rfl, _, o', b1, b2⟩ := h2
    cases (show v = Value.ref a from rx)
    cases (show u = Value.ref b from ry)
    by_cases e : a = b
    · subst e
      rw [o] at o'
      have e2 := HO.tup.inj (Option.some.inj o')
      obtain rfl := (List.cons.inj e2).1
      obtain rfl := (List.cons.inj (List.cons.inj e2).2).1
      rw [PyD.same A0 B0 H x1 _ _ a1 b1, PyD.same A0 B0 H x2 _ _ a2 b2]
      exact .same
    · obtain ⟨us, r1, p1, _⟩ := I.tuple (SqT.of (K := X.K) o)
      obtain ⟨ws, r2, p2, _⟩ := I.tuple (SqT.of (K := X.K) o')
      obtain ⟨u1, u2, rfl, ru1, ru2⟩ := vals_two r1
      obtain ⟨w1, w2, rfl, rw1, rw2⟩ := vals_two r2
      have t1 := tree_mono (PyD.tree I _ _ _ _ _ _ a1 b1 ru1 rw1) (Nat.le_max_left (PyD.depth α) (PyD.depth β))
      have t2 := tree_mono (PyD.tree I _ _ _ _ _ _ a2 b2 ru2 rw2) (Nat.le_max_right (PyD.depth α) (PyD.depth β))
      have z := EqTree.tuples (e := fun j => match j with | 0 => PyD.eqv p.1 q.1 | _ => PyD.eqv p.2 q.2) e p1 p2 (fun j h1 h2 => by
        match j, h1, h2 with
        | 0, _, _ => exact t1
        | 1, _, _ => exact t2
        | j + 2, h1, _ => exact absurd h1 (by simp))
      have e3 : ((List.range (min [u1, u2].toArray.size [w1, w2].toArray.size)).all (fun j => match j with | 0 => PyD.eqv p.1 q.1 | _ => PyD.eqv p.2 q.2) && [u1, u2].toArray.size == [w1, w2].toArray.size) = (PyD.eqv p.1 q.1 && PyD.eqv p.2 q.2) := by
        have : min [u1, u2].toArray.size [w1, w2].toArray.size = 2 := rfl
        rw [this]
        simp [List.range, List.range.loop]
      rw [e3] at z
      exact z
  kp h k := by
    obtain ⟨a, x, y, e, ha, o, a1, a2⟩ := h
    exact ⟨a, x, y, e, (k _ _ ha o).1, (k _ _ ha o).2, PyD.kp a1 k, PyD.kp a2 k⟩
/-- a dict with texts as its keys -/
structure Dc (α : Type) where
  l : List (Str × α)
def lk {α : Type} (l : List (Str × α)) (n : Str) : Option α := (l.find? fun e => decide (e.1 = n)).map (·.2)
def eqO {α : Type} [PyD α] : Option α → Option α → Bool
  | some a, some b => PyD.eqv a b
  | _, _ => false
theorem lk_cons {α : Type} (e : Str × α) (l : List (Str × α)) (n : Str) : lk (e :: l) n = if e.1 = n then some e.2 else lk l n := by
  unfold lk
  by_cases h : e.1 = n
  · rw [List.find?_cons_of_pos (by simpa using h), if_pos h]
    rfl
  · rw [List.find?_cons_of_neg (by simpa using h), if_neg h]
theorem lk_mem {α : Type} {l : List (Str × α)} (nd : (l.map (·.1)).Nodup) {e : Str × α} (h : e ∈ l) : lk l e.1 = some e.2 := by
  induction l with
  | nil => cases h
  | cons a l ih =>
    rw [List.map_cons, List.nodup_cons] at nd
    rw [lk_cons]
    rcases List.mem_cons.mp h with rfl | h
    · rw [if_pos rfl]
    · rw [if_neg (fun z => nd.1 (by rw [z]; exact List.mem_map_of_mem h)), ih nd.2 h]
theorem lk_out {α : Type} {l : List (Str × α)} {n : Str} (h : n ∉ l.map (·.1)) : lk l n = none := by
  induction l with
  | nil => rfl
  | cons a l ih =>
    rw [List.map_cons, List.mem_cons, not_or] at h
    rw [lk_cons, if_neg (fun z => h.1 z.symm), ih h.2]
def DcE {α : Type} [PyD α] (A : Addr → Prop) (H : Hp) (e : Key × V) (p : Str × α) : Prop := e.1 = Sum.inr p.1 ∧ PyD.at_ A H e.2 p.2
theorem val_lk {α : Type} [PyD α] {A : Addr → Prop} {H : Hp} {es : List (Key × V)} {l : List (Str × α)} (h : Paired (DcE A H) es l) (n : Str) : (valV es (Sum.inr n) = none ∧ lk l n = none) ∨ ∃ v a, valV es (Sum.inr n) = some v ∧ lk l n = some a ∧ PyD.at_ A H v a := by
  induction h with
  | nil => exact .inl ⟨rfl, rfl⟩
  | @cons e p es l h _ ih =>
    rw [lk_cons]
    by_cases c : p.1 = n
    · rw [if_pos c, valV_pos (by rw [h.1, c])]
      exact .inr ⟨_, _, rfl, rfl, h.2⟩
    · rw [if_neg c, valV_neg (by rw [h.1]; exact fun z => c (Sum.inr.inj z))]
      exact ih
theorem kv_mem {ks : List (Key × V)} {va : List (Key × Value)} (r : KV ks va) {k : Key} {v : Value} (h : (k, v) ∈ va) : ∃ x, (k, x) ∈ ks ∧ RelV x v := by
  unfold KV at r
  induction r with
  | nil => cases h
  | @cons p q ps qs h1 _ ih =>
    rcases List.mem_cons.mp h with e | h
    · subst e
      obtain ⟨a, b⟩ := h1
      refine ⟨p.2, ?_, b⟩
      have a : p.1 = k := a
      rw [← a]
      exact List.mem_cons_self
    · obtain ⟨x, hx, rx⟩ := ih h
      exact ⟨x, List.mem_cons_of_mem _ hx, rx⟩
theorem paired_mem {α β : Type} {F : α → β → Prop} {as : List α} {bs : List β} (h : Paired F as bs) {a : α} (ha : a ∈ as) : ∃ b ∈ bs, F a b := by
  induction h with
  | nil => cases ha
  | cons h _ ih =>
    rcases List.mem_cons.mp ha with rfl | ha
    · exact ⟨_, List.mem_cons_self, h⟩
    · obtain ⟨b, hb, f⟩ := ih ha
      exact ⟨b, List.mem_cons_of_mem _ hb, f⟩
theorem dc_keys {α : Type} [PyD α] {A : Addr → Prop} {H : Hp} {es : List (Key × V)} {l : List (Str × α)} (h : Paired (DcE A H) es l) : es.map (·.1) = (l.map (·.1)).map Sum.inr := by
  induction h with
  | nil => rfl
  | cons h _ ih => rw [List.map_cons, List.map_cons, List.map_cons, ih, h.1]
abbrev dcEqv {α : Type} [PyD α] (l l' : List (Str × α)) : Bool := l.length == l'.length && l.all fun e => (lk l' e.1).isSome && eqO (lk l e.1) (lk l' e.1)
theorem dc_same {α : Type} [PyD α] {A B : Addr → Prop} {H : Hp} {es : List (Key × V)} {l l' : List (Str × α)} (nd : (l.map (·.1)).Nodup) (h : Paired (DcE A H) es l) (h' : Paired (DcE B H) es l') : dcEqv l l' = true := by
  have len : l.length = l'.length := by rw [← Paired.length h, ← Paired.length h']
  unfold dcEqv
  rw [len]
  simp only [beq_self_eq_true, Bool.true_and, List.all_eq_true]
  intro e he
  rcases val_lk h e.1 with ⟨h1, h2⟩ | ⟨v, a, h1, h2, h3⟩
  · rw [lk_mem nd he] at h2
    cases h2
  · rcases val_lk h' e.1 with ⟨h4, _⟩ | ⟨v', a', h4, h5, h6⟩
    · rw [h1] at h4
      cases h4
    · rw [h1] at h4
      obtain rfl := Option.some.inj h4
      rw [h2, h5]
      show (true && PyD.eqv a a') = true
      rw [PyD.same A B H v a a' h3 h6]
      rfl
theorem kv_all {ks : List (Key × V)} {va : List (Key × Value)} (r : KV ks va) (f : Key → Bool) : (va.all fun p => f p.1) = ks.all fun p => f p.1 := by
  unfold KV at r
  induction r with
  | nil => rfl
  | @cons p q ps qs h1 _ ih => rw [List.all_cons, List.all_cons, ih, show p.1 = q.1 from h1.1]
theorem dc_all {α : Type} [PyD α] {A : Addr → Prop} {H : Hp} {es : List (Key × V)} {l : List (Str × α)} (h : Paired (DcE A H) es l) (f : Key → Bool) : (es.all fun p => f p.1) = l.all fun p => f (Sum.inr p.1) := by
  induction h with
  | nil => rfl
  | @cons e p es l h _ ih => rw [List.all_cons, List.all_cons, ih, h.1]
def keyE {α : Type} [PyD α] (l l' : List (Str × α)) (k : Key) : Bool := match k with | .inr n => eqO (lk l n) (lk l' n) | .inl _ => false
/-- what two dicts' comparison rests on -/
theorem dc_tree {α : Type} [PyD α] {A B : Addr → Prop} {X : Cx} {pins : List (Addr × Obj)} {σ : L2.St} {H : Hp} {s : Shared} (I : Inv X pins σ H s) {a b : Addr} {es fs : List (Key × V)} {l l' : List (Str × α)} (oa : H a = some (.dK es)) (ob : H b = some (.dK fs)) (nd : (l.map (·.1)).Nodup) (h : Paired (DcE A H) es l) (h' : Paired (DcE B H) fs l') :
    ∃ va vb, (a == sysModules) = false ∧ (b == sysModules) = false ∧ s.heap.DictOf (mixKind X.prog X.w) a va ∧ s.heap.DictOf (mixKind X.prog X.w) b vb ∧
      (∀ k v y, (k, v) ∈ va → valueAt vb k = some y → EqTree X.prog X.w s (PyD.depth α) v y (keyE l l' k)) ∧
      (va.length == vb.length && va.all fun p => (valueAt vb p.1).isSome && keyE l l' p.1) = dcEqv l l' := by
  obtain ⟨_, ya, va, ra, da⟩ := (show ObjOk X.prog X.w H s.heap a (.dK es) from I.hok a _ oa)
  obtain ⟨_, yb, vb, rb, db⟩ := (show ObjOk X.prog X.w H s.heap b (.dK fs) from I.hok b _ ob)
  refine ⟨va, vb, ya, yb, da, db, fun k v y hm hy => ?_, ?_⟩
  · obtain ⟨x, hx, rx⟩ := kv_mem ra hm
    obtain ⟨p, hp, hk, hat⟩ := paired_mem h hx
    have hk : k = Sum.inr p.1 := hk
    subst hk
    have rr : RelO (valV fs (Sum.inr p.1)) (valueAt vb (Sum.inr p.1)) := rb.val _
    rw [hy] at rr
    rcases val_lk h' p.1 with ⟨h1, h2⟩ | ⟨v', a', h1, h2, h3⟩
    · rw [h1] at rr
      cases rr
    · rw [h1] at rr
      obtain ⟨y2, e2, ry⟩ := RelO.some_of rr
      obtain rfl := Option.some.inj e2
      show EqTree _ _ _ _ _ _ (eqO (lk l p.1) (lk l' p.1))
      rw [lk_mem nd hp, h2]
      exact PyD.tree I _ _ _ _ _ _ hat h3 rx ry
  · have l1 : va.length = l.length := by rw [← ra.length]; exact Paired.length h
    have l2 : vb.length = l'.length := by rw [← rb.length]; exact Paired.length h'
    unfold dcEqv
    rw [l1, l2, kv_all ra (fun k => (valueAt vb k).isSome && keyE l l' k), dc_all h (fun k => (valueAt vb k).isSome && keyE l l' k)]
    congr 1
    refine List.all_congr rfl fun p => ?_
    show ((valueAt vb (Sum.inr p.1)).isSome && eqO (lk l p.1) (lk l' p.1)) = _
    have rr : RelO (valV fs (Sum.inr p.1)) (valueAt vb (Sum.inr p.1)) := rb.val _
    rcases val_lk h' p.1 with ⟨h1, h2⟩ | ⟨v', a', h1, h2, h3⟩
    · rw [h1] at rr
      rw [h2]
      cases q : valueAt vb (Sum.inr p.1) with
      | none => rfl
      | some z => rw [q] at rr; cases rr
    · rw [h1] at rr
      obtain ⟨y2, e2, ry⟩ := RelO.some_of rr
      rw [e2, h2]
      rfl
instance {α : Type} [PyD α] : PyD (Dc α) where
  at_ A H v d := ∃ a es, v = .ref a ∧ A a ∧ H a = some (.dK es) ∧ (d.l.map (·.1)).Nodup ∧ Paired (DcE A H) es d.l
  eqv d d' := dcEqv d.l d'.l
  depth := PyD.depth α + 1
  same A B H v p q h1 h2 := by
    obtain ⟨a, es, rfl, _, o, nd, pr⟩ := h1
    obtain ⟨b, fs, e, _, o', nd', pr'⟩ := h2
    obtain rfl := V.ref.inj e
    rw [o] at o'
    obtain rfl := HO.dK.inj (Option.some.inj o')
    exact dc_same nd pr pr'
  tree {X pins σ H s A0 B0} I x y v u p q h1 h2 rx ry := by
    obtain ⟨a, es, rfl, _, o, nd, pr⟩ := h1
    obtain ⟨b, fs, rfl, _, o', nd', pr'⟩ := h2
    cases (show v = Value.ref a from rx)
    cases (show u = Value.ref b from ry)
    by_cases e : a = b
    · subst e
      rw [o] at o'
      obtain rfl := HO.dK.inj (Option.some.inj o')
      rw [dc_same nd pr pr']
      exact .same
    · obtain ⟨va, vb, ya, yb, da, db, t, eq⟩ := dc_tree I o o' nd pr pr'
      have z := EqTree.dicts e ya yb da db t
      rw [eq] at z
      exact z
  kp h k := by
    obtain ⟨a, es, e, ha, o, nd, pr⟩ := h
    exact ⟨a, es, e, (k _ _ ha o).1, (k _ _ ha o).2, nd, Paired.mapP pr fun e p h => ⟨h.1, PyD.kp h.2 k⟩⟩
section
variable {X : Cx} {α : Type} [PyD α]
/-- == of two dicts -/
def rEqC (α : Type) [PyD α] (g : Bool → Bool) : R2 := fun x y H Q => ∃ (p q : Dc α) (A B : Addr → Prop), PyD.at_ A H x p ∧ PyD.at_ B H y q ∧ Q (.bl (g (PyD.eqv p q))) H
theorem op_eqC (hu : X.A.units + (PyD.depth α + 1) < cLine) : OpR X (compareOp .Eq) (rEqC α id) := by
  intro pins s σ H x y v u Q I rx ry h
  obtain ⟨p, q, A, B, ⟨a, es, rfl, _, o, nd, pr⟩, ⟨b, fs, rfl, _, o', nd', pr'⟩, hq⟩ := h
  cases (show v = Value.ref a from rx)
  cases (show u = Value.ref b from ry)
  obtain ⟨va, vb, ya, yb, da, db, t, eq⟩ := dc_tree I o o' nd pr pr'
  refine PySem.W.eq_dictsT ya yb da db t hu ?_
  rw [eq]
  exact ⟨.bl _, H, I, rfl, hq⟩
theorem op_neC (hu : X.A.units + (PyD.depth α + 1) < cLine) : OpR X (compareOp .NotEq) (rEqC α fun b => !b) := by
  intro pins s σ H x y v u Q I rx ry h
  obtain ⟨p, q, A, B, ⟨a, es, rfl, _, o, nd, pr⟩, ⟨b, fs, rfl, _, o', nd', pr'⟩, hq⟩ := h
  cases (show v = Value.ref a from rx)
  cases (show u = Value.ref b from ry)
  obtain ⟨va, vb, ya, yb, da, db, t, eq⟩ := dc_tree I o o' nd pr pr'
  refine wpAny_richCompare_same_room (op := .NotEq) da.typeIs db.typeIs PySem.F.slot_dict_ne (wpAny_call_entry PySem.F.slot_dict_ne da.typeIs PySem.F.entry_dict_ne ?_ (PySem.F.args_dict_ne_2 _ _)) (by omega)
  show wpAny _ _ (Builtin.Dict.dictSlotArgs "__ne__" ⟨[.ref a, .ref b], []⟩ >>= fun _ => _) _ _ s
  refine wpAny_bind ?_
  unfold Builtin.Dict.dictSlotArgs
  refine wpAny_bind (wpAny_notOrdered_dict da.typeIs ?_)
  show wpAny _ _ (pure (Value.ref a, Value.ref b)) _ _ s
  refine wpAny_pure (wpAny_bind (wpAny_isInstance (T := "dict") db.typeIs PySem.F.sub_dict_dict ?_))
  simp only [Bool.not_true, Bool.false_eq_true, if_false]
  refine wpAny_bind (wpAny_pure (wpAny_bind (wpAny_pure (wpAny_bind (PySem.W.keq_samePairsIn ya yb da db (fun _ => PySem.W.KeqHitsIn.of _ fun k v y hm hv => (t k v y hm hv).at _ (by show X.A.units + 1 + _ < cLine; omega)) ?_)))))
  rw [eq]
  exact wpAny_pure ⟨_, rfl, (fun x => nomatch x), ⟨.bl (!PyD.eqv p q), H, I, (by show Value.bool _ = Value.bool (!dcEqv p.l q.l); congr 1; cases dcEqv p.l q.l <;> rfl), hq⟩⟩
/-- == of two lists -/
def rEqS (α : Type) [PyD α] : R2 := fun x y H Q => ∃ (a b : Addr) (xs ys : List V) (ps qs : List α) (A B : Addr → Prop), x = .ref a ∧ y = .ref b ∧ H a = some (.lst xs) ∧ H b = some (.lst ys) ∧ Paired (PyD.at_ A H) xs ps ∧ Paired (PyD.at_ B H) ys qs ∧ Q (.bl (ps.length == qs.length && (ps.zip qs).all fun e => PyD.eqv e.1 e.2)) H
theorem zip_all {γ : Type} (f : γ → γ → Bool) : ∀ (ps qs : List γ), ps.length = qs.length → (ps.zip qs).all (fun e => f e.1 e.2) = (List.range ps.length).all fun j => match ps[j]?, qs[j]? with | some a, some b => f a b | _, _ => false
  | [], [], _ => rfl
  | a :: ps, b :: qs, h => by
    have ih := zip_all f ps qs (by simpa using h)
    rw [List.zip_cons_cons, List.all_cons, ih, List.length_cons, List.range_succ_eq_map, List.all_cons, List.all_map]
    rfl
  | [], _ :: _, h => by simp at h
  | _ :: _, [], h => by simp at h
theorem op_eqS (hu : X.A.units + (PyD.depth α + 1) < cLine) : OpR X (compareOp .Eq) (rEqS α) := by
  intro pins s σ H x y v u Q I rx ry h
  obtain ⟨a, b, xs, ys, ps, qs, A, B, rfl, rfl, oa, ob, pa, pb, hq⟩ := h
  cases (show v = Value.ref a from rx)
  cases (show u = Value.ref b from ry)
  obtain ⟨us, r1, p1, _⟩ := I.list (SqL.of (K := X.K) oa)
  obtain ⟨ws, r2, p2, _⟩ := I.list (SqL.of (K := X.K) ob)
  have l1 : us.length = ps.length := by rw [← r1.length]; exact Paired.length pa
  have l2 : ws.length = qs.length := by rw [← r2.length]; exact Paired.length pb
  by_cases len : ps.length = qs.length
  · have hsz : us.toArray.size = ws.toArray.size := by rw [List.size_toArray, List.size_toArray]; omega
    refine PySem.W.eq_listsT (n := PyD.depth α) (e := fun j => match ps[j]?, qs[j]? with | some a, some b => PyD.eqv a b | _, _ => false) p1.isList p2.isList hsz (fun j h1 h2 => ?_) hu ?_
    · have h1' : j < us.length := by simpa using h1
      have h2' : j < ws.length := by simpa using h2
      have gv : ∀ {xs : List V} {us : List Value}, Vals xs us → ∀ {j : Nat} (h : j < us.length), ∃ x, xs[j]? = some x ∧ RelV x us[j] := fun {xs us} r => by
        induction r with
        | nil => intro j h; exact absurd h (Nat.not_lt_zero _)
        | cons h _ ih =>
          intro j hj
          cases j with
          | zero => exact ⟨_, rfl, h⟩
          | succ j =>
            obtain ⟨x, e, rx⟩ := ih (Nat.lt_of_succ_lt_succ hj)
            exact ⟨x, e, rx⟩
      obtain ⟨x1, ex, rx1⟩ := gv r1 h1'
      obtain ⟨y1, ey, ry1⟩ := gv r2 h2'
      obtain ⟨q1, eq1, at1⟩ := LiI.paired_get pa ex
      obtain ⟨q2, eq2, at2⟩ := LiI.paired_get pb ey
      have z := PyD.tree I _ _ _ _ _ _ at1 at2 rx1 ry1
      simp only [eq1, eq2]
      simpa using z
    · have ee : ((List.range us.toArray.size).all fun j => match ps[j]?, qs[j]? with | some a, some b => PyD.eqv a b | _, _ => false) = (ps.length == qs.length && (ps.zip qs).all fun e => PyD.eqv e.1 e.2) := by
        rw [zip_all (fun a b => PyD.eqv a b) ps qs len, List.size_toArray, l1, len]
        simp
      rw [ee]
      exact ⟨.bl _, H, I, rfl, hq⟩
  · refine SeqAt.RcAt.lists_lengths p1.isList p2.isList (by simp [l1, l2, len]) (by omega) X.prog X.w _ _ ?_
    have ee : (ps.length == qs.length && (ps.zip qs).all fun e => PyD.eqv e.1 e.2) = false := by simp [len]
    rw [ee] at hq
    exact ⟨.bl false, H, I, rfl, hq⟩
end
end L2.TB
/-! what serves any law of this kind -/
namespace L2.TB
open PySem PySem.Spec PyProof.Rows
theorem strs_of : ∀ ys : List V, (∀ y ∈ ys, ∃ x, y = V.str x) → ∃ ks : List Str, ys = ks.map V.str
  | [], _ => ⟨[], rfl⟩
  | y :: ys, h => by
    obtain ⟨x, rfl⟩ := h y List.mem_cons_self
    obtain ⟨ks, rfl⟩ := strs_of ys fun z hz => h z (List.mem_cons_of_mem _ hz)
    exact ⟨x :: ks, rfl⟩
theorem some_strs {ns : List Str} {ys zs : List V} (pm : (ys ++ zs).Perm (ns.map V.str)) (nnd : ns.Nodup) : ∃ known : List Str, ys = known.map V.str ∧ known.Nodup ∧ ∀ x ∈ known, x ∈ ns := by
  have yin : ∀ y ∈ ys, ∃ x, y = V.str x := fun y hy => by
    have z : y ∈ ns.map V.str := pm.mem_iff.mp (List.mem_append_left _ hy)
    obtain ⟨x, _, rfl⟩ := List.mem_map.mp z
    exact ⟨x, rfl⟩
  obtain ⟨known, rfl⟩ := strs_of ys yin
  have ndall : (known.map V.str ++ zs).Nodup := pm.nodup_iff.mpr (List.Pairwise.map V.str (fun a b h e => h (V.str.inj e)) nnd)
  refine ⟨known, rfl, ?_, fun x hx => ?_⟩
  · have z := (List.nodup_append.mp ndall).1
    exact (List.pairwise_map.mp z).imp fun h e => h (congrArg V.str e)
  · have z : V.str x ∈ ns.map V.str := pm.mem_iff.mp (List.mem_append_left _ (List.mem_map_of_mem hx))
    obtain ⟨y, hy, e⟩ := List.mem_map.mp z
    exact V.str.inj e ▸ hy
theorem put_last {acc : List (Key × V)} {k : Key} {v : V} (h : k ∉ acc.map (·.1)) : putK acc k v = acc ++ [(k, v)] := by
  have nd : ∀ acc : List (Key × V), k ∉ acc.map (·.1) → putK acc k v = acc ++ [(k, v)] := by
    intro acc h
    have no : (acc.any fun e => decide (e.1 = k)) = false := by
      cases q : acc.any fun e => decide (e.1 = k) with
      | false => rfl
      | true =>
        obtain ⟨e, he, ee⟩ := List.any_eq_true.mp q
        exact absurd (of_decide_eq_true ee ▸ List.mem_map_of_mem (f := (·.1)) he) h
    unfold putK
    rw [no]
    rfl
  exact nd acc h
/-- what a dict comprehension asks of its turns -/
def DcW (J : It) (g : TG) (tt : TT) (tk tv : TE) (vs : List Nat) (σ : St) (H1 : Hp) (Q : Addr → Hp → Prop) : Prop := ∀ D, H1 D = none → ∃ W : Nat → Nat → Hp → Prop, (∃ m, W 0 m (upd H1 D (.dK []))) ∧ ∀ i m H, W i m H →
  (J.stop i H ∧ Q D H) ∨ (J.go i H ∧ ∃ Nx : Hp → Prop, (∀ H', Nx H' → ∃ m', m' < m ∧ W (i + 1) m' H') ∧ ∀ x H', J.yld i H x H' → g x (wipe σ vs) H' fun σ2 H2 => wipe σ2 vs = wipe σ vs ∧ tt σ2 H2 fun b H3 =>
    if b = true then tk σ2 H3 fun y H4 => tv σ2 H4 fun z H5 => ∃ kvs k, y = kV k ∧ H5 D = some (.dK kvs) ∧ kvs.length < sizeLine ∧ Nx (upd H5 D (.dK (putK kvs k z))) else Nx H3)
theorem paired_join {α β : Type} {F : α → β → Prop} {as : List α} {bs : List β} {a : α} {b : β} (h : Paired F as bs) (q : F a b) : Paired F (as ++ [a]) (bs ++ [b]) := by
  induction h with
  | nil => exact .cons q .nil
  | cons h _ ih => exact .cons h ih
theorem boot_sumN : bootBuiltins "sum" = some (.builtin "sum") := by decide +kernel
theorem lock_offN {H H' : Hp} {d : Addr} {u : HO} {od : Obj} (hd : H d = some u) (s : Same (upd H d (.frz od u)) H') : H' d = some (.frz od u) ∧ Same H (upd H' d u) := by
  refine ⟨s _ _ upd_same, fun b o e => ?_⟩
  by_cases hb : b = d
  · rw [hb, upd_same, ← hd, ← hb]; exact e
  · rw [upd_ne hb]
    exact s _ _ (by rw [upd_ne hb]; exact e)
theorem boot_allN : bootBuiltins "all" = some (.builtin "all") := by decide +kernel
theorem valV_atN : ∀ {kvs : List (Key × V)} {i : Nat} {k : Key} {x : V}, (kvs.map (·.1)).Nodup → kvs[i]? = some (k, x) → valV kvs k = some x
  | [], i, k, x, _, e => by cases e
  | p :: r, 0, k, x, _, e => by
    obtain rfl : p = (k, x) := by simpa using e
    exact valV_pos rfl
  | p :: r, i + 1, k, x, nd, e => by
    have e2 : r[i]? = some (k, x) := by simpa using e
    rw [List.map_cons, List.nodup_cons] at nd
    have ne : ¬ p.1 = k := fun z => nd.1 (by rw [z]; exact List.mem_map.mpr ⟨_, List.mem_of_getElem? e2, rfl⟩)
    rw [valV_neg ne]
    exact valV_atN nd.2 e2
theorem map_snocN {α β : Type} (f : α → β) {l : List α} {x : α} : (l ++ [x]).map f = l.map f ++ [f x] := by rw [List.map_append]; rfl
theorem dc_madeN {J : It} {g : TG} {tt : TT} {tk tv : TE} {vs : List Nat} {σ : St} {H1 : Hp} {Q : Addr → Hp → Prop} (ks : List Key) (short : ks.length < 1000000) (unlike : ks.Nodup) (go : ∀ i H, Same H1 H → i < ks.length → J.go i H) (stop : ∀ H, Same H1 H → J.stop ks.length H)
    (R : Nat → V → Hp → Prop) (stays : ∀ i y H H' D l, R i y H → H D = some (.dK l) → (∀ b o, b ≠ D → H b = some o → H' b = some o) → R i y H')
    (turn : ∀ (i : Nat) (x : V) (k : Key) (H H' : Hp) (C : V → V → Hp → Prop) (N : Hp → Prop), ks[i]? = some k → Same H1 H → J.yld i H x H' → (∀ v H5, R i v H5 → Same H H5 → C (kV k) v H5) →
      g x (wipe σ vs) H' fun σ2 H2 => wipe σ2 vs = wipe σ vs ∧ tt σ2 H2 fun b H3 => if b = true then tk σ2 H3 fun y H4 => tv σ2 H4 fun z H5 => C y z H5 else N H3)
    (fin : ∀ H D kvs, H1 D = none → H D = some (.dK kvs) → kvs.map (·.1) = ks → (∀ j k y, kvs[j]? = some (k, y) → R j y H) → Same H1 H → Q D H) : DcW J g tt tk tv vs σ H1 Q := by
  intro D nD
  refine ⟨fun i m H => m = ks.length - i ∧ i ≤ ks.length ∧ (∃ acc : List (Key × V), H D = some (.dK acc) ∧ acc.map (·.1) = ks.take i ∧ ∀ j k y, acc[j]? = some (k, y) → R j y H) ∧ Same H1 H,
    ⟨_, rfl, Nat.zero_le _, ⟨[], upd_same, by simp, fun j k y e => by simp at e⟩, same_new nD⟩, ?_⟩
  rintro i m H ⟨rfl, le, ⟨acc, oD, ea, hR⟩, s1⟩
  have la : acc.length = i := by
    have z := congrArg List.length ea
    rw [List.length_map, List.length_take] at z
    omega
  by_cases lt : i < ks.length
  · refine .inr ⟨go i H s1 lt, fun H' => (∃ acc : List (Key × V), H' D = some (.dK acc) ∧ acc.map (·.1) = ks.take (i + 1) ∧ ∀ j k y, acc[j]? = some (k, y) → R j y H') ∧ Same H1 H', fun H' h => ⟨ks.length - (i + 1), by omega, rfl, lt, h⟩, fun x H' yl => ?_⟩
    have ek : ks[i]? = some ks[i] := List.getElem?_eq_getElem lt
    have et : ks.take (i + 1) = ks.take i ++ [ks[i]] := by rw [List.take_succ, ek]; rfl
    have sp : (ks.take (i + 1)).Nodup := unlike.sublist (List.take_sublist _ _)
    rw [et, List.nodup_append] at sp
    have out : ks[i] ∉ acc.map (·.1) := fun z => sp.2.2 _ (by rw [← ea]; exact z) _ (by simp) rfl
    refine turn i x ks[i] H H' _ _ ek s1 yl fun v H5 hv s5 => ⟨acc, ks[i], rfl, s5 _ _ oD, by rw [sizeLine_eq]; omega, ⟨acc ++ [(ks[i], v)], ?_, ?_, ?_⟩, ?_⟩
    · rw [upd_same, put_last out]
    · rw [map_snocN, ea, et]
    · have keep : ∀ b o, b ≠ D → H5 b = some o → upd H5 D (.dK (putK acc ks[i] v)) b = some o := fun b o nb e => by rw [upd_ne nb]; exact e
      intro j k y e
      by_cases hj : j < acc.length
      · rw [List.getElem?_append_left hj] at e
        have a1 : R j y H5 := stays j y H H5 D acc (hR j k y e) oD fun b o _ e => s5 _ _ e
        exact stays j y H5 _ D acc a1 (s5 _ _ oD) keep
      · rw [List.getElem?_append_right (by omega)] at e
        have : j - acc.length = 0 := by
          rcases Nat.eq_zero_or_pos (j - acc.length) with z | z
          · exact z
          · rw [List.getElem?_eq_none (by simp; omega)] at e; cases e
        rw [this] at e
        cases e
        have : j = i := by omega
        rw [this]
        exact stays i v H5 _ D acc hv (s5 _ _ oD) keep
    · intro b u e
      rw [upd_ne (ne_of_none e nD)]
      exact s5 _ _ (s1 _ _ e)
  · obtain rfl : i = ks.length := by omega
    rw [List.take_length] at ea
    exact .inl ⟨stop H s1, fin H D acc nD oD ea hR s1⟩
theorem paired_of {α β : Type} {R : α → β → Prop} : ∀ (xs : List α) (ys : List β), xs.length = ys.length → (∀ (i : Nat) (x : α) (y : β), xs[i]? = some x → ys[i]? = some y → R x y) → Paired R xs ys
  | [], [], _, _ => .nil
  | x :: xs, y :: ys, l, h => .cons (h 0 x y rfl rfl) (paired_of xs ys (by simpa using l) fun i a b ea eb => h (i + 1) a b ea eb)
theorem const_mapN (xs : List Str) : ((xs.map V.str).filter fun _ => true).map (fun _ => V.bl true) = bools xs.length := by
  rw [List.filter_eq_self.mpr (fun _ _ => rfl), List.map_map]
  unfold bools
  induction xs with
  | nil => rfl
  | cons a l ih => rw [List.map_cons, ih, List.length_cons, List.replicate_succ]; rfl
theorem dc_itN {J : It} {n : Nat} {G : Hp → Prop} {Y : Nat → Hp → V → Hp → Prop} (w : Walk J n G Y) {g : TG} {tt : TT} {tk tv : TE} {vs : List Nat} {σ : St} {H1 : Hp} {D : Addr} {Qd : Hp → Prop} (Pv : Nat → Hp → Prop) (h0 : Pv 0 (upd H1 D (.dK []))) (hG : ∀ i H, i ≤ n → Pv i H → G H)
    (hs : ∀ i x H H', i < n → Pv i H → Y i H x H' → g x (wipe σ vs) H' fun σ2 H2 => wipe σ2 vs = wipe σ vs ∧ tt σ2 H2 fun b H3 =>
      if b = true then tk σ2 H3 fun y H4 => tv σ2 H4 fun z H5 => ∃ kvs k, y = kV k ∧ H5 D = some (.dK kvs) ∧ kvs.length < sizeLine ∧ Pv (i + 1) (upd H5 D (.dK (putK kvs k z))) else Pv (i + 1) H3) (hd : ∀ H, Pv n H → Qd H) :
    ∃ W : Nat → Nat → Hp → Prop, (∃ m, W 0 m (upd H1 D (.dK []))) ∧ ∀ i m H, W i m H →
      (J.stop i H ∧ Qd H) ∨ (J.go i H ∧ ∃ Nx : Hp → Prop, (∀ H', Nx H' → ∃ m', m' < m ∧ W (i + 1) m' H') ∧ ∀ x H', J.yld i H x H' → g x (wipe σ vs) H' fun σ2 H2 => wipe σ2 vs = wipe σ vs ∧ tt σ2 H2 fun b H3 =>
        if b = true then tk σ2 H3 fun y H4 => tv σ2 H4 fun z H5 => ∃ kvs k, y = kV k ∧ H5 D = some (.dK kvs) ∧ kvs.length < sizeLine ∧ Nx (upd H5 D (.dK (putK kvs k z))) else Nx H3) := by
  refine ⟨fun i m H => m = n - i ∧ i ≤ n ∧ Pv i H, ⟨n, by simp, Nat.zero_le _, h0⟩, ?_⟩
  rintro i m H ⟨rfl, hi, p⟩
  have q := hG i H hi p
  by_cases hlt : i < n
  · refine .inr ⟨w.goes i H hlt q, Pv (i + 1), fun H' p' => ⟨n - (i + 1), by omega, rfl, hlt, p'⟩, fun x H' y => hs i x H H' hlt p (w.yields i H x H' hlt q y)⟩
  · have e : i = n := by omega
    subst e
    exact .inl ⟨w.stops H q, hd H p⟩
/-- all stays but the spring and what is at g -/
def BG (g l ls : Addr) (H H' : Hp) : Prop := ∀ b o, b ≠ l → b ≠ ls → b ≠ g → H b = some o → H' b = some o
theorem BG.free {g l ls p : Addr} {H H' : Hp} (B : BG g l ls H H') (h1 : p ≠ l) (h2 : p ≠ ls) (h3 : p ≠ g) (n : H' p = none) : H p = none := by
  cases e : H p with
  | none => rfl
  | some o => rw [B p o h1 h2 h3 e] at n; cases n
theorem But.free {l ls p : Addr} {H H' : Hp} (B : But l ls H H') (a : p ≠ l ∧ p ≠ ls) (n : H' p = none) : H p = none := by
  cases e : H p with
  | none => rfl
  | some o => rw [B p o a.1 a.2 e] at n; cases n
theorem BG.but {g l ls : Addr} {H H1 H2 : Hp} (B : BG g l ls H H1) (C : But l ls H1 H2) : BG g l ls H H2 := fun b o h1 h2 h3 e => C b o h1 h2 (B b o h1 h2 h3 e)
theorem BG.upd {g l ls : Addr} {H H1 : Hp} {o : HO} (B : BG g l ls H H1) : BG g l ls H (upd H1 g o) := fun b u h1 h2 h3 e => by rw [upd_ne h3]; exact B b u h1 h2 h3 e
theorem BG.new {g l ls : Addr} {H H1 : Hp} (B : BG g l ls H H1) (n : H g = none) : But l ls H H1 := fun b o h1 h2 e => B b o h1 h2 (fun z => by rw [z, n] at e; cases e) e
theorem strm_upd {l ls b : Addr} {o : HO} {H : Hp} {N : Int} (S : Strm H l ls N) (a : b ≠ l ∧ b ≠ ls) : Strm (upd H b o) l ls N := by
  obtain ⟨cs', g, k, m, S⟩ := S
  exact ⟨cs', g, k, m, by rw [upd_ne (Ne.symm a.1)]; exact S.o, by rw [upd_ne (Ne.symm a.2)]; exact S.c, S.ne, S.g0, S.k0, S.k1, S.m0, S.m1, S.sz⟩
theorem but_unlock {l ls dd : Addr} {u : HO} {od : Obj} {H0 H' : Hp} (hd : H0 dd = some u) (a : dd ≠ l ∧ dd ≠ ls) (B : But l ls (upd H0 dd (.frz od u)) H') : H' dd = some (.frz od u) ∧ But l ls H0 (upd H' dd u) :=
  ⟨B _ _ a.1 a.2 upd_same, fun b o h1 h2 e => by
    by_cases hb : b = dd
    · subst hb
      rw [hd] at e
      rw [upd_same]; exact e
    · rw [upd_ne hb]
      exact B _ _ h1 h2 (by rw [upd_ne hb]; exact e)⟩
theorem pair_snoc {α β : Type} {F : α → β → Prop} {as : List α} {bs : List β} {a : α} {b : β} {i : Nat} (h : Paired F as (bs.take i)) (e : bs[i]? = some b) (q : F a b) : Paired F (as ++ [a]) (bs.take (i + 1)) := by
  rw [List.take_succ, e]
  exact paired_join h q
theorem opt_lc {α : Type} {J : It} {g : TG} {tt : TT} {te : TE} {vs : List Nat} {σ : St} {H1 : Hp} {Q : Addr → Hp → Prop} (xs : List α) (f : α → Option (Key × V)) (short : xs.length < 1000) (go : ∀ i H, Same H1 H → i < xs.length → J.go i H) (stop : ∀ H, Same H1 H → J.stop xs.length H)
    (turn : ∀ (i : Nat) (v : V) (a : α) (H H' : Hp) (C : V → Hp → Prop) (N : Hp → Prop), xs[i]? = some a → Same H1 H → J.yld i H v H' → (∀ k x, f a = some (k, x) → ∀ t H4, H4 t = some (.tup [kV k, x]) → Same H H4 → C (.ref t) H4) → (f a = none → ∀ H4, Same H H4 → N H4) →
      g v (wipe σ vs) H' fun σ2 H2 => wipe σ2 vs = wipe σ vs ∧ tt σ2 H2 fun b H3 => if b = true then te σ2 H3 C else N H3)
    (fin : ∀ H D ps, H1 D = none → H D = some (.lst ((ps : List Addr).map V.ref)) → Paired (fun p (kv : Key × V) => H p = some (.tup [kV kv.1, kv.2])) ps (xs.filterMap f) → Same H1 H → Q D H) : LcW J g tt te vs σ H1 Q := by
  intro D nD
  refine ⟨fun i m H => m = xs.length - i ∧ i ≤ xs.length ∧ (∃ ps : List Addr, H D = some (.lst (ps.map V.ref)) ∧ ps.length ≤ i ∧ Paired (fun p (kv : Key × V) => H p = some (.tup [kV kv.1, kv.2])) ps ((xs.take i).filterMap f)) ∧ Same H1 H,
    ⟨_, rfl, Nat.zero_le _, ⟨[], upd_same, Nat.le_refl _, by rw [List.take_zero]; exact .nil⟩, same_new nD⟩, ?_⟩
  rintro i m H ⟨rfl, le, ⟨ps, oD, lp, pr⟩, s1⟩
  by_cases lt : i < xs.length
  · refine .inr ⟨go i H s1 lt, fun H' => (∃ ps : List Addr, H' D = some (.lst (ps.map V.ref)) ∧ ps.length ≤ i + 1 ∧ Paired (fun p (kv : Key × V) => H' p = some (.tup [kV kv.1, kv.2])) ps ((xs.take (i + 1)).filterMap f)) ∧ Same H1 H', fun H' h => ⟨xs.length - (i + 1), by omega, rfl, lt, h⟩, fun x H' yl => ?_⟩
    have ea : xs[i]? = some xs[i] := List.getElem?_eq_getElem lt
    have et : (xs.take (i + 1)).filterMap f = (xs.take i).filterMap f ++ (f xs[i]).toList := by
      rw [List.take_succ, ea, List.filterMap_append]
      show _ ++ List.filterMap f [xs[i]] = _
      cases e : f xs[i] <;> simp [e]
    refine turn i x xs[i] H H' _ _ ea s1 yl (fun k x ek t H4 ot s4 => ?_) (fun en H4 s4 => ?_)
    · have oD4 := s4 _ _ oD
      have tD : t ≠ D := fun z => by rw [z, oD4] at ot; cases ot
      have up : ∀ {l : List V} b o, b ≠ D → H4 b = some o → upd H4 D (.lst l) b = some o := fun b o nb e => by rw [upd_ne nb]; exact e
      refine ⟨_, oD4, by rw [sizeLine_eq, List.length_map]; omega, ⟨ps ++ [t], by rw [upd_same, List.map_append]; rfl, by rw [List.length_append]; show _ + 1 ≤ _; omega, ?_⟩, ?_⟩
      · rw [et, ek]
        exact paired_join (Paired.mapP pr fun p kv h => up _ _ (fun z => by rw [z, oD] at h; cases h) (s4 _ _ h)) (up _ _ tD ot)
      · intro b u e
        rw [upd_ne (ne_of_none e nD)]
        exact s4 _ _ (s1 _ _ e)
    · refine ⟨⟨ps, s4 _ _ oD, by omega, ?_⟩, s1.trans s4⟩
      rw [et, en]
      simp only [Option.toList_none, List.append_nil]
      exact Paired.mapP pr fun p kv h => s4 _ _ h
  · obtain rfl : i = xs.length := by omega
    rw [List.take_length] at pr
    exact .inl ⟨stop H s1, fin H D ps nD oD pr s1⟩
theorem merge_new : ∀ (kvs acc : List (Key × V)), ((acc ++ kvs).map (·.1)).Nodup → mergeK acc kvs = acc ++ kvs
  | [], acc, _ => by simp [mergeK]
  | p :: more, acc, h => by
    have hn : p.1 ∉ acc.map (·.1) := fun z => by
      rw [List.map_append, List.nodup_append] at h
      exact h.2.2 _ z p.1 (by simp) rfl
    show mergeK (putK acc p.1 p.2) more = _
    rw [put_last hn, merge_new more _ (by rw [List.append_assoc]; exact h), List.append_assoc]
    rfl
theorem merge_nd {kvs : List (Key × V)} (h : (kvs.map (·.1)).Nodup) : mergeK [] kvs = kvs := by
  rw [merge_new kvs [] (by simpa using h), List.nil_append]
def rDk (K : PySem.W.Frag) : List V → Hp → VK → Prop := fun vs H Q => ∃ (l : Addr) (ts : List Addr) (es : List (Key × V)), vs = [.ref l] ∧ SqL K H l (ts.map V.ref) ∧ Paired (fun t e => SqT K H t [kV e.1, e.2]) ts es ∧ ∀ d, H d = none → Q (.ref d) (upd H d (.dK (mergeK [] es)))
theorem call_dk {X : Cx} (hc : X.calm = true) : CallR X (.type "dict") (rDk X.K) := call_dictP hc
theorem paired_rev {α β : Type} {F : α → β → Prop} {as : List α} {bs : List β} (h : Paired F as bs) : Paired F as.reverse bs.reverse := by
  induction h with
  | nil => exact .nil
  | cons h _ ih =>
    rw [List.reverse_cons, List.reverse_cons]
    exact paired_join ih h
/-! the other fields are good, and others -/
theorem rev_ne {α : Type} {l : List α} (nd : l.Nodup) (h : 2 ≤ l.length) : l ≠ l.reverse := by
  intro e
  have z : l[0]? = l.reverse[0]? := congrArg (fun l => l[0]?) e
  rw [List.getElem?_reverse (by omega)] at z
  have a : l[0]? = some (l[0]'(by omega)) := List.getElem?_eq_getElem _
  have := (List.getElem?_inj (by omega) nd).mp z
  omega
def putQ {α : Type} (qs : List (Str × α)) (n : Str) (s : α) : List (Str × α) := qs.map fun q => if q.1 = n then (q.1, s) else q
theorem putQ_keys {α : Type} (qs : List (Str × α)) (n : Str) (s : α) : (putQ qs n s).map (·.1) = qs.map (·.1) := by
  unfold putQ
  rw [List.map_map]
  refine List.map_congr_left fun q _ => ?_
  show (if q.1 = n then (q.1, s) else q).1 = q.1
  by_cases h : q.1 = n
  · rw [if_pos h]
  · rw [if_neg h]
theorem putQ_mem {α : Type} {qs : List (Str × α)} {n : Str} {s : α} {q : Str × α} (h : q ∈ putQ qs n s) : q ∈ qs ∨ (q.2 = s ∧ q.1 = n) := by
  obtain ⟨q0, h0, rfl⟩ := List.mem_map.mp h
  by_cases e : q0.1 = n
  · rw [if_pos e]
    exact .inr ⟨rfl, e⟩
  · rw [if_neg e]
    exact .inl h0
theorem put_has {es : List (Key × V)} {k : Key} {v : V} (h : k ∈ es.map (·.1)) : putK es k v = es.map fun kv => if kv.1 = k then (kv.1, v) else kv := by
  unfold putK
  have : (es.any fun kv => decide (kv.1 = k)) = true := by
    obtain ⟨e, he, rfl⟩ := List.mem_map.mp h
    exact List.any_eq_true.mpr ⟨e, he, by simp⟩
  rw [if_pos this]
theorem same_upd2 {H : Hp} {p : Addr} {a b : HO} (n : H p = none) : Same H (upd (upd H p a) p b) := fun c o e => by
  have := ne_of_none e n
  rw [upd_ne this, upd_ne this]; exact e
theorem boot_anyN : bootBuiltins "any" = some (.builtin "any") := by decide +kernel
theorem op_either {X : Cx} {o : Value → Value → Sem Value} {r1 r2 : R2} (h1 : OpR X o r1) (h2 : OpR X o r2) : OpR X o (fun x y H Q => r1 x y H Q ∨ r2 x y H Q) := by
  intro pins s σ H x y v u Q I rx ry h
  rcases h with h | h
  · exact h1 pins s σ H x y v u Q I rx ry h
  · exact h2 pins s σ H x y v u Q I rx ry h
theorem rel_ref {v : V} {a : Addr} {u : Value} (e : v = .ref a) (r : RelV v u) : u = .ref a := by
  subst e
  exact r
theorem rel_bl {v : V} {t : Bool} {u : Value} (e : v = .bl t) (r : RelV v u) : u = .bool t := by
  subst e
  exact r
end L2.TB
/-! len(set(text)), of a text of unlike signs -/
namespace L2.TB
open PySem PySem.Spec PyProof.Rows PySem.Froz
theorem runD_ok {P : Program} {w : World} : ∀ (cs : List Nat) (tk : Tok) (D : SD) (l : List Str), TxOk P w D l → ∃ l', TxOk P w (runD w cs tk D) l' ∧ l'.length = l.length + cs.length
  | [], _, D, l, F => ⟨l, F, rfl⟩
  | c :: r, tk, D, l, F => by
    obtain ⟨l', F', e⟩ := runD_ok (P := P) (w := w) r (tk + 2) _ _ (add_ok (k := sing c) tk F)
    exact ⟨l', F', by rw [e, List.length_cons, List.length_cons]; omega⟩
section
variable {prog : Program} {w : World} {A : Around} {E : Value → Shared → Prop} {s : Shared}
set_option maxHeartbeats 3200000 in
theorem call_setX {x : Str} {u : Tok} {Q : Value → Shared → Prop} (calm : A.handled = none) (low : x.cps.all (· < 128) = true) (nd : x.cps.toList.Nodup) (short : x.length < 1000)
    (fin : ∀ (h2 : Heap) (tk : Nat) (es : Array (Int × Value)) (ep : Nat) (tb : SetTable), h2.get? s.heap.objs.size = some { cls := .type "set", data := .set es ep tb } → tb.fits es.size = true → es.size = x.length →
      (∀ b o, b < s.heap.objs.size → s.heap.get? b = some o → h2.get? b = some o) → Q (.ref s.heap.objs.size) { s with heap := h2, toks := tk }) :
    wpAny (model prog w) A (call (.type "set") [.str x u]) Q E s := by
  obtain ⟨cM, tM, lM⟩ := PySem.F.called_set.mro
  have m1 := PySem.F.called_set.made
  have m2 := PySem.F.called_set.sub
  refine wpAny_call (codeAny_of_tree ?_)
  show wpAny _ _ (callAny (.type "set") _) _ _ _
  refine wpAny_pure ⟨Code.quiet_builtin _ (by decide +kernel), codeAny_builtin PySem.F.entry_type_call ?_⟩
  rw [Around.under_plain (weight_type_call_type "set" [.str x u] []) rfl]
  have m3 := PySem.F.called_set.notType
  have m4 := PySem.F.called_set.canCreate
  have m5 := PySem.F.typeCall_set_1 (.str x u)
  repeat (any_goals (first | assumption | wp_step))
  refine codeAny_mono (code_set_new_1 (.str x u) (E := E) (Q₁ := fun ob s1 => ∃ led : Bool, ob = .ref s.heap.objs.size ∧ s1 = { s with heap := s.heap.push { cls := .type "set", dict := none, data := .set #[] 0 (.fresh 0 0 led) } }) fun led => ⟨led, rfl, rfl⟩) fun r s1 got => ?_
  cases r with
  | error e => exact got
  | ok fl =>
    cases fl with
    | ret ob =>
      obtain ⟨led, rfl, rfl⟩ := got
      have g1 : (s.heap.push { cls := .type "set", dict := none, data := .set #[] 0 (.fresh 0 0 led) }).get? s.heap.objs.size = some { cls := .type "set", dict := none, data := .set #[] 0 (.fresh 0 0 led) } := Heap.get?_push_size _ rfl
      have g2 : Shared.TypeIs { s with heap := s.heap.push { cls := .type "set", dict := none, data := .set #[] 0 (.fresh 0 0 led) } } (.ref s.heap.objs.size) "set" := ⟨_, g1, rfl⟩
      have i1 := PySem.F.called_set.init.lookup
      have i2 := PySem.F.called_set.init.bind (.ref s.heap.objs.size)
      repeat (any_goals (first | assumption | wp_step))
      refine codeAny_mono (codeAny_call_builtin (R := wants (fun r s2 => r = .none ∧ ∃ h2 tk es ep tb, s2 = { s with heap := h2, toks := tk } ∧ h2.get? s.heap.objs.size = some { cls := .type "set", data := .set es ep tb } ∧ tb.fits es.size = true ∧ es.size = x.length ∧
          (∀ b o, b < s.heap.objs.size → s.heap.get? b = some o → h2.get? b = some o)) E) PySem.F.called_set.init.plain PySem.F.entry_set_init (check_set_init_1 g2 ?_)) fun r2 s2 got2 => ?_
      · have b1 := PySem.F.sub_str_set
        have b2 := PySem.F.sub_str_frozenset
        have b3 : (Value.type "str" == Value.type "dict") = false := by decide
        unfold Builtin.«set.__init__» noKeywords Builtin.Frozenset.updateFrom
        generalize eP : pyIter = PI
        wp_walk
        subst eP
        refine wpAny_pyIter_ascii low ?_
        refine wpAny_bind (wpAny_runValue ?_)
        obtain ⟨l2, ok2, len2⟩ := runD_ok (P := prog) (w := w) x.cps.toList s.toks (#[], 0, SetTable.fresh 0 0 led) [] (TxOk.nil (by rfl))
        have lx : x.cps.toList.length = x.length := Array.length_toList
        refine code_update (T := "set") (x := x) (u := u) (a := s.heap.objs.size) (by rw [Heap.size_push]; exact Nat.ne_of_lt (Nat.lt_succ_self _)) (by simp [calm]) x.cps.toList 0 (#[], 0, SetTable.fresh 0 0 led) [] _ rfl ?_ ?_ (TxOk.nil (by rfl)) (fun _ _ h => by cases h) nd (by rw [lx]; show 0 + _ < _; unfold scanBound; omega) ?_
        · exact Heap.get?_push_of_some _ g1
        · exact Heap.get?_push_size _ rfl
        · have g4 : ((s.heap.push { cls := .type "set", dict := none, data := .set #[] 0 (.fresh 0 0 led) }).push (itObj x u 0)).get? s.heap.objs.size = some (sObj "set" (#[], 0, SetTable.fresh 0 0 led)) := Heap.get?_push_of_some _ g1
          show wpAny _ _ (pure ()) _ _ _
          refine wpAny_pure ?_
          show wpAny _ _ (ret Value.none) _ _ _
          have far : s.heap.objs.size ≠ (s.heap.push { cls := .type "set", dict := none, data := .set #[] 0 (.fresh 0 0 led) }).objs.size := by
            rw [Heap.size_push]; exact Nat.ne_of_lt (Nat.lt_succ_self _)
          refine wpAny_pure ⟨rfl, _, _, (runD w x.cps.toList s.toks (#[], 0, SetTable.fresh 0 0 led)).1, (runD w x.cps.toList s.toks (#[], 0, SetTable.fresh 0 0 led)).2.1, (runD w x.cps.toList s.toks (#[], 0, SetTable.fresh 0 0 led)).2.2, rfl, ?_, ok2.fit, by rw [ok2.sz, len2, lx]; exact Nat.zero_add _, fun b o hb e => ?_⟩
          · refine Heap.get?_push_of_some _ (Heap.get?_push_of_some _ ?_)
            exact PySem.Heap.get?_update_of_ne _ (Ne.symm far) (get_upd _ g4 rfl)
          · have n1 : b ≠ s.heap.objs.size := Nat.ne_of_lt hb
            have n2 : b ≠ (s.heap.push { cls := .type "set", dict := none, data := .set #[] 0 (.fresh 0 0 led) }).objs.size := by
              rw [Heap.size_push]; exact Nat.ne_of_lt (Nat.lt_succ_of_lt hb)
            refine Heap.get?_push_of_some _ (Heap.get?_push_of_some _ ?_)
            exact PySem.Heap.get?_update_of_ne _ (Ne.symm n2) (PySem.Heap.get?_update_of_ne _ (Ne.symm n1) (Heap.get?_push_of_some _ (Heap.get?_push_of_some _ e)))
      · cases r2 with
        | error e => exact got2
        | ok fl2 =>
          cases fl2 with
          | ret r =>
            obtain ⟨rfl, h2, tk, es, ep, tb, rfl, z1, z2, z3, z4⟩ := got2
            repeat (any_goals (first | assumption | wp_step))
            exact fin _ _ _ _ _ z1 z2 z3 z4
          | _ => exact got2.elim
    | _ => exact got.elim
end
/-- len(set(text)) of a text of unlike signs, none above 127 -/
def tOnceX (te : TE) : TE := fun σ H Q => te σ H fun x H' => ∃ z : Str, x = .str z ∧ z.cps.all (· < 128) = true ∧ z.cps.toList.Nodup ∧ z.length < 1000 ∧ Q (.int (z.length : Nat)) H'
theorem pe_onceX {X : Cx} {one : Expr} {te : TE} {pL pS qL qS : Pos} (calm : X.calm = true) (gl : Gl X "len") (nl : X.mg "len" = none) (gs : Gl X "set") (ns : X.mg "set" = none) (hin : PE X one te)
    (plain : starEach [one] X.env = (false, eval one X.env) :: starEach [] X.env := by rfl) : PE X (.Call (.Name "len" pL) [.Call (.Name "set" pS) [one] [] qS] [] qL) (tOnceX te) := by
  refine ⟨fun pins st σ H Q inv reading => ?_⟩
  have gone := hin.run pins st σ H _ inv reading
  refine Call_ (ld_blt inv gl nl boot_len (PyProof.Rows.callWith_builtin1 (PyProof.Rows.args_cons ?_ rfl) rfl rfl))
  refine Call_ (ld_blt inv gs ns boot_set (PyProof.Rows.callWith_type1 (PyProof.Rows.args_cons (thn gone ?_) plain) plain rfl))
  rintro u st2 ⟨y, H2, inv2, same, z, rfl, low, nd, few, done⟩
  obtain ⟨t, rfl⟩ := same
  refine PyProof.Rows.args_nil ?_
  refine call_setX (inv2.ok.hd calm) low nd few fun h2 tk es ep tb made fits size kept => ?_
  refine PyProof.Rows.args_nil ?_
  have inv3 : Inv X pins σ H2 { st2 with heap := h2, toks := tk } := inv2.kept fun b o e => kept b o (Heap.lt_size e) e
  exact call_len_set made ⟨rfl, rfl, rfl⟩ rfl fits (by rw [size]; omega) ⟨.int (z.length : Nat), H2, inv3.tok _, ⟨_, by rw [size]⟩, done⟩
end L2.TB
namespace L2.TB
open PySem PySem.Spec PyProof.Rows
/-! == and != of two of one class with an own __eq__ -/
section
variable {X : Cx} {CX : CXT} {k : Nat} {f C : Addr} {fd : FuncData} {ps : List Str} {sp : Sp} {E : XK}
def rEqI (C : Addr) (sp : Sp) (E : XK) (g : Bool → Bool) : R2 := fun x y H Q => ∃ a b dx dy fs gs, x = .ref a ∧ y = .ref b ∧ H a = some (.ins C dx fs) ∧ H b = some (.ins C dy gs) ∧ sp [.ref a, .ref b] H (fun v H' => ∃ t, v = .bl t ∧ Q (.bl (g t)) H') E
/-- the method's call -/
theorem call_eqI (F : FnOk X.prog X.w X.K X.mg X.base CX k f fd ps sp) {A : Around} (hr : Room k A) (hA : A.frames = X.A.frames) (hb : Binds X.K fd ps []) (hx : Passes CX X E) {pins : List (Addr × Obj)} {σ : St} {H : Hp} {s : Shared} (I : Inv X pins σ H s) {a b : Addr} {R : Bool → Hp → Prop}
    (hsp : sp [.ref a, .ref b] H (fun v H' => ∃ t, v = .bl t ∧ R t H') E) {Q : Value → Shared → Prop} (fin : ∀ t H' s', Inv X pins σ H' s' → R t H' → Q (.bool t) s') :
    wpAny (model X.prog X.w) A (call (.ref f) [.ref a, .ref b]) Q X.xe s := by
  have e0 : Env0 X.prog X.w X.K X.mg X.base A X.stack s H := by
    have z := I.env0
    exact ⟨by rw [hA]; exact z.frames, z.mod, z.bs, z.bsz, z.funs, z.frf, z.hok, z.bare⟩
  have many := F.len _ _ _ _ hsp
  have two : Vals [V.ref a, V.ref b] [Value.ref a, Value.ref b] := .cons rfl (.cons rfl .nil)
  have ok := F.run A X.stack s H ⟨[.ref a, .ref b], []⟩ [.ref a, .ref b] [.ref a, .ref b] _ E hr e0 (by simpa using hb s [.ref a, .ref b] I.kIn (by simpa using many)) two hsp
  refine wpAny_call (codeAny_mono ok fun q s' got => ?_)
  cases q with
  | error e => exact hx pins σ H s e s' I got
  | ok fl =>
    cases fl with
    | next => exact got.elim
    | brk => exact got.elim
    | cont => exact got.elim
    | ret v =>
      obtain ⟨u, H', I', ru, t, et, q⟩ := I.after got
      have ev := rel_bl et ru
      subst ev
      exact fin t H' s' I' q
theorem op_eqI (F : FnOk X.prog X.w X.K X.mg X.base CX k f fd ps sp) (hr : Room k X.A) (hm : Meth X.K C "__eq__" f) (hb : Binds X.K fd ps []) (hx : Passes CX X E) : OpR X (compareOp .Eq) (rEqI C sp E id) := by
  intro pins s σ H x y v u Q I rx ry h
  obtain ⟨a, b, dx, dy, fs, gs, rfl, rfl, ha, hb', hsp⟩ := h
  have ev := rel_ref rfl rx
  have eu := rel_ref rfl ry
  subst ev eu
  obtain ⟨mA, JA, _⟩ := ins_get I.hok ha
  obtain ⟨mB, JB, _⟩ := ins_get I.hok hb'
  obtain ⟨od, LA, _⟩ := JA.look
  obtain ⟨od', LB, _⟩ := JB.look
  obtain ⟨m, hF⟩ := I.fr
  show wpAny _ _ (richCompare .Eq (.ref a) (.ref b)) _ _ _
  refine PySem.W.cmp_K (op := .Eq) (tb := .ref C) (by have := hr.un; omega) hF I.ok.mod.kin LA LB.type (by simp [PySem.W.notFirst]) hm.at_ hm.fn ?_
  exact call_eqI F hr rfl hb hx I hsp fun t H' s' I' q => ⟨.bl t, H', I', rfl, q⟩
/-- object's own != asks for == -/
theorem op_neI (G : FnOk X.prog X.w X.K X.mg X.base CX k f fd ps sp) (hr : Room (k + 2) X.A) (hm : Meth X.K C "__eq__" f) (hne : PySem.W.findIn X.K (.ref C) "__ne__" = some (some (.builtin "object.__ne__"))) (hob : PySem.W.mroIn X.K C (.type "object") = some true)
    (hb : Binds X.K fd ps []) (hx : Passes CX X E) : OpR X (compareOp .NotEq) (rEqI C sp E fun t => !t) := by
  intro pins s σ H x y v u Q I rx ry h
  obtain ⟨a, b, dx, dy, fs, gs, rfl, rfl, ha, hb', hsp⟩ := h
  have ev := rel_ref rfl rx
  have eu := rel_ref rfl ry
  subst ev eu
  obtain ⟨mA, JA, _⟩ := ins_get I.hok ha
  obtain ⟨mB, JB, _⟩ := ins_get I.hok hb'
  obtain ⟨od, LA, _⟩ := JA.look
  obtain ⟨od', LB, _⟩ := JB.look
  have Xs := I.kIn
  have hun := hr.un
  have low : X.A.units < cLine := by omega
  have low1 : X.A.in1.units < cLine := by
    have := (hr.in1).un
    omega
  have isO : PySem.W.subIn X.K (.ref C) (.type "object") = some true := hob
  -- the builtin's run
  have body : ∀ {Q' : Value → Shared → Prop}, (∀ t H' s', Inv X pins σ H' s' → Q (.bl (!t)) H' → Q' (.bool (!t)) s') → wpAny (model X.prog X.w) X.A (call (.builtin "object.__ne__") [.ref a, .ref b]) Q' X.xe s := by
    intro Q' fin
    have inner : ∀ {Q2 : Option Value → Shared → Prop}, (∀ t H' s', Inv X pins σ H' s' → Q (.bl (!t)) H' → Q2 (some (.bool t)) s') → wpAny (model X.prog X.w) X.A.in1 (callSpecialIfBound? (.ref a) "__eq__" [.ref b]) Q2 X.xe s := by
      intro Q2 fin2
      refine PySem.W.ifBound_K Xs LA hm.at_ hm.fn (call_eqI G (hr.in1.mono (by omega)) rfl hb hx I hsp fun t H' s' I' q => fin2 t H' s' I' q)
    refine wpAny_call (codeAny_call_builtin PySem.F.cmp_object.ne.plain PySem.F.cmpEntry_ne (PySem.W.check_slot PySem.F.cmpKind_ne PySem.F.cmpSplit_ne (LA.type.andThen (PySem.W.looks_subIn Xs isO)) (PySem.F.cmpArgs_ne _ _) ?_))
    unfold Builtin.«object.__ne__»
    repeat (first | with_reducible refine wpAny_cRoomFor low1 ?_ | with_reducible refine inner fun t H' s' I' q => ?_ | wp_step)
    exact fin t H' s' I' q
  have one : wpAny (model X.prog X.w) X.A (tryCompare (.ref a) "__ne__" (.ref b)) (fun r s' => ∃ v, r = some v ∧ EP X pins σ Q v s') X.xe s := by
    have told : wpAny (model X.prog X.w) X.A (call (.builtin "object.__ne__") ([.ref a] ++ [.ref b]) >>= fun v => pure (some v)) (fun r s' => ∃ t H', r = some (.bool (!t)) ∧ Inv X pins σ H' s' ∧ Q (.bl (!t)) H') X.xe s :=
      wpAny_bind (body fun t H' s' I' q => wpAny_pure ⟨t, H', rfl, I', q⟩)
    have asked : wpAny (model X.prog X.w) X.A (callSpecialIfBound? (.ref a) "__ne__" [.ref b]) (fun r s' => ∃ t H', r = some (.bool (!t)) ∧ Inv X pins σ H' s' ∧ Q (.bl (!t)) H') X.xe s := by
      simp only [callSpecialIfBound?, bindSpecialIfBound?]
      refine wpAny_holding (wpAny_bind (wpAny_bind (wpAny_bind (LA.type.here ((PySem.W.looks_findIn Xs hne).here (wpAny_bind (wpAny_askSetting (wpAny_ite ?_))))))))
      have bd := PySem.F.cmp_object.ne.bind (.ref a)
      split
      · rw [bd]
        exact wpAny_bind (wpAny_pure (wpAny_pure told))
      · rw [bd]
        exact wpAny_tryCatch (wpAny_bind (wpAny_pure (wpAny_pure told)))
    unfold tryCompare
    refine wpAny_bind (wpAny_mono asked (fun r s' z => ?_) fun _ _ e => e)
    obtain ⟨t, H', rfl, I', q⟩ := z
    exact wpAny_pure ⟨_, rfl, .bl (!t), H', I', rfl, q⟩
  show wpAny _ _ (richCompare .NotEq (.ref a) (.ref b)) _ _ _
  unfold richCompare
  simp only [oneThing_ref]
  refine wpAny_holding (wpAny_bind (wpAny_cRoomFor low (wpAny_bind (LA.type.here (wpAny_bind (LB.type.here ?_))))))
  simp only [bne_self_eq_false, Bool.false_eq_true, if_false]
  refine wpAny_bind (wpAny_pure (wpAny_bind (wpAny_mono one (fun r s' z => ?_) fun _ _ e => e)))
  obtain ⟨v, rfl, q⟩ := z
  exact wpAny_pure q
end
/-! an own == asked about a thing of another kind -/
section
variable {X : Cx} {CX : CXT} {k : Nat} {f C : Addr} {fd : FuncData} {ps : List Str} {sp : Sp} {E : XK}
def rEqO (K : PySem.W.Frag) (C : Addr) (sp : Sp) (E : XK) : R2 := fun x y H Q => ∃ a dx fs t, x = .ref a ∧ H a = some (.ins C dx fs) ∧ TyX K H y t ∧ PySem.W.notFirst K C t = true ∧ sp [.ref a, y] H (fun v H' => ∃ b, v = .bl b ∧ Q (.bl b) H') E
theorem op_eqO (G : FnOk X.prog X.w X.K X.mg X.base CX k f fd ps sp) (hr : Room k X.A) (hm : Meth X.K C "__eq__" f) (hb : Binds X.K fd ps []) (hx : Passes CX X E) : OpR X (compareOp .Eq) (rEqO X.K C sp E) := by
  intro pins s σ H x y v u Q I rx ry h
  obtain ⟨a, dx, fs, t, rfl, ha, ty, nf, hsp⟩ := h
  have ev := rel_ref rfl rx
  subst ev
  obtain ⟨mA, JA, _⟩ := ins_get I.hok ha
  obtain ⟨od, LA, _⟩ := JA.look
  obtain ⟨m, hF⟩ := I.fr
  obtain ⟨Pt, Z, pt, _⟩ := kit_of I ry ty
  show wpAny _ _ (richCompare .Eq (.ref a) u) _ _ _
  refine PySem.W.cmp_K (op := .Eq) (tb := t) (by have := hr.un; omega) hF I.ok.mod.kin LA (Z.ty _ _ I.kIn pt) nf hm.at_ hm.fn ?_
  have z := run_fn (us := [Value.ref a, u]) (vs := [V.ref a, y]) G hr hb .nil hx I (.cons rfl (.cons ry .nil)) (by simpa using hsp)
  refine wpAny_mono z (fun r s' got => ?_) fun _ _ q => q
  obtain ⟨v0, H', I', rt, qq⟩ := got
  rcases qq with ⟨et, qq⟩ | ⟨et, qq⟩
  · have er := rel_bl et rt
    subst er
    exact ⟨.bl false, H', I', rfl, qq⟩
  · have er := rel_bl et rt
    subst er
    exact ⟨.bl true, H', I', rfl, qq⟩
end
/-! == and != of data with a Lean type -/
section
variable {X : Cx} {α : Type} [DecidableEq α] [PySem.W.Datum α]
def rEqT (α : Type) [DecidableEq α] [PySem.W.Datum α] (K : PySem.W.Frag) (g : Bool → Bool) : R2 := fun x y H Q => ∃ p q : α, Dp K H x (PySem.W.Datum.toD p) ∧ Dp K H y (PySem.W.Datum.toD q) ∧ Q (.bl (g (decide (p = q)))) H
theorem op_eqT (dp : PySem.W.Datum.depth α ≤ 60) (hu : X.A.units + 64 < cLine) : OpR X (compareOp .Eq) (rEqT α X.K id) := by
  intro pins s σ H x y v u Q I rx ry h
  obtain ⟨p, q, hp, hq, q2⟩ := h
  obtain ⟨as, r1⟩ := Dp.reads I _ x v hp rx
  obtain ⟨bs, r2⟩ := Dp.reads I _ y u hq ry
  have l1 := PySem.W.Datum.depth_le p
  have l2 := Nat.min_le_left (PySem.W.Datum.toD p).depth (PySem.W.Datum.toD q).depth
  refine SeqAt.eq_plain r1 r2 (PySem.W.Datum.plain p) (PySem.W.Datum.plain q) (by omega) ?_
  rw [PySem.W.Datum.eqv]
  exact ⟨.bl _, H, I, rfl, q2⟩
theorem op_neT (dp : PySem.W.Datum.depth α ≤ 60) (hu : X.A.units + 64 < cLine) : OpR X (compareOp .NotEq) (rEqT α X.K fun b => !b) := by
  intro pins s σ H x y v u Q I rx ry h
  obtain ⟨p, q, hp, hq, q2⟩ := h
  obtain ⟨as, r1⟩ := Dp.reads I _ x v hp rx
  obtain ⟨bs, r2⟩ := Dp.reads I _ y u hq ry
  have l1 := PySem.W.Datum.depth_le p
  have l2 := Nat.min_le_left (PySem.W.Datum.toD p).depth (PySem.W.Datum.toD q).depth
  refine SeqAt.ne_plain r1 r2 (PySem.W.Datum.plain p) (PySem.W.Datum.plain q) (by omega) ?_
  rw [PySem.W.Datum.eqv]
  exact ⟨.bl _, H, I, rfl, q2⟩
end
section
variable {K : PySem.W.Frag} {H : Hp}
theorem dp_strsN : ∀ xs : List Str, DpAll K H (xs.map V.str) (xs.map PySem.W.Datum.toD)
  | [] => .nil
  | x :: xs => .cons (.str x) (dp_strsN xs)
theorem dp_intsN : ∀ xs : List Int, DpAll K H (xs.map V.int) (xs.map PySem.W.Datum.toD)
  | [] => .nil
  | x :: xs => .cons (.int x) (dp_intsN xs)
theorem dp_strL {a : Addr} {xs : List Str} (h : H a = some (.lst (xs.map V.str))) : Dp K H (.ref a) (PySem.W.Datum.toD xs) := .lst (SqL.of h) (dp_strsN xs)
theorem dp_intL {a : Addr} {xs : List Int} (h : H a = some (.lst (xs.map V.int))) : Dp K H (.ref a) (PySem.W.Datum.toD xs) := .lst (SqL.of h) (dp_intsN xs)
end
end L2.TB
/-! the law's look whether two things are the same: texts, numbers, None, lists and tuples of these -/
namespace L2.TB
open PySem PySem.Spec PyProof.Rows
/-- what needs no heap to be told -/
inductive Atom : V → Prop
  | str (x : Str) : Atom (.str x)
  | int (i : Int) : Atom (.int i)
  | bl (b : Bool) : Atom (.bl b)
  | non : Atom .non
theorem ty_same {K : PySem.W.Frag} {H H' : Hp} {v : V} {t : String} (h : TyX K H v (.type t)) (s : Same H H') : TyX K H' v (.type t) := by
  generalize e : Value.type t = u at h
  cases h with
  | base b =>
    refine .base ?_
    cases b with
    | non => exact .non
    | bl x => exact .bl x
    | int i => exact .int i
    | str x => exact .str x
    | flt x => exact .flt x
    | lst q => exact .lst (s _ _ q)
    | frz q => exact .frz (s _ _ q)
    | tup q => exact .tup (s _ _ q)
    | dK q => exact .dK (s _ _ q)
    | dT q => exact .dT (s _ _ q)
    | ins q => cases e
  | byt b => exact .byt b
  | set q => exact .set (s _ _ q)
  | kList q c => exact .kList q c
  | kTuple q c => exact .kTuple q c
  | kDict q c => exact .kDict q c
  | fTuple q => exact .fTuple (s _ _ q)
  | fDict q => exact .fDict (s _ _ q)
theorem kit_two_n {K : PySem.W.Frag} {t : String} (h1 : kitB t "list" = some false) (h2 : kitB t "tuple" = some false) : PySem.W.kitAny K (.type t) [.type "list", .type "tuple"] = some false :=
  kitAny_cons (b := false) (kit_ty h1) (fun _ => kitAny_cons (b := false) (kit_ty h2) (fun _ => kitAny_nil) (fun z => by cases z)) (fun z => by cases z)
theorem dec_int2 (a b : Int) : decide (V.int a = V.int b) = decide (a = b) := by
  by_cases h : a = b
  · rw [h]; simp
  · rw [decide_eq_false h, decide_eq_false]
    exact fun z => h (V.int.inj z)
abbrev NSm : List Str := ["found", "due", "x", "y"]
theorem scSame : FnScope NSm ["found", "due"] (defScope sSame) := ⟨rfl, rfl, rfl, by decide +kernel, rfl, by decide +kernel, by decide +kernel⟩
/-- the names that it reads -/
structure Sm (mg : Str → Option Value) : Prop where
  nI : mg "isinstance" = none
  nL : mg "list" = none
  nT : mg "tuple" = none
  nInt : mg "int" = none
  nB : mg "bool" = none
  nN : mg "len" = none
  nA : mg "all" = none
  nZ : mg "zip" = none
/-- alike, to this depth -/
inductive AlkF (H : Hp) : Nat → V → V → Prop
  | one {v : V} (h : Atom v) : AlkF H 0 v v
  | lst {n : Nat} {a b : Addr} {xs ys : List V} (ha : H a = some (.lst xs)) (hb : H b = some (.lst ys)) (l : xs.length = ys.length) (sh : xs.length < 1000) (al : ∀ (i : Nat) (x y : V), xs[i]? = some x → ys[i]? = some y → AlkF H n x y) : AlkF H (n + 1) (.ref a) (.ref b)
  | tup {n : Nat} {a b : Addr} {xs ys : List V} (ha : H a = some (.tup xs)) (hb : H b = some (.tup ys)) (l : xs.length = ys.length) (sh : xs.length < 1000) (al : ∀ (i : Nat) (x y : V), xs[i]? = some x → ys[i]? = some y → AlkF H n x y) : AlkF H (n + 1) (.ref a) (.ref b)
  | up {n : Nat} {x y : V} (h : AlkF H n x y) : AlkF H (n + 1) x y
theorem AlkF.same {H H' : Hp} (s : Same H H') {n : Nat} {x y : V} (h : AlkF H n x y) : AlkF H' n x y := by
  induction h with
  | one h => exact .one h
  | lst ha hb l sh _ ih => exact .lst (s _ _ ha) (s _ _ hb) l sh ih
  | tup ha hb l sh _ ih => exact .tup (s _ _ ha) (s _ _ hb) l sh ih
  | up _ ih => exact .up ih
theorem kit_three_n {K : PySem.W.Frag} {t : String} (h0 : kitB t "int" = some false) (h1 : kitB t "list" = some false) (h2 : kitB t "tuple" = some false) : PySem.W.kitAny K (.type t) [.type "int", .type "list", .type "tuple"] = some false :=
  kitAny_cons (b := false) (kit_ty h0) (fun _ => kit_two_n h1 h2) (fun z => by cases z)
def spSameF (n : Nat) : Sp := fun vs H Q _ => ∃ x y : V, vs = [x, y] ∧ AlkF H n x y ∧ ∀ H', Same H H' → Q (.bl true) H'
section
variable {P : Program} {w : World} {K : PySem.W.Frag} {mg : Str → Option Value} {base : Heap} {f : Addr} {fd : FuncData}
theorem same_num (F : Fun K "_law_same" "_law_same" sSame f fd) (M : Sm mg) : FnOk P w K mg base CX0 1 f fd ["found", "due"] (fun vs H Q _ => ∃ v : V, vs = [v, v] ∧ ((∃ i, v = .int i) ∨ ∃ b, v = .bl b) ∧ ∀ H', Same H H' → Q (.bl true) H') := by
  refine F.ok scSame (fun vs H Q E h => by obtain ⟨x, e, _⟩ := h; rw [e]; rfl) fun cdv A outer s H vs Q E hr hsp => ?_
  obtain ⟨v, rfl, hv, hq⟩ := hsp
  refine ⟨_, pss_cons (ps_if (pt_val (pe_callB (r := rIsiT K) call_isiT rfl M.nI boot_isi (pa_cons (pv 1) (pa_cons (pe_tup (pa_cons (pe_bltn (v := .ty "list") rfl M.nL boot_list' rfl) (pa_cons (pe_bltn (v := .ty "tuple") rfl M.nT boot_tuple' rfl) pa_nil))) pa_nil)))) pss_never pss_nil)
    (pss_cons (ps_if (pt_val (pe_callB (r := rIsi K) call_isi rfl M.nI boot_isi (pa_cons (pv 1) (pa_cons (pe_bltn (v := .ty "int") rfl M.nInt boot_int' rfl) pa_nil)))) (pss_one (ps_ret (pe_and (pe_callB (r := rIsi K) call_isi rfl M.nI boot_isi (pa_cons (pv 0) (pa_cons (pe_bltn (v := .ty "int") rfl M.nInt boot_int' rfl) pa_nil))) (pe_and (pe_cmpR op_eq (pe_callB (r := rIsi K) call_isi rfl M.nI boot_isi (pa_cons (pv 0) (pa_cons (pe_bltn (v := .ty "bool") rfl M.nB boot_bool' rfl) pa_nil))) (pe_callB (r := rIsi K) call_isi rfl M.nI boot_isi (pa_cons (pv 1) (pa_cons (pe_bltn (v := .ty "bool") rfl M.nB boot_bool' rfl) pa_nil))) (nomark _)) (pe_one (pe_cmpR op_eq (pv 0) (pv 1) (nomark _))))))) pss_nil) pss_never), ?_⟩
  refine ⟨_, rfl, (by show 2 ≤ sizeLine; decide), fun t nt => ?_⟩
  have st := same_new (o := .tup [.ty "list", .ty "tuple"]) nt
  rcases hv with ⟨k, rfl⟩ | ⟨k, rfl⟩
  · refine ⟨_, _, _, _, _, false, rfl, upd_same, .cons (.ty _) (.cons (.ty _) .nil), .base (.int k), kit_two_n (by decide +kernel) (by decide +kernel), _, rfl, iteF ?_⟩
    refine ⟨_, rfl, _, _, _, _, true, rfl, .ty _, .base (.int k), kit_ty (by decide +kernel), _, rfl, iteT ?_⟩
    refine ⟨_, rfl, _, _, _, _, true, rfl, .ty _, .base (.int k), kit_ty (by decide +kernel), _, rfl, iteT ?_⟩
    refine ⟨_, rfl, _, _, _, _, false, rfl, .ty _, .base (.int k), kit_ty (by decide +kernel), _, rfl, _, _, _, _, false, rfl, .ty _, .base (.int k), kit_ty (by decide +kernel), rfl, _, rfl, iteT ⟨_, rfl, _, rfl, rfl, ?_⟩⟩
    rw [decide_eq_true rfl]
    exact hq _ st
  · refine ⟨_, _, _, _, _, false, rfl, upd_same, .cons (.ty _) (.cons (.ty _) .nil), .base (.bl k), kit_two_n (by decide +kernel) (by decide +kernel), _, rfl, iteF ?_⟩
    refine ⟨_, rfl, _, _, _, _, true, rfl, .ty _, .base (.bl k), kit_ty (by decide +kernel), _, rfl, iteT ?_⟩
    refine ⟨_, rfl, _, _, _, _, true, rfl, .ty _, .base (.bl k), kit_ty (by decide +kernel), _, rfl, iteT ?_⟩
    refine ⟨_, rfl, _, _, _, _, true, rfl, .ty _, .base (.bl k), kit_ty (by decide +kernel), _, rfl, _, _, _, _, true, rfl, .ty _, .base (.bl k), kit_ty (by decide +kernel), rfl, _, rfl, iteT ⟨_, rfl, _, rfl, rfl, ?_⟩⟩
    rw [decide_eq_true rfl]
    exact hq _ st
/-- what is neither a number nor a list: by == -/
theorem same_oth (F : Fun K "_law_same" "_law_same" sSame f fd) (M : Sm mg) {x y : V} {r : R2} {t : String} (h0 : kitB t "int" = some false) (h1 : kitB t "list" = some false) (h2 : kitB t "tuple" = some false) (op : ∀ X : Cx, X.A.units + 1 < cLine → OpR X (compareOp .Eq) r) :
    FnOk P w K mg base CX0 1 f fd ["found", "due"] (fun vs H Q _ => vs = [x, y] ∧ TyX K H x (.type t) ∧ TyX K H y (.type t) ∧ ∀ H', Same H H' → r x y H' Q) := by
  refine F.ok scSame (fun vs H Q E h => by obtain ⟨e, _⟩ := h; rw [e]; rfl) fun cdv A outer s H vs Q E hr hsp => ?_
  obtain ⟨rfl, tx, ty, hq⟩ := hsp
  refine ⟨_, pss_cons (ps_if (pt_val (pe_callB (r := rIsiT K) call_isiT rfl M.nI boot_isi (pa_cons (pv 1) (pa_cons (pe_tup (pa_cons (pe_bltn (v := .ty "list") rfl M.nL boot_list' rfl) (pa_cons (pe_bltn (v := .ty "tuple") rfl M.nT boot_tuple' rfl) pa_nil))) pa_nil)))) pss_never pss_nil)
    (pss_cons (ps_if (pt_val (pe_callB (r := rIsi K) call_isi rfl M.nI boot_isi (pa_cons (pv 1) (pa_cons (pe_bltn (v := .ty "int") rfl M.nInt boot_int' rfl) pa_nil)))) pss_never pss_nil)
    (pss_one (ps_ret (pe_and (pe_cmpR op_isBl (pe_callB (r := rIsiT K) call_isiT rfl M.nI boot_isi (pa_cons (pv 0) (pa_cons (pe_tup (pa_cons (pe_bltn (v := .ty "int") rfl M.nInt boot_int' rfl) (pa_cons (pe_bltn (v := .ty "list") rfl M.nL boot_list' rfl) (pa_cons (pe_bltn (v := .ty "tuple") rfl M.nT boot_tuple' rfl) pa_nil)))) pa_nil))) pe_bl (nomark _)) (pe_one (pe_cmpR (op _ (hu_of hr)) (pv 0) (pv 1) (nomark _))))))), ?_⟩
  refine ⟨_, rfl, (by show 2 ≤ sizeLine; decide), fun t nt => ?_⟩
  have st := same_new (o := .tup [.ty "list", .ty "tuple"]) nt
  refine ⟨_, _, _, _, _, false, rfl, upd_same, .cons (.ty _) (.cons (.ty _) .nil), ty_same ty st, kit_two_n h1 h2, _, rfl, iteF ?_⟩
  refine ⟨_, rfl, _, _, _, _, false, rfl, .ty _, ty_same ty st, kit_ty h0, _, rfl, iteF ?_⟩
  refine ⟨_, rfl, (by show 3 ≤ sizeLine; decide), fun t2 nt2 => ?_⟩
  have st2 := same_new (o := .tup [.ty "int", .ty "list", .ty "tuple"]) nt2
  refine ⟨_, _, _, _, _, false, rfl, upd_same, .cons (.ty _) (.cons (.ty _) (.cons (.ty _) .nil)), ty_same tx (st.trans st2), kit_three_n h0 h1 h2, _, _, rfl, rfl, _, rfl, iteT ⟨_, rfl, _, rfl, ?_⟩⟩
  exact hq _ (st.trans st2)
theorem same_lst (F : Fun K "_law_same" "_law_same" sSame f fd) (gSm : mg "_law_same" = some (.ref f)) (M : Sm mg) {n : Nat} (G : FnOk P w K mg base CX0 (n + 1) f fd ["found", "due"] (spSameF n)) : FnOk P w K mg base CX0 (n + 2) f fd ["found", "due"] (fun vs H Q _ => ∃ (a b : Addr) (xs ys : List V), vs = [.ref a, .ref b] ∧ H a = some (.lst xs) ∧ H b = some (.lst ys) ∧ xs.length = ys.length ∧ xs.length < 1000 ∧
    (∀ (i : Nat) (x y : V), xs[i]? = some x → ys[i]? = some y → AlkF H n x y) ∧ ∀ H', Same H H' → Q (.bl true) H') := by
  have b := F.binds (ps := ["found", "due"]) fun _ _ _ _ _ _ us hl => match us, hl with | [_, _], _ => rfl
  refine F.ok scSame (fun vs H Q E h => by obtain ⟨a, b, xs, ys, e, _⟩ := h; rw [e]; rfl) fun cdv A outer s H vs Q E hr hsp => ?_
  obtain ⟨a, bb, xs, ys, rfl, ha, hb, len, short, al, hq⟩ := hsp
  have nd := scSame.nd
  refine ⟨_, pss_cons (ps_if (pt_val (pe_callB (r := rIsiT K) call_isiT rfl M.nI boot_isi (pa_cons (pv 1) (pa_cons (pe_tup (pa_cons (pe_bltn (v := .ty "list") rfl M.nL boot_list' rfl) (pa_cons (pe_bltn (v := .ty "tuple") rfl M.nT boot_tuple' rfl) pa_nil))) pa_nil))))
      (pss_cons (ps_if (PW.pt (pw_or (pt_cmpR op_ne (pe_callB (r := rIsi K) call_isi rfl M.nI boot_isi (pa_cons (pv 0) (pa_cons (pe_bltn (v := .ty "list") rfl M.nL boot_list' rfl) pa_nil))) (pe_callB (r := rIsi K) call_isi rfl M.nI boot_isi (pa_cons (pv 1) (pa_cons (pe_bltn (v := .ty "list") rfl M.nL boot_list' rfl) pa_nil))) (nomark _)) (pw_or1 (pt_cmpR op_ne (pe_callB (r := rIsi K) call_isi rfl M.nI boot_isi (pa_cons (pv 0) (pa_cons (pe_bltn (v := .ty "tuple") rfl M.nT boot_tuple' rfl) pa_nil))) (pe_callB (r := rIsi K) call_isi rfl M.nI boot_isi (pa_cons (pv 1) (pa_cons (pe_bltn (v := .ty "tuple") rfl M.nT boot_tuple' rfl) pa_nil))) (nomark _))))) pss_never pss_nil)
      (pss_one (ps_ret (pe_and (pe_cmpR op_eq (pe_callB call_len_seq rfl M.nN boot_len (pa_cons (pv 0) pa_nil)) (pe_callB call_len_seq rfl M.nN boot_len (pa_cons (pv 1) pa_nil)) (nomark _))
        (pe_one (pe_callB (cr_all rfl) rfl M.nA boot_all' (pa_cons (pe_lc (own := [("x", 2), ("y", 3)]) (tt := tYes) (g := gTup K 2 (gCons (gName 2) (gCons (gName 3) gNil))) rfl nd (RZ.pi_zipA rfl M.nZ (pa_cons (pv 0) (pa_cons (pv 1) pa_nil))) (blkOk_by (N := NSm) (sc := defScope sSame) (by decide +kernel))
          (fun _ _ _ _ _ => pg_tup rfl (pgs_cons (pg_name (i := 2) nd rfl (Or.inl rfl)) (pgs_cons (pg_name (i := 3) nd rfl (Or.inl rfl)) pgs_nil))) (fun _ _ _ _ _ => pts_nil)
          (fun _ _ _ _ _ => pe_call G hr rfl gSm F.kp b .nil pass0 (pa_cons (pv 2) (pa_cons (pv 3) pa_nil)))) pa_nil))))))) pss_nil) pss_never, ?_⟩
  refine ⟨_, rfl, (by show 2 ≤ sizeLine; decide), fun t nt => ?_⟩
  have st := same_new (o := .tup [.ty "list", .ty "tuple"]) nt
  refine ⟨_, _, _, _, _, true, rfl, upd_same, .cons (.ty _) (.cons (.ty _) .nil), .base (.lst (st _ _ hb)), kit_two_l, _, rfl, iteT ?_⟩
  generalize upd H t (.tup [.ty "list", .ty "tuple"]) = H1 at st
  have ha := st _ _ ha
  have hb := st _ _ hb
  refine ⟨_, rfl, _, _, _, _, true, rfl, .ty _, .base (.lst ha), kit_ty (by decide +kernel), _, rfl, _, _, _, _, true, rfl, .ty _, .base (.lst hb), kit_ty (by decide +kernel), rfl, _, rfl, iteF ?_⟩
  refine ⟨_, rfl, _, _, _, _, false, rfl, .ty _, .base (.lst ha), kit_ty (by decide +kernel), _, rfl, _, _, _, _, false, rfl, .ty _, .base (.lst hb), kit_ty (by decide +kernel), rfl, _, rfl, iteF ?_⟩
  refine ⟨_, rfl, a, _, rfl, .inl (SqL.of ha), _, rfl, bb, _, rfl, .inl (SqL.of hb), rfl, _, rfl, ?_⟩
  rw [dec_int2, decide_eq_true (by omega : ((xs.length : Nat) : Int) = (ys.length : Nat))]
  refine iteT ⟨_, rfl, _, rfl, a, bb, _, _, rfl, .inl ⟨SqL.of ha, SqL.of hb, ?_⟩⟩
  refine lc_gen (bools xs.length) (by rw [bools_len]; omega) (fun i H' s lt => ?_) (fun H' s => ?_) ?_ ?_
  · rw [bools_len] at lt
    exact ⟨_, _, _, _, SqL.of (s _ _ ha), SqL.of (s _ _ hb), List.getElem?_eq_getElem (by omega), List.getElem?_eq_getElem (by omega)⟩
  · exact ⟨_, _, SqL.of (s _ _ ha), SqL.of (s _ _ hb), .inl (by rw [bools_len]; exact Nat.le_refl _)⟩
  · rintro i v y H2 H3 Cn Nn ey s2 ⟨T, u1, u2, rfl, nT, rfl, e1, e2⟩ yes
    obtain ⟨rfl, lt⟩ := bools_at ey
    have e1 := e1 _ (SqL.of (s2 _ _ ha))
    have e2 := e2 _ (SqL.of (s2 _ _ hb))
    have sT := same_new (o := .tup [u1, u2]) nT
    refine ⟨T, _, rfl, SqT.of upd_same, rfl, _, _, rfl, _, _, rfl, rfl, rfl, ?_⟩
    exact ⟨_, rfl, _, rfl, u1, u2, rfl, (al i u1 u2 e1 e2).same ((st.trans s2).trans sT), fun H4 s4 => yes H4 (sT.trans s4)⟩
  · intro H2 D nD oD s2
    rw [bools_map] at oD
    refine ⟨D, _, rfl, SqL.of oD, ?_⟩
    rw [all_true]
    exact hq _ (st.trans s2)
theorem same_tup (F : Fun K "_law_same" "_law_same" sSame f fd) (gSm : mg "_law_same" = some (.ref f)) (M : Sm mg) {n : Nat} (G : FnOk P w K mg base CX0 (n + 1) f fd ["found", "due"] (spSameF n)) : FnOk P w K mg base CX0 (n + 2) f fd ["found", "due"] (fun vs H Q _ => ∃ (a b : Addr) (xs ys : List V), vs = [.ref a, .ref b] ∧ H a = some (.tup xs) ∧ H b = some (.tup ys) ∧ xs.length = ys.length ∧ xs.length < 1000 ∧
    (∀ (i : Nat) (x y : V), xs[i]? = some x → ys[i]? = some y → AlkF H n x y) ∧ ∀ H', Same H H' → Q (.bl true) H') := by
  have b := F.binds (ps := ["found", "due"]) fun _ _ _ _ _ _ us hl => match us, hl with | [_, _], _ => rfl
  refine F.ok scSame (fun vs H Q E h => by obtain ⟨a, b, xs, ys, e, _⟩ := h; rw [e]; rfl) fun cdv A outer s H vs Q E hr hsp => ?_
  obtain ⟨a, bb, xs, ys, rfl, ha, hb, len, short, al, hq⟩ := hsp
  have nd := scSame.nd
  refine ⟨_, pss_cons (ps_if (pt_val (pe_callB (r := rIsiT K) call_isiT rfl M.nI boot_isi (pa_cons (pv 1) (pa_cons (pe_tup (pa_cons (pe_bltn (v := .ty "list") rfl M.nL boot_list' rfl) (pa_cons (pe_bltn (v := .ty "tuple") rfl M.nT boot_tuple' rfl) pa_nil))) pa_nil))))
      (pss_cons (ps_if (PW.pt (pw_or (pt_cmpR op_ne (pe_callB (r := rIsi K) call_isi rfl M.nI boot_isi (pa_cons (pv 0) (pa_cons (pe_bltn (v := .ty "list") rfl M.nL boot_list' rfl) pa_nil))) (pe_callB (r := rIsi K) call_isi rfl M.nI boot_isi (pa_cons (pv 1) (pa_cons (pe_bltn (v := .ty "list") rfl M.nL boot_list' rfl) pa_nil))) (nomark _)) (pw_or1 (pt_cmpR op_ne (pe_callB (r := rIsi K) call_isi rfl M.nI boot_isi (pa_cons (pv 0) (pa_cons (pe_bltn (v := .ty "tuple") rfl M.nT boot_tuple' rfl) pa_nil))) (pe_callB (r := rIsi K) call_isi rfl M.nI boot_isi (pa_cons (pv 1) (pa_cons (pe_bltn (v := .ty "tuple") rfl M.nT boot_tuple' rfl) pa_nil))) (nomark _))))) pss_never pss_nil)
      (pss_one (ps_ret (pe_and (pe_cmpR op_eq (pe_callB call_len_seq rfl M.nN boot_len (pa_cons (pv 0) pa_nil)) (pe_callB call_len_seq rfl M.nN boot_len (pa_cons (pv 1) pa_nil)) (nomark _))
        (pe_one (pe_callB (cr_all rfl) rfl M.nA boot_all' (pa_cons (pe_lc (own := [("x", 2), ("y", 3)]) (tt := tYes) (g := gTup K 2 (gCons (gName 2) (gCons (gName 3) gNil))) rfl nd (RZ.pi_zipA rfl M.nZ (pa_cons (pv 0) (pa_cons (pv 1) pa_nil))) (blkOk_by (N := NSm) (sc := defScope sSame) (by decide +kernel))
          (fun _ _ _ _ _ => pg_tup rfl (pgs_cons (pg_name (i := 2) nd rfl (Or.inl rfl)) (pgs_cons (pg_name (i := 3) nd rfl (Or.inl rfl)) pgs_nil))) (fun _ _ _ _ _ => pts_nil)
          (fun _ _ _ _ _ => pe_call G hr rfl gSm F.kp b .nil pass0 (pa_cons (pv 2) (pa_cons (pv 3) pa_nil)))) pa_nil))))))) pss_nil) pss_never, ?_⟩
  refine ⟨_, rfl, (by show 2 ≤ sizeLine; decide), fun t nt => ?_⟩
  have st := same_new (o := .tup [.ty "list", .ty "tuple"]) nt
  refine ⟨_, _, _, _, _, true, rfl, upd_same, .cons (.ty _) (.cons (.ty _) .nil), .base (.tup (st _ _ hb)), kit_two_t, _, rfl, iteT ?_⟩
  generalize upd H t (.tup [.ty "list", .ty "tuple"]) = H1 at st
  have ha := st _ _ ha
  have hb := st _ _ hb
  refine ⟨_, rfl, _, _, _, _, false, rfl, .ty _, .base (.tup ha), kit_ty (by decide +kernel), _, rfl, _, _, _, _, false, rfl, .ty _, .base (.tup hb), kit_ty (by decide +kernel), rfl, _, rfl, iteF ?_⟩
  refine ⟨_, rfl, _, _, _, _, true, rfl, .ty _, .base (.tup ha), kit_ty (by decide +kernel), _, rfl, _, _, _, _, true, rfl, .ty _, .base (.tup hb), kit_ty (by decide +kernel), rfl, _, rfl, iteF ?_⟩
  refine ⟨_, rfl, a, _, rfl, .inr (SqT.of ha), _, rfl, bb, _, rfl, .inr (SqT.of hb), rfl, _, rfl, ?_⟩
  rw [dec_int2, decide_eq_true (by omega : ((xs.length : Nat) : Int) = (ys.length : Nat))]
  refine iteT ⟨_, rfl, _, rfl, a, bb, _, _, rfl, .inr ⟨SqT.of ha, SqT.of hb, ?_⟩⟩
  refine lc_gen (bools xs.length) (by rw [bools_len]; omega) (fun i H' s lt => ?_) (fun H' s => ?_) ?_ ?_
  · rw [bools_len] at lt
    exact ⟨_, _, _, _, SqT.of (s _ _ ha), SqT.of (s _ _ hb), List.getElem?_eq_getElem (by omega), List.getElem?_eq_getElem (by omega)⟩
  · exact ⟨_, _, SqT.of (s _ _ ha), SqT.of (s _ _ hb), .inl (by rw [bools_len]; exact Nat.le_refl _)⟩
  · rintro i v y H2 H3 Cn Nn ey s2 ⟨T, u1, u2, rfl, nT, rfl, e1, e2⟩ yes
    obtain ⟨rfl, lt⟩ := bools_at ey
    have e1 := e1 _ (SqT.of (s2 _ _ ha))
    have e2 := e2 _ (SqT.of (s2 _ _ hb))
    have sT := same_new (o := .tup [u1, u2]) nT
    refine ⟨T, _, rfl, SqT.of upd_same, rfl, _, _, rfl, _, _, rfl, rfl, rfl, ?_⟩
    exact ⟨_, rfl, _, rfl, u1, u2, rfl, (al i u1 u2 e1 e2).same ((st.trans s2).trans sT), fun H4 s4 => yes H4 (sT.trans s4)⟩
  · intro H2 D nD oD s2
    rw [bools_map] at oD
    refine ⟨D, _, rfl, SqL.of oD, ?_⟩
    rw [all_true]
    exact hq _ (st.trans s2)
theorem ok_sameF (F : Fun K "_law_same" "_law_same" sSame f fd) (gSm : mg "_law_same" = some (.ref f)) (M : Sm mg) : ∀ n : Nat, FnOk P w K mg base CX0 (n + 1) f fd ["found", "due"] (spSameF n)
  | 0 => by
    refine ⟨fun vs H Q E h => by obtain ⟨x, y, e, _⟩ := h; rw [e]; rfl, fun A outer s H args us vs Q E hr he hb hv hs => ?_⟩
    obtain ⟨x, y, rfl, al, hq⟩ := hs
    cases al with
    | one h =>
      cases h with
      | int i => exact (same_num F M).run A outer s H args us _ Q E hr he hb hv ⟨_, rfl, .inl ⟨i, rfl⟩, hq⟩
      | bl i => exact (same_num F M).run A outer s H args us _ Q E hr he hb hv ⟨_, rfl, .inr ⟨i, rfl⟩, hq⟩
      | str z => exact (same_oth F M (x := .str z) (y := .str z) (r := rEq) (t := "str") (by decide +kernel) (by decide +kernel) (by decide +kernel) fun X _ => op_eq).run A outer s H args us _ Q E hr he hb hv ⟨rfl, .base (.str z), .base (.str z), fun H' s => ⟨rfl, by rw [decide_eq_true rfl]; exact hq _ s⟩⟩
      | non => exact (same_oth F M (x := .non) (y := .non) (r := rEq) (t := "NoneType") (by decide +kernel) (by decide +kernel) (by decide +kernel) fun X _ => op_eq).run A outer s H args us _ Q E hr he hb hv ⟨rfl, .base .non, .base .non, fun H' s => ⟨rfl, by rw [decide_eq_true rfl]; exact hq _ s⟩⟩
  | n + 1 => by
    have G := ok_sameF F gSm M n
    have GU : FnOk P w K mg base CX0 (n + 2) f fd ["found", "due"] (spSameF n) := G.mono (Nat.le_succ _)
    refine ⟨fun vs H Q E h => by obtain ⟨x, y, e, _⟩ := h; rw [e]; rfl, fun A outer s H args us vs Q E hr he hb hv hs => ?_⟩
    obtain ⟨x, y, rfl, al, hq⟩ := hs
    cases al with
    | lst ha hb' l sh al => exact (same_lst F gSm M G).run A outer s H args us _ Q E hr he hb hv ⟨_, _, _, _, rfl, ha, hb', l, sh, al, hq⟩
    | tup ha hb' l sh al => exact (same_tup F gSm M G).run A outer s H args us _ Q E hr he hb hv ⟨_, _, _, _, rfl, ha, hb', l, sh, al, hq⟩
    | up h => exact GU.run A outer s H args us _ Q E hr he hb hv ⟨_, _, rfl, h, hq⟩
end
section
variable {H : Hp}
theorem alk_one {v : V} (h : Atom v) : AlkF H 0 v v := .one h
theorem AlkF.le {n m : Nat} {x y : V} (h : AlkF H n x y) (l : n ≤ m) : AlkF H m x y := by
  induction l with
  | refl => exact h
  | step _ ih => exact .up ih
theorem alk_strs {a b : Addr} {xs : List Str} (ha : H a = some (.lst (xs.map V.str))) (hb : H b = some (.lst (xs.map V.str))) (sh : xs.length < 1000) : AlkF H 1 (.ref a) (.ref b) :=
  .lst ha hb rfl (by rw [List.length_map]; exact sh) fun i x y e1 e2 => by
    rw [List.getElem?_map] at e1 e2
    obtain ⟨s, es, rfl⟩ := Option.map_eq_some_iff.mp e1
    rw [es] at e2
    obtain rfl := Option.some.inj e2
    exact .one (.str _)
theorem alk_pair {a b : Addr} {x1 x2 y1 y2 : V} {n : Nat} (ha : H a = some (.tup [x1, x2])) (hb : H b = some (.tup [y1, y2])) (h1 : AlkF H n x1 y1) (h2 : AlkF H n x2 y2) : AlkF H (n + 1) (.ref a) (.ref b) :=
  .tup ha hb rfl (by show 2 < 1000; decide) fun i x y e1 e2 => by
    match i with
    | 0 => cases e1; cases e2; exact h1
    | 1 => cases e1; cases e2; exact h2
    | i + 2 => simp at e1
theorem alk_two {a b : Addr} {x1 x2 y1 y2 : V} {n : Nat} (ha : H a = some (.lst [x1, x2])) (hb : H b = some (.lst [y1, y2])) (h1 : AlkF H n x1 y1) (h2 : AlkF H n x2 y2) : AlkF H (n + 1) (.ref a) (.ref b) :=
  .lst ha hb rfl (by show 2 < 1000; decide) fun i x y e1 e2 => by
    match i with
    | 0 => cases e1; cases e2; exact h1
    | 1 => cases e1; cases e2; exact h2
    | i + 2 => simp at e1
end
end L2.TB
/-! letters: is_string_of, is_word, are_letters, check_letters; is_count, is_digit -/
namespace L2.TB
open PySem PySem.Spec PyProof.Rows
abbrev one1 (c : Nat) : Str := ⟨#[c]⟩
def lets (L : Str) : List Str := L.cps.toList.map one1
abbrev smallL : List Nat := (Str.ofString "abcdefghijklmnopqrstuvwxyz").cps.toList
structure LetOk (L : Str) : Prop where
  sm : ∀ c ∈ L.cps.toList, c ∈ smallL
  lo : L.cps.all (· < 128) = true
  nd : L.cps.toList.Nodup
  l0 : 0 < L.length
  l3 : L.length ≤ 3
theorem len_cps (z : Str) : z.cps.toList.length = z.length := Array.length_toList
theorem LetOk.ll {L : Str} (h : LetOk L) : (lets L).length ≤ 3 := by
  unfold lets
  rw [List.length_map, len_cps]
  exact h.l3
theorem one1_inj {a b : Nat} (h : one1 a = one1 b) : a = b := by
  have z : [a] = [b] := congrArg (fun y : Str => y.cps.toList) h
  exact (List.cons.inj z).1
theorem LetOk.lnd {L : Str} (h : LetOk L) : (lets L).Nodup := List.Pairwise.map one1 (fun a b n e => n (one1_inj e)) h.nd
def spIsStr : Sp := fun vs H Q _ => ∃ L z : Str, vs = [.str L, .str z] ∧ (∀ c ∈ z.cps.toList, c ∈ L.cps.toList) ∧ z.length < 1000 ∧ ∀ H', Same H H' → Q (.bl true) H'
abbrev NIs : List Str := ["letters", "thing", "letter"]
theorem scIsStr : FnScope NIs ["letters", "thing"] (defScope sIsStr) := ⟨rfl, rfl, rfl, by decide +kernel, rfl, by decide +kernel, by decide +kernel⟩
def spIsWord : Sp := fun vs H Q _ => ∃ L z : Str, vs = [.str L, .str z] ∧ (∀ c ∈ z.cps.toList, c ∈ L.cps.toList) ∧ 0 < z.length ∧ z.length < 1000 ∧ ∀ H', Same H H' → Q (.bl true) H'
theorem scIsWord : FnScope ["letters", "thing"] ["letters", "thing"] (defScope sIsWord) := ⟨rfl, rfl, rfl, by decide +kernel, rfl, by decide +kernel, by decide +kernel⟩
def spAreLet : Sp := fun vs H Q _ => ∃ L : Str, vs = [.str L] ∧ LetOk L ∧ ∀ H', Same H H' → Q (.bl true) H'
theorem scAreLet : FnScope ["thing"] ["thing"] (defScope sAreLet) := ⟨rfl, rfl, rfl, by decide +kernel, rfl, by decide +kernel, by decide +kernel⟩
def spCkLet : Sp := fun vs H Q _ => ∃ L : Str, vs = [.str L] ∧ LetOk L ∧ ∀ H', Same H H' → Q .non H'
theorem scCkLet : FnScope ["letters"] ["letters"] (defScope sCkLet) := ⟨rfl, rfl, rfl, by decide +kernel, rfl, by decide +kernel, by decide +kernel⟩
def spDigit : Sp := fun vs H Q _ => ∃ i : Int, vs = [.int i] ∧ 0 ≤ i ∧ i ≤ 9 ∧ Q (.bl true) H
theorem scIsCount : FnScope ["thing"] ["thing"] (defScope sIsCount) := ⟨rfl, rfl, rfl, by decide +kernel, rfl, by decide +kernel, by decide +kernel⟩
theorem scIsDigit : FnScope ["thing"] ["thing"] (defScope sIsDigit) := ⟨rfl, rfl, rfl, by decide +kernel, rfl, by decide +kernel, by decide +kernel⟩
section
variable {P : Program} {w : World} {K : PySem.W.Frag} {mg : Str → Option Value} {base : Heap} {f fS fW fA fI fC : Addr} {fd fdS fdW fdA fdI fdC : FuncData}
theorem ok_isStr (F : Fun K "is_string_of" "is_string_of" sIsStr f fd) (gI : mg "isinstance" = none) (gS : mg "str" = none) (gA : mg "all" = none) : FnOk P w K mg base CX0 1 f fd ["letters", "thing"] spIsStr := by
  refine F.ok scIsStr (fun vs H Q E h => by obtain ⟨x, z, e, _⟩ := h; rw [e]; rfl) fun cdv A outer s H vs Q E hr hsp => ?_
  obtain ⟨L, z, rfl, sub, sh, hq⟩ := hsp
  have nd := scIsStr.nd
  refine ⟨_, pss_one (ps_ret (pe_and (pe_callB (r := rIsi K) call_isi rfl gI boot_isi (pa_cons (pv 1) (pa_cons (pe_bltn (v := .ty "str") rfl gS boot_str' rfl) pa_nil)))
    (pe_one (pe_callB (cr_all rfl) rfl gA boot_allN (pa_cons (pe_lc (own := [("letter", 2)]) (tt := tYes) rfl nd (pi_str (pv 1)) (blkOk_by (N := NIs) (sc := defScope sIsStr) (by decide +kernel)) (fun _ _ _ _ _ => pg_name (i := 2) nd rfl (Or.inl rfl)) (fun _ _ _ _ _ => pts_nil)
      (fun _ _ _ _ _ => pe_cmpR op_in_sign (pv 2) (pv 0) rfl)) pa_nil))))), ?_⟩
  have lz := len_cps z
  refine ⟨_, rfl, _, _, _, _, true, rfl, .ty _, .base (.str z), kit_ty (by decide +kernel), true, rfl, iteT ?_⟩
  refine ⟨_, rfl, z, rfl, lc_gen (bools z.cps.toList.length) (by rw [bools_len]; omega) (fun i H' _ lt => ?_) (fun H' _ => ?_) ?_ ?_⟩
  · rw [bools_len, Array.length_toList] at lt; exact lt
  · rw [bools_len, Array.length_toList]; exact Nat.le_refl _
  · rintro i v y H2 H3 Cn Nn ey s2 ⟨rfl, c, ec, rfl⟩ yes
    obtain ⟨rfl, lt⟩ := bools_at ey
    have cin : c ∈ L.cps.toList := sub c (List.mem_of_getElem? (by rw [Array.getElem?_toList]; exact ec))
    refine ⟨rfl, ?_⟩
    refine ⟨_, rfl, _, rfl, c, L, rfl, rfl, ?_⟩
    rw [decide_eq_true cin]
    exact yes H3 (Same.refl _)
  · intro H2 D nD oD s2
    rw [bools_map] at oD
    refine ⟨D, _, rfl, SqL.of oD, ?_⟩
    rw [all_true]
    exact hq H2 s2
theorem ok_isWord (F : Fun K "is_word" "is_word" sIsWord f fd) (FS : Fun K "is_string_of" "is_string_of" sIsStr fS fdS) (gF : mg "is_string_of" = some (.ref fS)) (gI : mg "isinstance" = none) (gS : mg "str" = none) (gA : mg "all" = none) (gN : mg "len" = none) : FnOk P w K mg base CX0 2 f fd ["letters", "thing"] spIsWord := by
  have GS : FnOk P w K mg base CX0 1 fS fdS ["letters", "thing"] spIsStr := ok_isStr FS gI gS gA
  have bS := FS.binds (ps := ["letters", "thing"]) fun _ _ _ _ _ _ us hl => match us, hl with | [_, _], _ => rfl
  refine F.ok scIsWord (fun vs H Q E h => by obtain ⟨x, z, e, _⟩ := h; rw [e]; rfl) fun cdv A outer s H vs Q E hr hsp => ?_
  obtain ⟨L, z, rfl, sub, s0, sh, hq⟩ := hsp
  refine ⟨_, pss_one (ps_ret (pe_and (pe_call GS hr rfl gF FS.kp bS .nil pass0 (pa_cons (pv 0) (pa_cons (pv 1) pa_nil))) (pe_one (pe_cmpR op_gt (pe_callB call_len_str rfl gN boot_len (pa_cons (pv 1) pa_nil)) pe_int (nomark _))))), ?_⟩
  refine ⟨_, rfl, _, rfl, L, z, rfl, sub, sh, fun H1 k1 => ⟨true, rfl, iteT ?_⟩⟩
  refine ⟨_, rfl, z, rfl, (by rw [sizeLine_eq]; omega), _, _, rfl, rfl, ?_⟩
  have e := hq H1 k1
  rw [← decide_eq_true (by omega : (0 : Int) < (z.length : Nat))] at e
  exact e
theorem ok_areLet (F : Fun K "are_letters" "are_letters" sAreLet f fd) (FW : Fun K "is_word" "is_word" sIsWord fW fdW) (gW : mg "is_word" = some (.ref fW)) (GW : FnOk P w K mg base CX0 2 fW fdW ["letters", "thing"] spIsWord) (gL : ∃ t, mg "SMALL_LETTERS" = some (.str (Str.ofString "abcdefghijklmnopqrstuvwxyz") t)) (gN : mg "len" = none) (gSet : mg "set" = none) : FnOk P w K mg base CX0 3 f fd ["thing"] spAreLet := by
  obtain ⟨tL, gL⟩ := gL
  have bW := FW.binds (ps := ["letters", "thing"]) fun _ _ _ _ _ _ us hl => match us, hl with | [_, _], _ => rfl
  refine F.ok scAreLet (fun vs H Q E h => by obtain ⟨x, e, _⟩ := h; rw [e]; rfl) fun cdv A outer s H vs Q E hr hsp => ?_
  obtain ⟨L, rfl, ok, hq⟩ := hsp
  have l0 := ok.l0
  have l3 := ok.l3
  refine ⟨_, pss_one (ps_ret (pe_and (pe_call GW hr rfl gW FW.kp bW .nil pass0 (pa_cons (pe_glob (v := .str (Str.ofString "abcdefghijklmnopqrstuvwxyz")) rfl gL ⟨_, rfl⟩) (pa_cons (pv 0) pa_nil))) (pe_one (pe_cmpR op_eq (pe_onceX rfl rfl gN rfl gSet (pv 0)) (pe_callB call_len_str rfl gN boot_len (pa_cons (pv 0) pa_nil)) (nomark _))))), ?_⟩
  refine ⟨_, rfl, _, L, rfl, ok.sm, l0, by omega, fun H1 k1 => ⟨true, rfl, iteT ?_⟩⟩
  refine ⟨_, rfl, L, rfl, ok.lo, ok.nd, by omega, _, rfl, L, rfl, (by rw [sizeLine_eq]; omega), rfl, ?_⟩
  rw [decide_eq_true rfl]
  exact hq H1 k1
theorem ok_ckLet (F : Fun K "check_letters" "check_letters" sCkLet f fd) (FA : Fun K "are_letters" "are_letters" sAreLet fA fdA) (gA : mg "are_letters" = some (.ref fA)) (GA : FnOk P w K mg base CX0 3 fA fdA ["thing"] spAreLet) (gM : ∃ t, mg "MOST_LETTERS" = some (.int 3 t)) (gN : mg "len" = none) : FnOk P w K mg base CX0 4 f fd ["letters"] spCkLet := by
  obtain ⟨tM, gM⟩ := gM
  have bA := FA.binds (ps := ["thing"]) fun _ _ _ _ _ _ us hl => match us, hl with | [_], _ => rfl
  refine F.ok scCkLet (fun vs H Q E h => by obtain ⟨x, e, _⟩ := h; rw [e]; rfl) fun cdv A outer s H vs Q E hr hsp => ?_
  obtain ⟨L, rfl, ok, hq⟩ := hsp
  have l3 := ok.l3
  refine ⟨_, pss_one (ps_if (PW.pt (pw_or (pt_not (pt_val (pe_call GA hr rfl gA FA.kp bA .nil pass0 (pa_cons (pv 0) pa_nil)))) (pw_or1 (pt_cmpR op_gt (pe_callB call_len_str rfl gN boot_len (pa_cons (pv 0) pa_nil)) (pe_glob (v := .int 3) rfl gM ⟨_, rfl⟩) (nomark _))))) (pss_one ps_never) pss_nil), ?_⟩
  refine ⟨_, rfl, L, rfl, ok, fun H1 k1 => ⟨_, rfl, iteF ?_⟩⟩
  refine ⟨_, rfl, L, rfl, (by rw [sizeLine_eq]; omega), _, _, rfl, rfl, _, rfl, ?_⟩
  rw [decide_eq_false (by omega : ¬ (3 : Int) < (L.length : Nat))]
  exact iteF (hq H1 k1)
theorem ok_isCount (F : Fun K "is_count" "is_count" sIsCount f fd) (FI : Fun K "is_integer" "is_integer" sIsInt fI fdI) (gI : mg "is_integer" = some (.ref fI)) (nI : mg "isinstance" = none) (nInt : mg "int" = none) (nB : mg "bool" = none) : FnOk P w K mg base CX0 2 f fd ["thing"] (fun vs H Q _ => ∃ i : Int, vs = [.int i] ∧ 0 ≤ i ∧ Q (.bl true) H) := by
  have GI : FnOk P w K mg base CX0 1 fI fdI ["thing"] spIsInt := ok_isInt FI nI nInt nB
  have bI := FI.binds (ps := ["thing"]) fun _ _ _ _ _ _ us hl => match us, hl with | [_], _ => rfl
  refine F.ok scIsCount (fun vs H Q E h => by obtain ⟨x, e, _⟩ := h; rw [e]; rfl) fun cdv A outer s H vs Q E hr hsp => ?_
  obtain ⟨i, rfl, i0, hq⟩ := hsp
  refine ⟨_, pss_one (ps_ret (pe_and (pe_call GI hr rfl gI FI.kp bI .nil pass0 (pa_cons (pv 0) pa_nil)) (pe_one (pe_cmpR op_ge (pv 0) pe_int (nomark _))))), ?_⟩
  refine ⟨_, rfl, i, rfl, true, rfl, iteT ⟨_, rfl, _, _, rfl, rfl, ?_⟩⟩
  rw [← decide_eq_true i0] at hq
  exact hq
theorem ok_isDigit (F : Fun K "is_digit" "is_digit" sIsDigit f fd) (FC : Fun K "is_count" "is_count" sIsCount fC fdC) (gC : mg "is_count" = some (.ref fC)) (GC : FnOk P w K mg base CX0 2 fC fdC ["thing"] (fun vs H Q _ => ∃ i : Int, vs = [.int i] ∧ 0 ≤ i ∧ Q (.bl true) H)) : FnOk P w K mg base CX0 3 f fd ["thing"] spDigit := by
  have bC := FC.binds (ps := ["thing"]) fun _ _ _ _ _ _ us hl => match us, hl with | [_], _ => rfl
  refine F.ok scIsDigit (fun vs H Q E h => by obtain ⟨x, e, _⟩ := h; rw [e]; rfl) fun cdv A outer s H vs Q E hr hsp => ?_
  obtain ⟨i, rfl, i0, i9, hq⟩ := hsp
  refine ⟨_, pss_one (ps_ret (pe_and (pe_call GC hr rfl gC FC.kp bC .nil pass0 (pa_cons (pv 0) pa_nil)) (pe_one (pe_cmpR op_le (pv 0) pe_int (nomark _))))), ?_⟩
  refine ⟨_, rfl, i, rfl, i0, true, rfl, iteT ⟨_, rfl, _, _, rfl, rfl, ?_⟩⟩
  rw [← decide_eq_true i9] at hq
  exact hq
end
end L2.TB
/-! readers, as data and in the heap; has_just of a text's letters; is_one_of over a dict -/
namespace L2.TB
open PySem PySem.Spec PyProof.Rows
theorem pg_either {X : Cx} {e : Expr} {t1 t2 : TG} (h1 : PG X e t1) (h2 : PG X e t2) : PG X e (fun v σ H Q => t1 v σ H Q ∨ t2 v σ H Q) :=
  ⟨fun pins s σ H v u Q I r hw => hw.elim (fun z => h1.run pins s σ H v u Q I r z) (fun z => h2.run pins s σ H v u Q I r z)⟩
abbrev StT : Type := Int × Dc Str
abbrev RdT : Type := Str × Dc StT
def dkT (l : List (Str × Str)) : List (Key × V) := l.map fun e => (Sum.inr e.1, .str e.2)
theorem dkT_len (l : List (Str × Str)) : (dkT l).length = l.length := List.length_map _
theorem dkT_keys (l : List (Str × Str)) : (dkT l).map (·.1) = (l.map (·.1)).map Sum.inr := by
  unfold dkT
  rw [List.map_map, List.map_map]
  rfl
theorem val_dkT : ∀ (l : List (Str × Str)) (n : Str), valV (dkT l) (Sum.inr n) = (lk l n).map V.str
  | [], _ => rfl
  | e :: l, n => by
    have ih := val_dkT l n
    unfold dkT at ih ⊢
    rw [List.map_cons, lk_cons]
    by_cases h : e.1 = n
    · rw [valV_pos (show ((Sum.inr e.1, V.str e.2) : Key × V).1 = Sum.inr n from congrArg Sum.inr h), if_pos h]
      rfl
    · rw [valV_neg (fun z => h (Sum.inr.inj z)), if_neg h]
      exact ih
theorem dk_txt {A : Addr → Prop} {H : Hp} {es : List (Key × V)} {l : List (Str × Str)} (h : Paired (DcE A H) es l) : es = dkT l := by
  induction h with
  | nil => rfl
  | @cons e p es l h _ ih =>
    obtain ⟨h1, h2⟩ := h
    have h2 : e.2 = .str p.2 := h2
    rw [ih, show e = (Sum.inr p.1, V.str p.2) from Prod.ext h1 h2]
    rfl
theorem txt_dk {A : Addr → Prop} {H : Hp} : ∀ l : List (Str × Str), Paired (DcE A H) (dkT l) l
  | [] => .nil
  | e :: l => .cons ⟨rfl, rfl⟩ (txt_dk l)
theorem lk_in {α : Type} {l : List (Str × α)} {n : Str} (h : n ∈ l.map (·.1)) : ∃ a, lk l n = some a ∧ (n, a) ∈ l := by
  induction l with
  | nil => cases h
  | cons e l ih =>
    rw [lk_cons]
    by_cases c : e.1 = n
    · rw [if_pos c]
      exact ⟨e.2, rfl, by rw [← c]; exact List.mem_cons_self⟩
    · rw [if_neg c]
      rw [List.map_cons, List.mem_cons] at h
      obtain ⟨a, h1, h2⟩ := ih (h.resolve_left fun z => c z.symm)
      exact ⟨a, h1, List.mem_cons_of_mem _ h2⟩
theorem lk_get {α : Type} {l : List (Str × α)} {n : Str} {a : α} (h : lk l n = some a) : (n, a) ∈ l := by
  induction l with
  | nil => cases h
  | cons e l ih =>
    rw [lk_cons] at h
    by_cases c : e.1 = n
    · rw [if_pos c] at h
      rw [← c, ← Option.some.inj h]
      exact List.mem_cons_self
    · rw [if_neg c] at h
      exact List.mem_cons_of_mem _ (ih h)
/-- what Machines asks of a reader -/
structure RdOk (L : Str) (r : RdT) : Prop where
  n0 : 0 < r.2.l.length
  n6 : r.2.l.length ≤ 6
  nd : (r.2.l.map (·.1)).Nodup
  nm : ∀ s ∈ r.2.l, NmOk s.1
  bg : r.1 ∈ r.2.l.map (·.1)
  d0 : ∀ s ∈ r.2.l, 0 ≤ s.2.1 ∧ s.2.1 ≤ 9
  mp : ∀ s ∈ r.2.l, (s.2.2.l.map (·.1)).Perm (lets L)
  mv : ∀ s ∈ r.2.l, ∀ m ∈ s.2.2.l, m.2 ∈ r.2.l.map (·.1)
/-- a state of a reader, its pair a list or a tuple -/
def StG (K : PySem.W.Frag) (A : Addr → Prop) (H : Hp) (e : Key × V) (q : Str × StT) : Prop := e.1 = Sum.inr q.1 ∧ ∃ p m, e.2 = .ref p ∧ A p ∧ A m ∧ SqA K H p [.int q.2.1, .ref m] ∧ H m = some (.dK (dkT q.2.2.l))
def RdG (K : PySem.W.Frag) (A : Addr → Prop) (H : Hp) (v : V) (r : RdT) : Prop := ∃ a d es, v = .ref a ∧ A a ∧ A d ∧ SqA K H a [.str r.1, .ref d] ∧ H d = some (.dK es) ∧ Paired (StG K A H) es r.2.l
theorem SqA.kp {K : PySem.W.Frag} {H H' : Hp} {a : Addr} {xs : List V} (h : SqA K H a xs) (k : ∀ o, H a = some o → H' a = some o) : SqA K H' a xs := h.imp (fun h => k _ h) (fun h => k _ h)
theorem StG.keep {K : PySem.W.Frag} {A A' : Addr → Prop} {H H' : Hp} {e : Key × V} {q : Str × StT} (h : StG K A H e q) (k : ∀ b o, A b → H b = some o → A' b ∧ H' b = some o) : StG K A' H' e q := by
  obtain ⟨h1, p, m, h2, a1, a2, h3, h4⟩ := h
  have hp : ∃ o, H p = some o := h3.elim (fun h => ⟨_, h⟩) (fun h => ⟨_, h⟩)
  obtain ⟨o, ho⟩ := hp
  exact ⟨h1, p, m, h2, (k _ _ a1 ho).1, (k _ _ a2 h4).1, h3.kp fun o h => (k _ _ a1 h).2, (k _ _ a2 h4).2⟩
theorem RdG.keep {K : PySem.W.Frag} {A A' : Addr → Prop} {H H' : Hp} {v : V} {r : RdT} (h : RdG K A H v r) (k : ∀ b o, A b → H b = some o → A' b ∧ H' b = some o) : RdG K A' H' v r := by
  obtain ⟨a, d, es, h1, a1, a2, h3, h4, h5⟩ := h
  have hp : ∃ o, H a = some o := h3.elim (fun h => ⟨_, h⟩) (fun h => ⟨_, h⟩)
  obtain ⟨o, ho⟩ := hp
  exact ⟨a, d, es, h1, (k _ _ a1 ho).1, (k _ _ a2 h4).1, h3.kp fun o h => (k _ _ a1 h).2, (k _ _ a2 h4).2, Paired.mapP h5 fun e q h => h.keep k⟩
theorem at_stG {K : PySem.W.Frag} {A : Addr → Prop} {H : Hp} {e : Key × V} {q : Str × StT} (h : DcE A H e q) : StG K A H e q := by
  obtain ⟨h1, p, x, y, h2, a1, o, hx, m, ms, hy, a2, om, nd, pr⟩ := h
  have hx : x = .int q.2.1 := hx
  have hy : y = .ref m := hy
  subst hx hy
  have e := dk_txt pr
  subst e
  exact ⟨h1, p, m, h2, a1, a2, .inr o, om⟩
theorem at_rdG {K : PySem.W.Frag} {A : Addr → Prop} {H : Hp} {v : V} {r : RdT} (h : PyD.at_ A H v r) : RdG K A H v r := by
  obtain ⟨a, x, y, h1, a1, o, hx, d, es, hy, a2, od, nd, pr⟩ := h
  have hx : x = .str r.1 := hx
  have hy : y = .ref d := hy
  subst hx hy
  exact ⟨a, d, es, h1, a1, a2, .inr o, od, Paired.mapP pr fun e q h => at_stG h⟩
theorem st_keys {K : PySem.W.Frag} {A : Addr → Prop} {H : Hp} {es : List (Key × V)} {l : List (Str × StT)} (h : Paired (StG K A H) es l) : es.map (·.1) = (l.map (·.1)).map Sum.inr := by
  induction h with
  | nil => rfl
  | cons h _ ih => rw [List.map_cons, List.map_cons, List.map_cons, ih, h.1]
theorem nd_inr {l : List Str} (h : l.Nodup) : (l.map (Sum.inr : Str → Key)).Nodup := List.Pairwise.map Sum.inr (fun a b n e => n (Sum.inr.inj e)) h
/-- a state, by its name -/
theorem st_val {K : PySem.W.Frag} {A : Addr → Prop} {H : Hp} {es : List (Key × V)} {l : List (Str × StT)} (h : Paired (StG K A H) es l) {n : Str} {s : StT} (e : lk l n = some s) : ∃ v, valV es (Sum.inr n) = some v ∧ StG K A H (Sum.inr n, v) (n, s) := by
  induction h with
  | nil => cases e
  | @cons x q es l h1 _ ih =>
    rw [lk_cons] at e
    by_cases c : q.1 = n
    · rw [if_pos c] at e
      obtain rfl := Option.some.inj e
      refine ⟨x.2, valV_pos (by rw [h1.1, c]), ?_⟩
      have z : (Sum.inr n, x.2) = x := Prod.ext (by rw [h1.1, c]) rfl
      rw [z, ← c]
      exact h1
    · rw [if_neg c] at e
      obtain ⟨v, e1, e2⟩ := ih e
      exact ⟨v, by rw [valV_neg (by rw [h1.1]; exact fun z => c (Sum.inr.inj z))]; exact e1, e2⟩
/-- the dict of a reader's states is none of its states' dicts -/
theorem st_far {K : PySem.W.Frag} {A : Addr → Prop} {H : Hp} {es : List (Key × V)} {l : List (Str × StT)} {d : Addr} (od : H d = some (.dK es)) (h : Paired (StG K A H) es l) {n : Str} {s : StT} {v : V} (st : StG K A H (Sum.inr n, v) (n, s)) : ∃ p m, v = .ref p ∧ A p ∧ A m ∧ SqA K H p [.int s.1, .ref m] ∧ H m = some (.dK (dkT s.2.l)) ∧ p ≠ d ∧ (l ≠ [] → m ≠ d) := by
  obtain ⟨_, p, m, h2, a1, a2, h3, h4⟩ := st
  refine ⟨p, m, h2, a1, a2, h3, h4, fun z => ?_, fun ne z => ?_⟩
  · rw [z] at h3
    rcases h3 with h3 | h3
    · rw [od] at h3; cases h3
    · rw [od] at h3; cases h3
  · rw [z, od] at h4
    have e := HO.dK.inj (Option.some.inj h4)
    cases h with
    | nil => exact ne rfl
    | @cons x q es l h1 _ =>
      obtain ⟨_, p2, m2, e2, _⟩ := h1
      cases c : s.2.l with
      | nil => rw [c] at e; cases e
      | cons y ys =>
        rw [c] at e
        have e3 := (List.cons.inj e).1
        rw [e3] at e2
        cases e2
def spIsOneD : Sp := fun vs H Q _ => ∃ (d : Addr) (kvs : List (Key × V)) (x : Str) (v : V), vs = [.ref d, .str x] ∧ Rd H d (.dK kvs) ∧ valV kvs (Sum.inr x) = some v ∧ Q (.bl true) H
def spCkAD : Sp := fun vs H Q _ => ∃ (d : Addr) (kvs : List (Key × V)) (x : Str) (v : V), vs = [.ref d, .str x] ∧ Rd H d (.dK kvs) ∧ valV kvs (Sum.inr x) = some v ∧ Q .non H
/-- a dict has just a text's letters as its names -/
def spJustX : Sp := fun vs H Q _ => ∃ (d : Addr) (L : Str) (l : List (Str × Str)), vs = [.ref d, .str L] ∧ H d = some (.dK (dkT l)) ∧ (l.map (·.1)).Perm (lets L) ∧ L.length < 1000 ∧ ∀ H', Same H H' → Q (.bl true) H'
section
variable {P : Program} {w : World} {K : PySem.W.Frag} {mg : Str → Option Value} {base : Heap} {f fO : Addr} {fd fdO : FuncData}
theorem ok_isOneD (F : Fun K "is_one_of" "is_one_of" sIsOne f fd) (gI : mg "isinstance" = none) (gS : mg "str" = none) : FnOk P w K mg base CX0 1 f fd ["names", "thing"] spIsOneD := by
  refine F.ok scIsOne (fun vs H Q E h => by obtain ⟨d, kvs, x, v, e, _⟩ := h; rw [e]; rfl) fun cdv A outer s H vs Q E hr hsp => ?_
  obtain ⟨d, kvs, x, v, rfl, hd, hv, hq⟩ := hsp
  have hu := hu_of hr
  refine ⟨_, pss_one (ps_ret (pe_and (pe_callB (r := rIsi K) call_isi rfl gI boot_isi (pa_cons (pv 1) (pa_cons (pe_bltn (v := .ty "str") rfl gS boot_str' rfl) pa_nil)))
    (pe_one (pe_cmp (pc_din hu (pv 1) (pv 0)))))), ?_⟩
  refine ⟨_, rfl, _, _, _, _, true, rfl, .ty _, .base (.str x), kit_ty (by decide +kernel), true, rfl, ?_⟩
  refine iteT ⟨_, rfl, _, rfl, d, some v, rfl, .inl ⟨kvs, Sum.inr x, hd, rfl, hv.symm⟩, hq⟩
theorem ok_ckAD (F : Fun K "check_asked" "check_asked" sCkA f fd) (FO : Fun K "is_one_of" "is_one_of" sIsOne fO fdO) (gO : mg "is_one_of" = some (.ref fO)) (gI : mg "isinstance" = none) (gS : mg "str" = none) : FnOk P w K mg base CX0 2 f fd ["names", "asked"] spCkAD := by
  have G : FnOk P w K mg base CX0 1 fO fdO ["names", "thing"] spIsOneD := ok_isOneD FO gI gS
  have b := FO.binds (ps := ["names", "thing"]) fun _ _ _ _ _ _ us hl => match us, hl with | [_, _], _ => rfl
  refine F.ok scCkA (fun vs H Q E h => by obtain ⟨d, kvs, x, v, e, _⟩ := h; rw [e]; rfl) fun cdv A outer s H vs Q E hr hsp => ?_
  obtain ⟨d, kvs, x, v, rfl, hd, hv, hq⟩ := hsp
  refine ⟨_, pss_one (ps_if (pt_not (pt_val (pe_call G hr rfl gO FO.kp b .nil pass0 (pa_cons (pv 0) (pa_cons (pv 1) pa_nil))))) (pss_one ps_never) pss_nil), ?_⟩
  exact ⟨_, rfl, _, rfl, d, kvs, x, v, rfl, hd, hv, _, rfl, iteF hq⟩
theorem ok_justX (F : Fun K "has_just" "has_just" sHasJust f fd) (gI : mg "isinstance" = none) (gD : mg "dict" = none) (gN : mg "len" = none) (gA : mg "all" = none) : FnOk P w K mg base CX0 1 f fd ["thing", "names"] spJustX := by
  refine F.ok scHasJust (fun vs H Q E h => by obtain ⟨d, c, l, e, _⟩ := h; rw [e]; rfl) fun cdv A outer s H vs Q E hr hsp => ?_
  obtain ⟨d, L, l, rfl, od, pm, sh, hq⟩ := hsp
  have nd := scHasJust.nd
  have hu := hu_of hr
  refine ⟨_, pss_one (ps_ret (pe_and (pe_callB (r := rIsi K) call_isi rfl gI boot_isi (pa_cons (pv 0) (pa_cons (pe_bltn (v := .ty "dict") rfl gD boot_dict' rfl) pa_nil))) (pe_and (pe_cmpR op_eq (pe_callB call_lenD rfl gN boot_len (pa_cons (pv 0) pa_nil)) (pe_callB call_len_str rfl gN boot_len (pa_cons (pv 1) pa_nil)) (nomark _))
    (pe_one (pe_callB (cr_all rfl) rfl gA boot_allN (pa_cons (pe_lc (own := [("name", 2)]) (tt := tYes) rfl nd (pi_str (pv 1)) (blkOk_by (N := NHj) (sc := defScope sHasJust) (by decide +kernel)) (fun _ _ _ _ _ => pg_name (i := 2) nd rfl (Or.inl rfl)) (fun _ _ _ _ _ => pts_nil)
      (fun _ _ _ _ _ => pe_cmp (pc_din hu (pv 2) (pv 0)))) pa_nil)))))), ?_⟩
  have lz := len_cps L
  have ll : (dkT l).length = L.length := by
    have z := pm.length_eq
    rw [List.length_map] at z
    rw [dkT_len, z]
    unfold lets
    rw [List.length_map, lz]
  refine ⟨_, rfl, _, _, _, _, true, rfl, .ty _, .base (.dK od), kit_ty (by decide +kernel), _, rfl, iteT ?_⟩
  refine ⟨_, rfl, d, _, rfl, od, _, rfl, L, rfl, (by rw [sizeLine_eq]; omega), rfl, true, congrArg V.bl (decide_eq_true (by rw [ll])), iteT ?_⟩
  refine ⟨_, rfl, L, rfl, lc_gen (bools L.cps.toList.length) (by rw [bools_len]; omega) (fun i H' _ lt => ?_) (fun H' _ => ?_) ?_ ?_⟩
  · rw [bools_len, Array.length_toList] at lt; exact lt
  · rw [bools_len, Array.length_toList]; exact Nat.le_refl _
  · rintro i v y H2 H3 Cn Nn ey s2 ⟨rfl, c, ec, rfl⟩ yes
    obtain ⟨rfl, lt⟩ := bools_at ey
    have cin : one1 c ∈ l.map (·.1) := pm.mem_iff.mpr (List.mem_map_of_mem (List.mem_of_getElem? (by rw [Array.getElem?_toList]; exact ec)))
    obtain ⟨a, ea, _⟩ := lk_in cin
    refine ⟨rfl, ?_⟩
    refine ⟨_, rfl, _, rfl, d, _, rfl, DGet.k (k := Sum.inr (one1 c)) (s2 _ _ od), ?_⟩
    rw [val_dkT, ea]
    exact yes H3 (Same.refl _)
  · intro H2 D nD oD s2
    rw [bools_map] at oD
    refine ⟨D, _, rfl, SqL.of oD, ?_⟩
    rw [all_true]
    exact hq H2 s2
end
end L2.TB
/-! is_pair, _is_reader -/
namespace L2.TB
open PySem PySem.Spec PyProof.Rows
def spPairA (K : PySem.W.Frag) : Sp := fun vs H Q _ => ∃ (p : Addr) (a b : V), vs = [.ref p] ∧ SqA K H p [a, b] ∧ ∀ H', Same H H' → Q (.bl true) H'
theorem scPairA : FnScope ["thing"] ["thing"] (defScope sIsPair) := ⟨rfl, rfl, rfl, by decide +kernel, rfl, by decide +kernel, by decide +kernel⟩
def spIsRd (K : PySem.W.Frag) : Sp := fun vs H Q _ => ∃ (L : Str) (v : V) (r : RdT), vs = [.str L, v] ∧ LetOk L ∧ RdG K (fun _ => True) H v r ∧ RdOk L r ∧ ∀ H', Same H H' → Q (.bl true) H'
abbrev NIr : List Str := ["letters", "thing", "begin", "states", "state", "letter"]
theorem scIsRd : FnScope NIr ["letters", "thing"] (defScope sIsReader) := ⟨rfl, rfl, rfl, by decide +kernel, rfl, by decide +kernel, by decide +kernel⟩
abbrev scIr : Scope := { kind := ScopeKind.function, names := [(Str.ofString ".0", NameKind.local), (Str.ofString "state", NameKind.cell), (Str.ofString "is_pair", NameKind.globalImplicit), (Str.ofString "is_digit", NameKind.globalImplicit), (Str.ofString "has_just", NameKind.globalImplicit), (Str.ofString "all", NameKind.globalImplicit), (Str.ofString "letters", NameKind.cell), (Str.ofString "states", NameKind.cell)], isGenerator := false, isCoroutine := false }
abbrev tStI (K : PySem.W.Frag) (i : Int) : TE := tOp (rIx K) (tDGet (tVar 3) (tVar 4)) (tC (.int i))
abbrev teIr (K : PySem.W.Frag) : TE := tCall spIsOneD [] E0 (tCons (tVar 3) (tCons (tDGet (tStI K 1) (tVar 5)) tNil))
abbrev teIrO (K : PySem.W.Frag) : TE := tAndV (tCall (spPairA K) [] E0 (tCons (tDGet (tVar 3) (tVar 4)) tNil)) (tAndV (tCall spDigit [] E0 (tCons (tStI K 0) tNil)) (tAndV (tCall spJustX [] E0 (tCons (tStI K 1) (tCons (tVar 0) tNil))) (tCB (rAll K) (tCons (tLc (iStr (tVar 0)) (gName 5) tYes (teIr K) [5]) tNil))))
/-- a tuple or a list taken apart -/
def gSq (K : PySem.W.Frag) (n : Nat) (t : TGs) : TG := fun v σ H Q => gTup K n t v σ H Q ∨ gUnl K n t v σ H Q
theorem gSq_of {K : PySem.W.Frag} {n : Nat} {t : TGs} {a : Addr} {xs : List V} {σ : L2.St} {H : Hp} {Q : L2.St → Hp → Prop} (h : SqA K H a xs) (l : xs.length = n) (q : t xs σ H Q) : gSq K n t (.ref a) σ H Q := by
  rcases h with h | h
  · exact .inr ⟨a, xs, rfl, SqL.of h, l, q⟩
  · exact .inl ⟨a, xs, rfl, SqT.of h, l, q⟩
section
variable {P : Program} {w : World} {K : PySem.W.Frag} {mg : Str → Option Value} {base : Heap} {f fL fP fO fN fD fJ : Addr} {fd fdL fdP fdO fdN fdD fdJ : FuncData}
theorem ok_pairA (F : Fun K "is_pair" "is_pair" sIsPair f fd) (FL : Fun K "is_list" "is_list" sIsList fL fdL) (gL : mg "is_list" = some (.ref fL)) (nI : mg "isinstance" = none) (nL : mg "list" = none) (nT : mg "tuple" = none) (nN : mg "len" = none) : FnOk P w K mg base CX0 2 f fd ["thing"] (spPairA K) := by
  have GL : FnOk P w K mg base CX0 1 fL fdL ["thing"] (spIsList K) := ok_isList FL nI nL nT
  have bL := FL.binds (ps := ["thing"]) fun _ _ _ _ _ _ us hl => match us, hl with | [_], _ => rfl
  refine F.ok scPairA (fun vs H Q E h => by obtain ⟨a, u, v, e, _⟩ := h; rw [e]; rfl) fun cdv A outer s H vs Q E hr hsp => ?_
  obtain ⟨a, u, v, rfl, ha, hq⟩ := hsp
  refine ⟨_, pss_one (ps_ret (pe_and (pe_call GL hr rfl gL FL.kp bL .nil pass0 (pa_cons (pv 0) pa_nil)) (pe_one (pe_cmpR op_eq (pe_callB call_len_seq rfl nN boot_len (pa_cons (pv 0) pa_nil)) pe_int (nomark _))))), ?_⟩
  refine ⟨_, rfl, a, _, rfl, ha, fun H1 k1 => ⟨_, rfl, iteT ?_⟩⟩
  exact ⟨_, rfl, a, _, rfl, (ha.same k1).imp SqL.of SqT.of, rfl, hq H1 k1⟩
theorem rIx_sq {K : PySem.W.Frag} {H : Hp} {p : Addr} {xs : List V} {i : Int} {v : V} {R : VK} (h : SqA K H p xs) (e : atI xs i = some v) (r : R v H) : rIx K (.ref p) (.int i) H R := by
  rcases h with h | h
  · exact .inl ⟨p, _, _, _, rfl, rfl, SqL.of h, e, r⟩
  · exact .inr (.inl ⟨p, _, _, _, rfl, rfl, SqT.of h, e, r⟩)
theorem ok_isRd (F : Fun K "_is_reader" "_is_reader" sIsReader f fd) (FP : Fun K "is_pair" "is_pair" sIsPair fP fdP) (gP : mg "is_pair" = some (.ref fP)) (GP : FnOk P w K mg base CX0 2 fP fdP ["thing"] (spPairA K)) (FO : Fun K "is_one_of" "is_one_of" sIsOne fO fdO) (gO : mg "is_one_of" = some (.ref fO)) (FN : Fun K "is_name" "is_name" sIsName fN fdN) (gN : mg "is_name" = some (.ref fN)) (GN : FnOk P w K mg base CX0 1 fN fdN ["thing"] spIsName)
    (FD : Fun K "is_digit" "is_digit" sIsDigit fD fdD) (gD : mg "is_digit" = some (.ref fD)) (GD : FnOk P w K mg base CX0 3 fD fdD ["thing"] spDigit) (FJ : Fun K "has_just" "has_just" sHasJust fJ fdJ) (gJ : mg "has_just" = some (.ref fJ))
    (nI : mg "isinstance" = none) (nS : mg "str" = none) (nD : mg "dict" = none) (nN : mg "len" = none) (nA : mg "all" = none) (gM : ∃ t, mg "MOST_STATES" = some (.int 6 t)) : FnOk P w K mg base CX0 4 f fd ["letters", "thing"] (spIsRd K) := by
  obtain ⟨tM, gM⟩ := gM
  have GO : FnOk P w K mg base CX0 1 fO fdO ["names", "thing"] spIsOneD := ok_isOneD FO nI nS
  have bO := FO.binds (ps := ["names", "thing"]) fun _ _ _ _ _ _ us hl => match us, hl with | [_, _], _ => rfl
  have GJ : FnOk P w K mg base CX0 1 fJ fdJ ["thing", "names"] spJustX := ok_justX FJ nI nD nN nA
  have bJ := FJ.binds (ps := ["thing", "names"]) fun _ _ _ _ _ _ us hl => match us, hl with | [_, _], _ => rfl
  have bP := FP.binds (ps := ["thing"]) fun _ _ _ _ _ _ us hl => match us, hl with | [_], _ => rfl
  have bN := FN.binds (ps := ["thing"]) fun _ _ _ _ _ _ us hl => match us, hl with | [_], _ => rfl
  have bD := FD.binds (ps := ["thing"]) fun _ _ _ _ _ _ us hl => match us, hl with | [_], _ => rfl
  refine F.ok scIsRd (fun vs H Q E h => by obtain ⟨L, v, r, e, _⟩ := h; rw [e]; rfl) fun cdv A outer s H vs Q E hr hsp => ?_
  obtain ⟨L, v, r, rfl, lok, rg, ok, hq⟩ := hsp
  obtain ⟨a, d, es, rfl, _, _, oa, od, pr⟩ := rg
  have nd := scIsRd.nd
  have hu := hu_of (hr.mono (show 1 ≤ 3 by decide))
  refine ⟨_, pss_cons (ps_if (PW.pt (pw_or (pt_not (pt_val (pe_call GP (hr.mono (by decide)) rfl gP FP.kp bP .nil pass0 (pa_cons (pv 1) pa_nil)))) (pw_or (pt_not (pt_val (pe_callB (r := rIsi K) call_isi rfl nI boot_isi (pa_cons (pe_ix (r := rIx K) ix_seq (pv 1) pe_int (fun _ _ => rfl)) (pa_cons (pe_bltn (v := .ty "dict") rfl nD boot_dict' rfl) pa_nil)))))
      (pw_or1 (pt_not (pt_chain op_le op_le pe_int (pe_callB call_lenD rfl nN boot_len (pa_cons (pe_ix (r := rIx K) ix_seq (pv 1) pe_int (fun _ _ => rfl)) pa_nil)) (pe_glob (v := .int 6) rfl gM ⟨_, rfl⟩))))))) (pss_one ps_never) pss_nil)
    (pss_cons (ps_asg (pv 1) (pg_either (pg_tup (n := 2) rfl (pgs_cons (pg_name (i := 2) nd rfl (Or.inl rfl)) (pgs_cons (pg_name (i := 3) nd rfl (Or.inr rfl)) pgs_nil))) (pg_unl (n := 2) rfl (pgs_cons (pg_name (i := 2) nd rfl (Or.inl rfl)) (pgs_cons (pg_name (i := 3) nd rfl (Or.inr rfl)) pgs_nil)))))
    (pss_cons (ps_if (PW.pt (pw_or (pt_not (pt_val (pe_call GO (hr.mono (by decide)) rfl gO FO.kp bO .nil pass0 (pa_cons (pv 3) (pa_cons (pv 2) pa_nil)))))
      (pw_or1 (pt_not (pt_val (pe_callB (cr_all rfl) rfl nA boot_allN (pa_cons (pe_lock (pe_lc (own := [("state", 4)]) (g := gName 4) (tt := tYes) rfl nd (pi_keys (pv 3)) (blkOk_by (N := NIr) (sc := defScope sIsReader) (by decide +kernel)) (fun _ _ _ _ _ => pg_name (i := 4) nd rfl (Or.inl rfl)) (fun _ _ _ _ _ => pts_nil)
        (fun _ _ _ _ _ => pe_call GN (hr.mono (by decide)) rfl gN FN.kp bN .nil pass0 (pa_cons (pv 4) pa_nil)))) pa_nil))))))) (pss_one ps_never) pss_nil)
    (pss_one (ps_ret (pe_callB (cr_all rfl) rfl nA boot_allN (pa_cons (pe_lock (pe_lc (own := [("state", 4)]) (g := gName 4) (tt := tYes) (te := teIrO K) rfl nd (pi_keys (pv 3)) (blkOk_by (N := NIr) (sc := defScope sIsReader) (by decide +kernel)) (fun _ _ _ _ _ => pg_name (i := 4) nd rfl (Or.inr rfl)) (fun _ _ _ _ _ => pts_nil)
      (fun _ _ _ _ _ => pe_and (pe_call GP (hr.mono (by decide)) rfl gP FP.kp bP .nil pass0 (pa_cons (pe_dget hu (pv 3) (pv 4) (fun _ _ => rfl)) pa_nil)) (pe_and (pe_call GD hr rfl gD FD.kp bD .nil pass0 (pa_cons (pe_ix (r := rIx K) ix_seq (pe_dget hu (pv 3) (pv 4) (fun _ _ => rfl)) pe_int (fun _ _ => rfl)) pa_nil))
        (pe_and (pe_call GJ (hr.mono (by decide)) rfl gJ FJ.kp bJ .nil pass0 (pa_cons (pe_ix (r := rIx K) ix_seq (pe_dget hu (pv 3) (pv 4) (fun _ _ => rfl)) pe_int (fun _ _ => rfl)) (pa_cons (pv 0) pa_nil)))
        (pe_one (pe_callB (cr_all rfl) rfl nA boot_allN (pa_cons (pe_lc (own := [("letter", 5)]) (g := gName 5) (tt := tYes) (wi := iStr (tVar 0)) (te := teIr K) rfl nd (pi_str (pv 0)) (blkOk_by (N := NIr) (sc := scIr) (by decide +kernel)) (fun _ _ _ _ _ => pg_name (i := 5) nd rfl (Or.inl rfl)) (fun _ _ _ _ _ => pts_nil)
          (fun _ _ _ _ _ => pe_call GO (hr.mono (by decide)) rfl gO FO.kp bO .nil pass0 (pa_cons (pv 3) (pa_cons (pe_dget hu (pe_ix (r := rIx K) ix_seq (pe_dget hu (pv 3) (pv 4) (fun _ _ => rfl)) pe_int (fun _ _ => rfl)) (pv 5) (fun _ _ => rfl)) pa_nil)))) pa_nil)))))))) pa_nil)))))), ?_⟩
  have les : es.length = r.2.l.length := Paired.length pr
  have kes := st_keys pr
  have ndes : (es.map (·.1)).Nodup := by rw [kes]; exact nd_inr ok.nd
  have l3 := lok.l3
  have n0 := ok.n0
  have n6 := ok.n6
  have ne : r.2.l ≠ [] := fun z => by rw [z] at n0; exact absurd n0 (by decide)
  refine ⟨_, rfl, a, _, _, rfl, oa, fun H1 k1 => ⟨_, rfl, iteF ?_⟩⟩
  have oa1 := oa.same k1
  have od1 := k1 _ _ od
  refine ⟨_, rfl, rIx_sq oa1 rfl ⟨_, _, _, _, true, rfl, .ty _, .base (.dK od1), kit_ty (by decide +kernel), _, rfl, iteF ?_⟩⟩
  refine ⟨_, rfl, rIx_sq oa1 rfl ⟨d, es, rfl, od1, _, _, rfl, rfl, _, rfl, ?_⟩⟩
  rw [decide_eq_true (by omega : (1 : Int) ≤ (es.length : Nat))]
  refine iteT ⟨_, _, rfl, rfl, _, rfl, ?_⟩
  rw [decide_eq_true (by omega : ((es.length : Nat) : Int) ≤ 6)]
  refine iteF ⟨_, rfl, gSq_of oa1 rfl ⟨_, _, rfl, _, _, rfl, rfl, ?_⟩⟩
  obtain ⟨bs, eb, _⟩ := lk_in ok.bg
  obtain ⟨bv, ebv, _⟩ := st_val pr eb
  refine ⟨_, rfl, _, rfl, d, es, r.1, bv, rfl, .inl od1, ebv, _, rfl, iteF ?_⟩
  -- the states' names
  have got : ∀ (i : Nat) (k : Key) (x : V), es[i]? = some (k, x) → ∃ q, r.2.l[i]? = some q ∧ k = Sum.inr q.1 ∧ lk r.2.l q.1 = some q.2 ∧ valV es (Sum.inr q.1) = some x ∧ StG K (fun _ => True) H (Sum.inr q.1, x) (q.1, q.2) := fun i k x e => by
    obtain ⟨q, eq, h1⟩ := paired_get pr e
    have hk : k = Sum.inr q.1 := h1.1
    subst hk
    exact ⟨q, eq, rfl, lk_mem ok.nd (List.mem_of_getElem? eq), valV_atN ndes e, h1⟩
  refine ⟨d, _, od1, trivial, fun oo => ⟨_, rfl, d, oo, rfl, .inl ⟨_, upd_same, lc_gen (bools es.length) (by rw [bools_len]; omega) (fun j H' s lt => ⟨s _ _ upd_same, by rw [bools_len] at lt; exact lt⟩) (fun H' s => ⟨s _ _ upd_same, by rw [bools_len]; exact Nat.le_refl _⟩) ?_ ?_⟩⟩⟩
  · rintro j y b H4 H5 Cn Nn ey s4 ⟨rfl, k, w', ek, rfl⟩ yes
    obtain ⟨rfl, lt⟩ := bools_at ey
    obtain ⟨q, eq, rfl, _, _, _⟩ := got _ _ _ ek
    refine ⟨rfl, ?_⟩
    exact ⟨_, rfl, q.1, rfl, ok.nm q (List.mem_of_getElem? eq), fun H6 s6 => yes H6 s6⟩
  intro H4 D nD oD s4
  obtain ⟨b1, s34⟩ := lock_offN od1 s4
  have Da : D ≠ d := fun z => by rw [z, upd_same] at nD; cases nD
  rw [bools_map] at oD
  refine ⟨b1, D, _, rfl, SqL.of (by rw [upd_ne Da]; exact oD), ?_⟩
  rw [all_true]
  refine ⟨_, rfl, iteF ?_⟩
  have k03 := k1.trans s34
  generalize upd H4 d (.dK es) = H7 at k03 s34
  clear oD nD s4 b1
  -- the states
  have od7 := k03 _ _ od
  refine ⟨d, _, od7, trivial, fun oo => ⟨_, rfl, d, oo, rfl, .inl ⟨_, upd_same, lc_gen (bools es.length) (by rw [bools_len]; omega) (fun j H' s lt => ⟨s _ _ upd_same, by rw [bools_len] at lt; exact lt⟩) (fun H' s => ⟨s _ _ upd_same, by rw [bools_len]; exact Nat.le_refl _⟩) ?_ ?_⟩⟩⟩
  · rintro j y b H4 H5 Cn Nn ey s4 ⟨rfl, k, w', ek, rfl⟩ yes
    obtain ⟨rfl, lt⟩ := bools_at ey
    obtain ⟨q, eq, rfl, elk, eva, st⟩ := got _ _ _ ek
    have qin := List.mem_of_getElem? eq
    obtain ⟨p, m, rfl, _, _, op, om, pd, md⟩ := st_far od pr st
    have md := md ne
    have up : ∀ {H' : Hp}, Same H5 H' → ∀ b o, b ≠ d → H b = some o → H' b = some o := fun s b o nb e => s _ _ (s4 _ _ (by rw [upd_ne nb]; exact k03 _ _ e))
    have dg : ∀ {H' : Hp}, Same H5 H' → DGet H' d (.str q.1) (some (.ref p)) := fun s => .inl ⟨es, Sum.inr q.1, .inr ⟨oo, s _ _ (s4 _ _ upd_same)⟩, rfl, eva.symm⟩
    have opk : ∀ {H' : Hp}, Same H5 H' → SqA K H' p [.int q.2.1, .ref m] := fun s => op.kp fun o e => up s _ _ pd e
    refine ⟨rfl, ?_⟩
    refine ⟨_, rfl, _, rfl, d, _, rfl, dg (Same.refl _), p, _, _, rfl, opk (Same.refl _), fun H6 s6 => ⟨true, rfl, iteT ?_⟩⟩
    have dq := ok.d0 q qin
    refine ⟨_, rfl, _, rfl, d, _, rfl, dg s6, rIx_sq (opk s6) rfl ⟨q.2.1, rfl, dq.1, dq.2, true, rfl, iteT ?_⟩⟩
    refine ⟨_, rfl, _, rfl, d, _, rfl, dg s6, rIx_sq (opk s6) rfl ⟨_, rfl, m, L, q.2.2.l, rfl, up s6 _ _ md om, ok.mp q qin, by omega, fun H8 s8 => ⟨true, rfl, iteT ?_⟩⟩⟩
    have s58 := s6.trans s8
    have lz := len_cps L
    refine ⟨_, rfl, L, rfl, lc_gen (bools L.cps.toList.length) (by rw [bools_len]; omega) (fun i H' _ lt => ?_) (fun H' _ => ?_) ?_ ?_⟩
    · rw [bools_len, Array.length_toList] at lt; exact lt
    · rw [bools_len, Array.length_toList]; exact Nat.le_refl _
    · rintro i x b2 H9 H10 Cn2 Nn2 ey2 s9 ⟨rfl, c, ec, rfl⟩ yes2
      obtain ⟨rfl, lt2⟩ := bools_at ey2
      have cin : one1 c ∈ q.2.2.l.map (·.1) := (ok.mp q qin).mem_iff.mpr (List.mem_map_of_mem (List.mem_of_getElem? (by rw [Array.getElem?_toList]; exact ec)))
      obtain ⟨n2, en2, in2⟩ := lk_in cin
      obtain ⟨s2, es2, _⟩ := lk_in (ok.mv q qin _ in2)
      obtain ⟨v2, ev2, _⟩ := st_val pr es2
      have s510 := s58.trans s9
      refine ⟨rfl, ?_⟩
      refine ⟨_, rfl, _, rfl, _, rfl, d, _, rfl, dg s510, rIx_sq (opk s510) rfl ⟨_, rfl, m, V.str n2, rfl, .inl ⟨_, Sum.inr (one1 c), .inl (up s510 _ _ md om), rfl, (by rw [val_dkT, en2]; rfl)⟩, ?_⟩⟩
      exact ⟨d, es, n2, v2, rfl, .inr ⟨oo, s510 _ _ (s4 _ _ upd_same)⟩, ev2, yes2 _ (Same.refl _)⟩
    · intro H9 D9 nD9 oD9 s9
      rw [bools_map] at oD9
      refine ⟨D9, _, rfl, SqL.of oD9, ?_⟩
      rw [all_true]
      exact yes _ (s58.trans s9)
  intro H4 D nD oD s4
  obtain ⟨b1, s74⟩ := lock_offN od7 s4
  have Da : D ≠ d := fun z => by rw [z, upd_same] at nD; cases nD
  rw [bools_map] at oD
  refine ⟨b1, D, _, rfl, SqL.of (by rw [upd_ne Da]; exact oD), ?_⟩
  rw [all_true]
  exact hq _ (k03.trans s74)
end
end L2.TB
/-! _own -/
namespace L2.TB
open PySem PySem.Spec PyProof.Rows
theorem dkT_at {kvs : List (Key × V)} {l : List (Str × Str)} (ek : kvs.map (·.1) = (dkT l).map (·.1)) (h : ∀ (j : Nat) (k : Key) (y : V), kvs[j]? = some (k, y) → ∃ e, l[j]? = some e ∧ y = .str e.2) : kvs = dkT l := by
  refine List.ext_getElem? fun j => ?_
  have z := congrArg (fun l => l[j]?) ek
  simp only [List.getElem?_map] at z
  cases e : kvs[j]? with
  | none =>
    rw [e] at z
    cases e2 : (dkT l)[j]? with
    | none => rfl
    | some y => rw [e2] at z; cases z
  | some kv =>
    obtain ⟨k, y⟩ := kv
    obtain ⟨x, ex, ey⟩ := h j k y e
    have e2 : (dkT l)[j]? = some (Sum.inr x.1, .str x.2) := by
      unfold dkT
      rw [List.getElem?_map, ex]
      rfl
    rw [e, e2] at z
    have z : k = Sum.inr x.1 := Option.some.inj z
    rw [e2, z, ey]
theorem dkT_get {l : List (Str × Str)} {j : Nat} {e : Str × Str} (h : l[j]? = some e) : (dkT l)[j]? = some (Sum.inr e.1, .str e.2) := by
  unfold dkT
  rw [List.getElem?_map, h]
  rfl
theorem dkT_back {l : List (Str × Str)} {j : Nat} {k : Key} {y : V} (h : (dkT l)[j]? = some (k, y)) : ∃ e, l[j]? = some e ∧ k = Sum.inr e.1 ∧ y = .str e.2 := by
  unfold dkT at h
  rw [List.getElem?_map] at h
  obtain ⟨e, he, ee⟩ := Option.map_eq_some_iff.mp h
  have := Prod.mk.inj ee
  exact ⟨e, he, this.1.symm, this.2.symm⟩
theorem dc_madeD {J : It} {g : TG} {tt : TT} {tk tv : TE} {vs : List Nat} {σ : St} {H1 : Hp} {Q : Addr → Hp → Prop} (ks : List Key) (short : ks.length < 1000000) (unlike : ks.Nodup) (go : ∀ i H, Same H1 H → i < ks.length → J.go i H) (stop : ∀ H, Same H1 H → J.stop ks.length H)
    (R : Addr → Nat → V → Hp → Prop) (stays : ∀ D i y H H' l, R D i y H → H D = some (.dK l) → (∀ b o, b ≠ D → H b = some o → H' b = some o) → R D i y H')
    (turn : ∀ (D : Addr) (i : Nat) (x : V) (k : Key) (H H' : Hp) (C : V → V → Hp → Prop) (N : Hp → Prop), H1 D = none → (∃ acc, H D = some (.dK acc)) → ks[i]? = some k → Same H1 H → J.yld i H x H' → (∀ v H5, R D i v H5 → Same H H5 → C (kV k) v H5) →
      g x (wipe σ vs) H' fun σ2 H2 => wipe σ2 vs = wipe σ vs ∧ tt σ2 H2 fun b H3 => if b = true then tk σ2 H3 fun y H4 => tv σ2 H4 fun z H5 => C y z H5 else N H3)
    (fin : ∀ H D kvs, H1 D = none → H D = some (.dK kvs) → kvs.map (·.1) = ks → (∀ j k y, kvs[j]? = some (k, y) → R D j y H) → Same H1 H → Q D H) : DcW J g tt tk tv vs σ H1 Q := by
  intro D nD
  refine ⟨fun i m H => m = ks.length - i ∧ i ≤ ks.length ∧ (∃ acc : List (Key × V), H D = some (.dK acc) ∧ acc.map (·.1) = ks.take i ∧ ∀ j k y, acc[j]? = some (k, y) → R D j y H) ∧ Same H1 H,
    ⟨_, rfl, Nat.zero_le _, ⟨[], upd_same, by simp, fun j k y e => by simp at e⟩, same_new nD⟩, ?_⟩
  rintro i m H ⟨rfl, le, ⟨acc, oD, ea, hR⟩, s1⟩
  have la : acc.length = i := by
    have z := congrArg List.length ea
    rw [List.length_map, List.length_take] at z
    omega
  by_cases lt : i < ks.length
  · refine .inr ⟨go i H s1 lt, fun H' => (∃ acc : List (Key × V), H' D = some (.dK acc) ∧ acc.map (·.1) = ks.take (i + 1) ∧ ∀ j k y, acc[j]? = some (k, y) → R D j y H') ∧ Same H1 H', fun H' h => ⟨ks.length - (i + 1), by omega, rfl, lt, h⟩, fun x H' yl => ?_⟩
    have ek : ks[i]? = some ks[i] := List.getElem?_eq_getElem lt
    have et : ks.take (i + 1) = ks.take i ++ [ks[i]] := by rw [List.take_succ, ek]; rfl
    have sp : (ks.take (i + 1)).Nodup := unlike.sublist (List.take_sublist _ _)
    rw [et, List.nodup_append] at sp
    have out : ks[i] ∉ acc.map (·.1) := fun z => sp.2.2 _ (by rw [← ea]; exact z) _ (by simp) rfl
    refine turn D i x ks[i] H H' _ _ nD ⟨acc, oD⟩ ek s1 yl fun v H5 hv s5 => ⟨acc, ks[i], rfl, s5 _ _ oD, by rw [sizeLine_eq]; omega, ⟨acc ++ [(ks[i], v)], ?_, ?_, ?_⟩, ?_⟩
    · rw [upd_same, put_last out]
    · rw [map_snocN, ea, et]
    · have keep : ∀ b o, b ≠ D → H5 b = some o → upd H5 D (.dK (putK acc ks[i] v)) b = some o := fun b o nb e => by rw [upd_ne nb]; exact e
      intro j k y e
      by_cases hj : j < acc.length
      · rw [List.getElem?_append_left hj] at e
        have a1 : R D j y H5 := stays D j y H H5 acc (hR j k y e) oD fun b o _ e => s5 _ _ e
        exact stays D j y H5 _ acc a1 (s5 _ _ oD) keep
      · rw [List.getElem?_append_right (by omega)] at e
        have : j - acc.length = 0 := by
          rcases Nat.eq_zero_or_pos (j - acc.length) with z | z
          · exact z
          · rw [List.getElem?_eq_none (by simp; omega)] at e; cases e
        rw [this] at e
        cases e
        have : j = i := by omega
        rw [this]
        exact stays D i v H5 _ acc hv (s5 _ _ oD) keep
    · intro b u e
      rw [upd_ne (ne_of_none e nD)]
      exact s5 _ _ (s1 _ _ e)
  · obtain rfl : i = ks.length := by omega
    rw [List.take_length] at ea
    exact .inl ⟨stop H s1, fin H D acc nD oD ea hR s1⟩
/-- what is asked of a reader that is copied -/
structure RdS (r : RdT) : Prop where
  n0 : 0 < r.2.l.length
  n6 : r.2.l.length < 1000
  nd : (r.2.l.map (·.1)).Nodup
  mn : ∀ s ∈ r.2.l, (s.2.2.l.map (·.1)).Nodup ∧ s.2.2.l.length < 1000
theorem RdOk.s {L : Str} {r : RdT} (lok : LetOk L) (h : RdOk L r) : RdS r :=
  ⟨h.n0, by have := h.n6; omega, h.nd, fun s hs => ⟨(h.mp s hs).nodup_iff.mpr lok.lnd, by
    have z := (h.mp s hs).length_eq
    rw [List.length_map] at z
    have := lok.ll
    omega⟩⟩
def spOwn (K : PySem.W.Frag) : Sp := fun vs H Q _ => ∃ (v : V) (r : RdT), vs = [v] ∧ RdG K (fun _ => True) H v r ∧ RdS r ∧ ∀ H' x, PyD.at_ (fun b => H b = none) H' x r → Same H H' → Q x H'
abbrev NOw : List Str := ["reader", "begin", "states", "state", "letter"]
theorem scOwnD : FnScope NOw ["reader"] (defScope sOwn) := ⟨rfl, rfl, rfl, by decide +kernel, rfl, by decide +kernel, by decide +kernel⟩
abbrev scOw : Scope := { kind := ScopeKind.function, names := [(Str.ofString ".0", NameKind.local), (Str.ofString "state", NameKind.cell), (Str.ofString "states", NameKind.cell)], isGenerator := false, isCoroutine := false }
abbrev tStO (K : PySem.W.Frag) (i : Int) : TE := tOp (rIx K) (tDGet (tVar 2) (tVar 3)) (tC (.int i))
abbrev tvOw (K : PySem.W.Frag) : TE := tTup (tCons (tStO K 0) (tCons (tLockE (tDc (iKeys (tStO K 1)) (gName 4) tYes (tVar 4) (tDGet (tStO K 1) (tVar 4)) [4])) tNil))
section
variable {P : Program} {w : World} {K : PySem.W.Frag} {mg : Str → Option Value} {base : Heap} {f : Addr} {fd : FuncData}
theorem ok_own (F : Fun K "_own" "_own" sOwn f fd) : FnOk P w K mg base CX0 1 f fd ["reader"] (spOwn K) := by
  refine F.ok scOwnD (fun vs H Q E h => by obtain ⟨v, r, e, _⟩ := h; rw [e]; rfl) fun cdv A outer s H vs Q E hr hsp => ?_
  obtain ⟨v, r, rfl, rg, ok, hq⟩ := hsp
  obtain ⟨a, d, es, rfl, _, _, oa, od, pr⟩ := rg
  have nd := scOwnD.nd
  have hu := hu_of hr
  refine ⟨_, pss_cons (ps_asg (pv 0) (pg_either (pg_tup (n := 2) rfl (pgs_cons (pg_name (i := 1) nd rfl (Or.inl rfl)) (pgs_cons (pg_name (i := 2) nd rfl (Or.inr rfl)) pgs_nil))) (pg_unl (n := 2) rfl (pgs_cons (pg_name (i := 1) nd rfl (Or.inl rfl)) (pgs_cons (pg_name (i := 2) nd rfl (Or.inr rfl)) pgs_nil)))))
    (pss_one (ps_ret (pe_tup (pa_cons (pv 1) (pa_cons (pe_lock (pe_dc (own := [("state", 3)]) (tt := tYes) (g := gName 3) (tk := tVar 3) (tv := tvOw K) rfl nd (pi_keys (pv 2)) (blkOk_by (N := NOw) (sc := defScope sOwn) (by decide +kernel)) (fun _ _ _ _ _ => pg_name (i := 3) nd rfl (Or.inr rfl)) (fun _ _ _ _ _ => pts_nil) (fun _ _ _ _ _ => pv 3)
      (fun _ _ _ _ _ => pe_tup (pa_cons (pe_ix (r := rIx K) ix_seq (pe_dget hu (pv 2) (pv 3) (fun _ _ => rfl)) pe_int (fun _ _ => rfl)) (pa_cons (pe_lock (pe_dc (own := [("letter", 4)]) (tt := tYes) (g := gName 4) (tk := tVar 4) (tv := tDGet (tStO K 1) (tVar 4)) (wi := iKeys (tStO K 1)) rfl nd (pi_keys (pe_ix (r := rIx K) ix_seq (pe_dget hu (pv 2) (pv 3) (fun _ _ => rfl)) pe_int (fun _ _ => rfl))) (blkOk_by (N := NOw) (sc := scOw) (by decide +kernel)) (fun _ _ _ _ _ => pg_name (i := 4) nd rfl (Or.inl rfl)) (fun _ _ _ _ _ => pts_nil) (fun _ _ _ _ _ => pv 4)
        (fun _ _ _ _ _ => pe_dget hu (pe_ix (r := rIx K) ix_seq (pe_dget hu (pv 2) (pv 3) (fun _ _ => rfl)) pe_int (fun _ _ => rfl)) (pv 4) (fun _ _ => rfl)))) pa_nil))))) pa_nil))))), ?_⟩
  have les : es.length = r.2.l.length := Paired.length pr
  have kes := st_keys pr
  have ndes : (es.map (·.1)).Nodup := by rw [kes]; exact nd_inr ok.nd
  have n0 := ok.n0
  have n6 := ok.n6
  have ne : r.2.l ≠ [] := fun z => by rw [z] at n0; exact absurd n0 (by decide)
  refine ⟨_, rfl, gSq_of oa rfl ⟨_, _, rfl, _, _, rfl, rfl, ?_⟩⟩
  have got : ∀ (i : Nat) (k : Key) (x : V), es[i]? = some (k, x) → ∃ q, r.2.l[i]? = some q ∧ k = Sum.inr q.1 ∧ valV es (Sum.inr q.1) = some x ∧ StG K (fun _ => True) H (Sum.inr q.1, x) (q.1, q.2) := fun i k x e => by
    obtain ⟨q, eq, h1⟩ := paired_get pr e
    have hk : k = Sum.inr q.1 := h1.1
    subst hk
    exact ⟨q, eq, rfl, valV_atN ndes e, h1⟩
  refine ⟨_, rfl, d, _, od, trivial, fun oo => ⟨_, rfl, d, oo, rfl, .inl ⟨es, upd_same, ?_⟩⟩⟩
  have oL : upd H d (.frz oo (.dK es)) d = some (.frz oo (.dK es)) := upd_same
  refine dc_madeD (es.map (·.1)) (by rw [List.length_map]; omega) ndes (fun i H' s lt => ⟨s _ _ oL, by rw [List.length_map] at lt; exact lt⟩) (fun H' s => ⟨s _ _ oL, by rw [List.length_map]; exact Nat.le_refl _⟩)
    (fun D i y H' => ∃ q p m, r.2.l[i]? = some q ∧ y = V.ref p ∧ H p = none ∧ H m = none ∧ H' p = some (.tup [.int q.2.1, .ref m]) ∧ H' m = some (.dK (dkT q.2.2.l)) ∧ m ≠ D) ?_ ?_ ?_
  · rintro D i y H6 H7 l ⟨q, p, m, e1, rfl, n1, n2, e2, e3, md⟩ oD keep
    exact ⟨q, p, m, e1, rfl, n1, n2, keep _ _ (fun z => by rw [z, oD] at e2; cases e2) e2, keep _ _ md e3, md⟩
  · rintro D i y k H6 H7 Cn Nn nD ⟨acc, oD⟩ ek s6 ⟨rfl, k2, v0, ek2, rfl⟩ yes
    rw [List.getElem?_map, ek2] at ek
    obtain rfl : k2 = k := Option.some.inj ek
    obtain ⟨q, eq, rfl, eva, st⟩ := got i _ _ ek2
    have qin := List.mem_of_getElem? eq
    obtain ⟨p, m, rfl, _, _, op, om, pd, md⟩ := st_far od pr st
    have md := md ne
    obtain ⟨mnd, msh⟩ := ok.mn q qin
    have pm : p ≠ m := fun z => by
      rw [z] at op
      rcases op with h | h
      · rw [om] at h; cases h
      · rw [om] at h; cases h
    have up : ∀ b o, b ≠ d → H b = some o → H7 b = some o := fun b o nb e => s6 _ _ (by rw [upd_ne nb]; exact e)
    have oL7 := s6 _ _ oL
    have op7 := op.kp fun o e => up _ _ pd e
    have om7 := up _ _ md om
    refine ⟨rfl, ?_⟩
    refine ⟨_, rfl, _, rfl, _, rfl, d, _, rfl, .inl ⟨es, Sum.inr q.1, .inr ⟨oo, oL7⟩, rfl, eva.symm⟩, rIx_sq op7 rfl ?_⟩
    refine ⟨m, _, om7, trivial, fun o2 => ?_⟩
    have oL8 : upd H7 m (.frz o2 (.dK (dkT q.2.2.l))) d = some (.frz oo (.dK es)) := by rw [upd_ne (Ne.symm md)]; exact oL7
    have op8 : SqA K (upd H7 m (.frz o2 (.dK (dkT q.2.2.l)))) p [.int q.2.1, .ref m] := op7.kp fun o e => by rw [upd_ne pm]; exact e
    have om8 : upd H7 m (.frz o2 (.dK (dkT q.2.2.l))) m = some (.frz o2 (.dK (dkT q.2.2.l))) := upd_same
    have dg : ∀ {H' : Hp}, Same (upd H7 m (.frz o2 (.dK (dkT q.2.2.l)))) H' → DGet H' d (.str q.1) (some (.ref p)) := fun s => .inl ⟨es, Sum.inr q.1, .inr ⟨oo, s _ _ oL8⟩, rfl, eva.symm⟩
    refine ⟨_, rfl, _, rfl, d, _, rfl, dg (Same.refl _), rIx_sq op8 rfl ⟨m, o2, rfl, .inl ⟨_, om8, ?_⟩⟩⟩
    have ndm : ((dkT q.2.2.l).map (·.1)).Nodup := by rw [dkT_keys]; exact nd_inr mnd
    refine dc_madeN ((dkT q.2.2.l).map (·.1)) (by rw [List.length_map, dkT_len]; omega) ndm (fun i H' s lt => ⟨s _ _ om8, by rw [List.length_map] at lt; exact lt⟩) (fun H' s => ⟨s _ _ om8, by rw [List.length_map]; exact Nat.le_refl _⟩)
      (fun i y _ => ∃ e, q.2.2.l[i]? = some e ∧ y = .str e.2) (fun i y H H' D l h _ _ => h) ?_ ?_
    · rintro j y2 k3 H9 H10 Cn2 Nn2 ek3 s9 ⟨rfl, k4, v4, ek4, rfl⟩ yes2
      rw [List.getElem?_map, ek4] at ek3
      obtain rfl : k4 = k3 := Option.some.inj ek3
      obtain ⟨e, ee, rfl, rfl⟩ := dkT_back ek4
      refine ⟨rfl, ?_⟩
      refine ⟨_, rfl, _, rfl, _, rfl, d, _, rfl, dg s9, rIx_sq (op8.same s9) rfl ⟨_, rfl, m, V.str e.2, rfl, .inl ⟨_, Sum.inr e.1, .inr ⟨o2, s9 _ _ om8⟩, rfl, (valV_atN ndm (dkT_get ee)).symm⟩, ?_⟩⟩
      exact yes2 _ _ ⟨e, ee, rfl⟩ (Same.refl _)
    · intro H9 D9 kvs9 nD9 oD9 ek9 hR9 s9
      have e9 := dkT_at ek9 hR9
      subst e9
      obtain ⟨b1, s79⟩ := lock_offN om7 s9
      have Dm : D9 ≠ m := fun z => by rw [z, om8] at nD9; cases nD9
      have oD9' : upd H9 m (.dK (dkT q.2.2.l)) D9 = some (.dK (dkT q.2.2.l)) := by rw [upd_ne Dm]; exact oD9
      refine ⟨b1, ⟨(by show 2 ≤ sizeLine; decide), fun T nT => ?_⟩⟩
      have kT := same_new (o := .tup [.int q.2.1, .ref D9]) nT
      have low : ∀ b, H7 b = none → H b = none := fun b n => by
        cases e : H b with
        | none => rfl
        | some o =>
          by_cases bd : b = d
          · rw [bd, oL7] at n; cases n
          · rw [up b o bd e] at n; cases n
      have n9 : H7 D9 = none := by rw [upd_ne Dm] at nD9; exact nD9
      have nT7 : H7 T = none := s79.free nT
      refine yes _ _ ⟨q, T, D9, eq, rfl, low T nT7, low D9 n9, upd_same, kT _ _ oD9', fun z => ?_⟩ (s79.trans kT)
      rw [z, oD] at n9
      cases n9
  · intro H6 D kvs2 nD oD ek2 hR s6
    obtain ⟨b1, s06⟩ := lock_offN od s6
    have Dd : D ≠ d := fun z => by rw [z, upd_same] at nD; cases nD
    have nD0 : H D = none := by rw [upd_ne Dd] at nD; exact nD
    have oD7 : upd H6 d (.dK es) D = some (.dK kvs2) := by rw [upd_ne Dd]; exact oD
    refine ⟨b1, ⟨(by show 2 ≤ sizeLine; decide), fun T nT => ?_⟩⟩
    have kT := same_new (o := .tup [.str r.1, .ref D]) nT
    have upl : ∀ {b : Addr} {o : HO}, H6 b = some o → (∀ a f, o ≠ .frz a f) → upd (upd H6 d (.dK es)) T (.tup [.str r.1, .ref D]) b = some o := fun h n => kT _ _ (by
      rw [upd_ne (fun z => by rw [z, b1] at h; exact n _ _ (Option.some.inj h).symm)]
      exact h)
    refine hq _ _ ⟨T, _, _, rfl, s06.free nT, upd_same, rfl, D, kvs2, rfl, nD0, kT _ _ oD7, ok.nd, ?_⟩ (s06.trans kT)
    refine paired_of _ _ (by have z := congrArg List.length ek2; rw [List.length_map, List.length_map] at z; omega) fun j e q e1 e2 => ?_
    obtain ⟨q', p, m, e3, e4, n1, n2, e5, e6, _⟩ := hR j e.1 e.2 e1
    rw [e2] at e3
    obtain rfl := Option.some.inj e3
    have ekj : e.1 = Sum.inr q.1 := by
      have z := congrArg (fun l => l[j]?) (ek2.trans kes)
      simp only [List.getElem?_map, e1, e2, Option.map_some] at z
      exact Option.some.inj z
    exact ⟨ekj, p, _, _, e4, n1, upl e5 (fun _ _ z => by cases z), rfl, m, _, rfl, n2, upl e6 (fun _ _ z => by cases z), (ok.mn q (List.mem_of_getElem? e2)).1, txt_dk _⟩
end
end L2.TB
/-! Machines: what it holds, __init__ -/
namespace L2.TB
open PySem PySem.Spec PyProof.Rows
structure MaC (K : PySem.W.Frag) (C : Addr) : Prop where
  cl : Cls K C
  nL : NoAttr K C "_letters"
  nR : NoAttr K C "_readers"
abbrev RsT : Type := List (Str × RdT)
abbrev maF (L : Str) (D : Addr) : List (Str × V) := [("_letters", .str L), ("_readers", .ref D)]
structure MachA (A : Addr → Prop) (H : Hp) (C x : Addr) (L : Str) (rs : RsT) : Prop where
  ex : ∃ dx D, H x = some (.ins C dx (maF L D)) ∧ PyD.at_ A H (.ref D) (Dc.mk rs)
theorem MachA.keep {A A' : Addr → Prop} {H H' : Hp} {C x : Addr} {L : Str} {rs : RsT} (h : MachA A H C x L rs) (hx : ∀ o, H x = some o → H' x = some o) (k : ∀ b o, A b → H b = some o → A' b ∧ H' b = some o) : MachA A' H' C x L rs := by
  obtain ⟨dx, D, h1, h2⟩ := h.ex
  exact ⟨dx, D, hx _ h1, PyD.kp h2 k⟩
theorem MachA.same {A : Addr → Prop} {H H' : Hp} {C x : Addr} {L : Str} {rs : RsT} (h : MachA A H C x L rs) (s : Same H H') : MachA A H' C x L rs := h.keep (fun o e => s _ _ e) fun b o a e => ⟨a, s _ _ e⟩
/-- a reader as it is handed -/
def HandR (K : PySem.W.Frag) (A : Addr → Prop) (H : Hp) (e : Key × V) (q : Str × RdT) : Prop := e.1 = Sum.inr q.1 ∧ RdG K A H e.2 q.2
theorem HandR.keep {K : PySem.W.Frag} {A A' : Addr → Prop} {H H' : Hp} {e : Key × V} {q : Str × RdT} (h : HandR K A H e q) (k : ∀ b o, A b → H b = some o → A' b ∧ H' b = some o) : HandR K A' H' e q := ⟨h.1, h.2.keep k⟩
theorem hr_keys {K : PySem.W.Frag} {A : Addr → Prop} {H : Hp} {es : List (Key × V)} {rs : RsT} (h : Paired (HandR K A H) es rs) : es.map (·.1) = (rs.map (·.1)).map Sum.inr := by
  induction h with
  | nil => rfl
  | cons h _ ih => rw [List.map_cons, List.map_cons, List.map_cons, ih, h.1]
theorem not_dk {K : PySem.W.Frag} {H : Hp} {a g : Addr} {xs : List V} {es : List (Key × V)} (h : SqA K H a xs) (og : H g = some (.dK es)) : a ≠ g := fun z => by
  rw [z] at h
  rcases h with h | h
  · rw [og] at h; cases h
  · rw [og] at h; cases h
/-- none of a reader's parts is the dict of the readers -/
theorem rd_far {K : PySem.W.Frag} {A B : Addr → Prop} {H : Hp} {g : Addr} {es : List (Key × V)} {rs : RsT} {v : V} {r : RdT} (og : H g = some (.dK es)) (h : Paired (HandR K B H) es rs) (ne : rs ≠ []) (rg : RdG K A H v r) : RdG K (fun b => A b ∧ b ≠ g) H v r := by
  obtain ⟨a, d, fs, h1, a1, a2, oa, od, pr⟩ := rg
  obtain ⟨e0, q0, es', rs', ee, er, h0⟩ : ∃ e0 q0 es' rs', es = e0 :: es' ∧ rs = q0 :: rs' ∧ HandR K B H e0 q0 := by
    cases h with
    | nil => exact absurd rfl ne
    | cons h _ => exact ⟨_, _, _, _, rfl, rfl, h⟩
  obtain ⟨_, a0, d0, fs0, v0, _, _, oa0, od0, _⟩ := h0
  have dg : d ≠ g := fun z => by
    rw [z, og] at od
    have e := HO.dK.inj (Option.some.inj od)
    rw [ee] at e
    generalize r.2.l = l0 at pr
    cases pr with
    | nil => cases e
    | @cons x q xs l hx _ =>
      obtain ⟨_, p, m, v1, _, _, op, om⟩ := hx
      have e1 := (List.cons.inj e).1
      rw [← e1, v0] at v1
      obtain rfl := V.ref.inj v1
      rcases oa0 with h | h
      · rcases op with h' | h'
        · rw [h] at h'
          have := (List.cons.inj (HO.lst.inj (Option.some.inj h'))).1
          cases this
        · rw [h] at h'; cases h'
      · rcases op with h' | h'
        · rw [h] at h'; cases h'
        · rw [h] at h'
          have := (List.cons.inj (HO.tup.inj (Option.some.inj h'))).1
          cases this
  refine ⟨a, d, fs, h1, ⟨a1, not_dk oa og⟩, ⟨a2, dg⟩, oa, od, Paired.mapP pr fun e q hx => ?_⟩
  obtain ⟨g1, p, m, v1, b1, b2, op, om⟩ := hx
  refine ⟨g1, p, m, v1, ⟨b1, not_dk op og⟩, ⟨b2, fun z => ?_⟩, op, om⟩
  rw [z, og, ee] at om
  have e := HO.dK.inj (Option.some.inj om)
  cases c : q.2.2.l with
  | nil => rw [c] at e; cases e
  | cons y ys =>
    rw [c] at e
    have e3 := (List.cons.inj e).1
    rw [e3] at v0
    cases v0
structure RsOk (L : Str) (rs : RsT) : Prop where
  n0 : 0 < rs.length
  n1 : rs.length < 1000
  nd : (rs.map (·.1)).Nodup
  nm : ∀ q ∈ rs, NmOk q.1
  rd : ∀ q ∈ rs, RdOk L q.2
def spMInit (K : PySem.W.Frag) (C : Addr) : Sp := fun vs H Q _ => ∃ (x dx g : Addr) (L : Str) (rs : RsT) (es : List (Key × V)), vs = [.ref x, .str L, .ref g] ∧ H x = some (.ins C dx []) ∧ LetOk L ∧ H g = some (.dK es) ∧ Paired (HandR K (fun _ => True) H) es rs ∧ RsOk L rs ∧
  ∀ H', MachA (fun b => H b = none) H' C x L rs → (∀ b o, b ≠ x → H b = some o → H' b = some o) → Q .non H'
abbrev NMi : List Str := ["self", "letters", "readers", "name"]
theorem scMInit : FnScope NMi ["self", "letters", "readers"] (defScope sInit) := ⟨rfl, rfl, rfl, by decide +kernel, rfl, by decide +kernel, by decide +kernel⟩
section
variable {P : Program} {w : World} {K : PySem.W.Frag} {mg : Str → Option Value} {base : Heap} {f C fL fN fR fO : Addr} {fd fdL fdN fdR fdO : FuncData}
theorem ok_mInit (F : Fun K "__init__" "Machines.__init__" sInit f fd) (S : MaC K C) (FL : Fun K "check_letters" "check_letters" sCkLet fL fdL) (gL : mg "check_letters" = some (.ref fL)) (GL : FnOk P w K mg base CX0 4 fL fdL ["letters"] spCkLet)
    (FN : Fun K "is_name" "is_name" sIsName fN fdN) (gN : mg "is_name" = some (.ref fN)) (GN : FnOk P w K mg base CX0 1 fN fdN ["thing"] spIsName) (FR : Fun K "_is_reader" "_is_reader" sIsReader fR fdR) (gR : mg "_is_reader" = some (.ref fR)) (GR : FnOk P w K mg base CX0 4 fR fdR ["letters", "thing"] (spIsRd K))
    (FO : Fun K "_own" "_own" sOwn fO fdO) (gO : mg "_own" = some (.ref fO)) (nI : mg "isinstance" = none) (nD : mg "dict" = none) (nN : mg "len" = none) : FnOk P w K mg base CX0 5 f fd ["self", "letters", "readers"] (spMInit K C) := by
  have GO : FnOk P w K mg base CX0 1 fO fdO ["reader"] (spOwn K) := ok_own FO
  have bO := FO.binds (ps := ["reader"]) fun _ _ _ _ _ _ us hl => match us, hl with | [_], _ => rfl
  have bL := FL.binds (ps := ["letters"]) fun _ _ _ _ _ _ us hl => match us, hl with | [_], _ => rfl
  have bN := FN.binds (ps := ["thing"]) fun _ _ _ _ _ _ us hl => match us, hl with | [_], _ => rfl
  have bR := FR.binds (ps := ["letters", "thing"]) fun _ _ _ _ _ _ us hl => match us, hl with | [_, _], _ => rfl
  refine F.ok scMInit (fun vs H Q E h => by obtain ⟨x, dx, g, L, rs, es, e, _⟩ := h; rw [e]; rfl) fun cdv A outer s H vs Q E hr hsp => ?_
  obtain ⟨x, dx, g, L, rs, es, rfl, hx, lok, hg, hp, ok, hq⟩ := hsp
  have nd := scMInit.nd
  have hu := hu_of (hr.mono (show 1 ≤ 4 by decide))
  refine ⟨_, pss_cons (ps_expr (pe_call GL hr rfl gL FL.kp bL .nil pass0 (pa_cons (pv 1) pa_nil)))
    (pss_cons (ps_if (PW.pt (pw_or (pt_not (pt_val (pe_callB (r := rIsi K) call_isi rfl nI boot_isi (pa_cons (pv 2) (pa_cons (pe_bltn (v := .ty "dict") rfl nD boot_dict' rfl) pa_nil))))) (pw_or1 (pt_cmpR op_eq (pe_callB call_lenD rfl nN boot_len (pa_cons (pv 2) pa_nil)) pe_int (nomark _))))) (pss_one ps_never) pss_nil)
    (pss_cons (ps_lock (ps_for PassesOwn.never rfl (pi_keys (pv 2)) (pg_name (i := 3) nd rfl (Or.inl rfl))
      (pss_one (ps_if (PW.pt (pw_or (pt_not (pt_val (pe_call GN (hr.mono (by decide)) rfl gN FN.kp bN .nil pass0 (pa_cons (pv 3) pa_nil)))) (pw_or1 (pt_not (pt_val (pe_call GR hr rfl gR FR.kp bR .nil pass0 (pa_cons (pv 1) (pa_cons (pe_dget hu (pv 2) (pv 3) (fun _ _ => rfl)) pa_nil)))))))) (pss_one ps_never) pss_nil))))
    (pss_cons (ps_fld (pv 0) (pv 1) rfl)
    (pss_one (ps_fld (pv 0) (pe_lock (pe_dc (own := [("name", 3)]) (tt := tYes) (g := gName 3) (tk := tVar 3) (tv := tCall (spOwn K) [] E0 (tCons (tDGet (tVar 2) (tVar 3)) tNil)) rfl nd (pi_keys (pv 2)) (blkOk_by (N := NMi) (sc := defScope sInit) (by decide +kernel))
      (fun _ _ _ _ _ => pg_name (i := 3) nd rfl (Or.inl rfl)) (fun _ _ _ _ _ => pts_nil) (fun _ _ _ _ _ => pv 3)
      (fun _ _ _ _ _ => pe_call GO (hr.mono (by decide)) rfl gO FO.kp bO .nil pass0 (pa_cons (pe_dget hu (pv 2) (pv 3) (fun _ _ => rfl)) pa_nil)))) rfl))))), ?_⟩
  have les : es.length = rs.length := Paired.length hp
  have kes := hr_keys hp
  have ndes : (es.map (·.1)).Nodup := by rw [kes]; exact nd_inr ok.nd
  have n0 := ok.n0
  have n1 := ok.n1
  have ne : rs ≠ [] := fun z => by rw [z] at n0; exact absurd n0 (by decide)
  have got : ∀ (i : Nat) (k : Key) (v : V), es[i]? = some (k, v) → ∃ q, rs[i]? = some q ∧ k = Sum.inr q.1 ∧ valV es (Sum.inr q.1) = some v ∧ RdG K (fun b => True ∧ b ≠ g) H v q.2 := fun i k v e => by
    obtain ⟨q, eq, h1⟩ := paired_get hp e
    have hk : k = Sum.inr q.1 := h1.1
    subst hk
    exact ⟨q, eq, rfl, valV_atN ndes e, rd_far hg hp ne h1.2⟩
  refine ⟨_, rfl, L, rfl, lok, fun H1 k1 => ?_⟩
  have hg1 := k1 _ _ hg
  refine ⟨_, rfl, _, _, _, _, true, rfl, .ty _, .base (.dK hg1), kit_ty (by decide +kernel), _, rfl, iteF ?_⟩
  refine ⟨_, rfl, g, es, rfl, hg1, rfl, false, congrArg V.bl (decide_eq_false fun z => by have z := V.int.inj z; omega), iteF ?_⟩
  refine ⟨g, _, hg1, trivial, fun od => ⟨_, rfl, g, od, rfl, .inl ⟨es, upd_same, for_it walk_keys (fun i σ H' => Same (upd H1 g (.frz od (.dK es))) H' ∧ ∃ s3, σ = [some (.ref x), some (.str L), some (.ref g), s3]) ⟨Same.refl _, _, rfl⟩ (fun i σ H' _ h => h.1 _ _ upd_same) ?_ ?_⟩⟩⟩
  · rintro i y σ H2 H3 lt ⟨k2, s3, rfl⟩ ⟨rfl, k0, v0, ekv, rfl⟩
    obtain ⟨q, eq, rfl, ev, rg⟩ := got i _ _ ekv
    have up : ∀ {H' : Hp}, Same H3 H' → ∀ b o, b ≠ g → H b = some o → H' b = some o := fun s b o nb e => s _ _ (k2 _ _ (by rw [upd_ne nb]; exact k1 _ _ e))
    have qin := List.mem_of_getElem? eq
    refine ⟨_, rfl, q.1, rfl, ok.nm q qin, fun H4 k4 => ⟨_, rfl, iteF ?_⟩⟩
    refine ⟨_, rfl, _, rfl, _, rfl, g, _, rfl, .inl ⟨es, Sum.inr q.1, .inr ⟨od, k4 _ _ (k2 _ _ upd_same)⟩, rfl, ev.symm⟩, ?_⟩
    exact ⟨L, v0, q.2, rfl, lok, rg.keep fun b o a e => ⟨trivial, up k4 b o a.2 e⟩, ok.rd q qin, fun H5 k5 => ⟨_, rfl, iteF ⟨(k2.trans k4).trans k5, _, rfl⟩⟩⟩
  rintro σ H2 ⟨k2, s3, rfl⟩
  obtain ⟨e2, k12⟩ := lock_offN hg1 k2
  refine ⟨e2, ?_⟩
  have k02 := k1.trans k12
  generalize upd H2 g (.dK es) = H4 at k02 k12
  have hx4 := k02 _ _ hx
  refine ⟨_, rfl, _, rfl, x, C, dx, _, rfl, hx4, S.cl, S.nL, by decide, ?_⟩
  have hx5 : upd H4 x (.ins C dx (putF "_letters" (.str L) [])) x = some (.ins C dx (putF "_letters" (.str L) [])) := upd_same
  have up5 : ∀ b o, b ≠ x → H4 b = some o → upd H4 x (.ins C dx (putF "_letters" (.str L) [])) b = some o := fun b o nb e => by rw [upd_ne nb]; exact e
  generalize upd H4 x (.ins C dx (putF "_letters" (.str L) [])) = H5 at hx5 up5
  have up05 : ∀ b o, b ≠ x → H b = some o → H5 b = some o := fun b o nb e => up5 b o nb (k02 _ _ e)
  have gx : g ≠ x := fun z => by rw [z, hx] at hg; cases hg
  have hg5 := up05 _ _ gx hg
  refine ⟨g, _, hg5, trivial, fun od2 => ⟨_, rfl, g, od2, rfl, .inl ⟨es, upd_same, ?_⟩⟩⟩
  have oL : upd H5 g (.frz od2 (.dK es)) g = some (.frz od2 (.dK es)) := upd_same
  have xL : upd H5 g (.frz od2 (.dK es)) x = some (.ins C dx (putF "_letters" (.str L) [])) := by rw [upd_ne (Ne.symm gx)]; exact hx5
  have partx : ∀ {b : Addr} {o : HO}, H b = some o → (∀ d f, o ≠ .ins C d f) → b ≠ x := fun h n z => by
    rw [z, hx] at h
    exact n _ _ (Option.some.inj h).symm
  have low0 : ∀ {H' : Hp} b, Same (upd H5 g (.frz od2 (.dK es))) H' → H' b = none → H b = none := fun b s n => by
    cases e : H b with
    | none => rfl
    | some o =>
      by_cases bx : b = x
      · rw [bx, s _ _ xL] at n; cases n
      · by_cases bg : b = g
        · rw [bg, s _ _ oL] at n; cases n
        · rw [s _ _ (by rw [upd_ne bg]; exact up05 b o bx e)] at n; cases n
  refine dc_madeD (es.map (·.1)) (by rw [List.length_map]; omega) ndes (fun i H' s lt => ⟨s _ _ oL, by rw [List.length_map] at lt; exact lt⟩) (fun H' s => ⟨s _ _ oL, by rw [List.length_map]; exact Nat.le_refl _⟩)
    (fun D i y H' => ∃ q, rs[i]? = some q ∧ PyD.at_ (fun b => (H b = none ∧ b ≠ x ∧ b ≠ g) ∧ b ≠ D) H' y q.2) ?_ ?_ ?_
  · rintro D i y H6 H7 l ⟨q, e1, h⟩ oD keep
    exact ⟨q, e1, PyD.kp h fun b o a e => ⟨a, keep b o a.2 e⟩⟩
  · rintro D i y k H6 H7 Cn Nn nD ⟨acc, oD⟩ ek s6 ⟨rfl, k2, v0, ek2, rfl⟩ yes
    rw [List.getElem?_map, ek2] at ek
    obtain rfl : k2 = k := Option.some.inj ek
    obtain ⟨q, eq, rfl, ev, rg⟩ := got i _ _ ek2
    have qin := List.mem_of_getElem? eq
    refine ⟨rfl, ?_⟩
    refine ⟨_, rfl, _, rfl, _, rfl, g, _, rfl, .inl ⟨es, Sum.inr q.1, .inr ⟨od2, s6 _ _ oL⟩, rfl, ev.symm⟩, ?_⟩
    have rg7 : RdG K (fun _ => True) H7 v0 q.2 := by
      have rgx : RdG K (fun b => b ≠ g ∧ b ≠ x) H v0 q.2 := by
        obtain ⟨a, d, fs, z1, a1, a2, oa, od, pr⟩ := rg
        have nx : ∀ {b : Addr} {xs : List V}, SqA K H b xs → b ≠ x := fun h => h.elim (fun h => partx h (fun _ _ z => by cases z)) (fun h => partx h (fun _ _ z => by cases z))
        refine ⟨a, d, fs, z1, ⟨a1.2, nx oa⟩, ⟨a2.2, partx od (fun _ _ z => by cases z)⟩, oa, od, Paired.mapP pr fun e q h => ?_⟩
        obtain ⟨g1, p, m, g2, b1, b2, op, om⟩ := h
        exact ⟨g1, p, m, g2, ⟨b1.2, nx op⟩, ⟨b2.2, partx om (fun _ _ z => by cases z)⟩, op, om⟩
      exact rgx.keep fun b o a e => ⟨trivial, s6 _ _ (by rw [upd_ne a.1]; exact up05 b o a.2 e)⟩
    refine ⟨v0, q.2, rfl, rg7, (ok.rd q qin).s lok, fun H8 y at8 s8 => ?_⟩
    refine yes y H8 ⟨q, eq, PyD.kp at8 fun b o a e => ⟨⟨⟨low0 b s6 a, fun z => ?_, fun z => ?_⟩, fun z => ?_⟩, e⟩⟩ s8
    · rw [z, s6 _ _ xL] at a; cases a
    · rw [z, s6 _ _ oL] at a; cases a
    · rw [z, oD] at a; cases a
  · intro H6 D kvs2 nD oD ek2 hR s6
    obtain ⟨b1, s56⟩ := lock_offN hg5 s6
    have Dg : D ≠ g := fun z => by rw [z, oL] at nD; cases nD
    have Dx : D ≠ x := fun z => by rw [z, xL] at nD; cases nD
    have nD0 : H D = none := low0 D (Same.refl _) nD
    refine ⟨b1, ?_⟩
    have oD7 : upd H6 g (.dK es) D = some (.dK kvs2) := by rw [upd_ne Dg]; exact oD
    have hx7 := s56 _ _ hx5
    refine ⟨_, rfl, x, C, dx, _, rfl, hx7, S.cl, S.nR, by show 1 < 1000; decide, ?_⟩
    have up8 : ∀ b o, b ≠ x → upd H6 g (.dK es) b = some o → upd (upd H6 g (.dK es)) x (.ins C dx (putF "_readers" (.ref D) (putF "_letters" (.str L) []))) b = some o := fun b o nb e => by rw [upd_ne nb]; exact e
    refine hq _ ⟨dx, D, ?_, ⟨D, kvs2, rfl, nD0, up8 _ _ Dx oD7, ok.nd, ?_⟩⟩ fun b o nb e => up8 b o nb (s56 _ _ (up05 b o nb e))
    · rw [upd_same]
      rfl
    · refine paired_of _ _ (by have z := congrArg List.length ek2; rw [List.length_map, List.length_map] at z; show kvs2.length = rs.length; omega) fun j e q e1 e2 => ?_
      obtain ⟨q', e3, h⟩ := hR j e.1 e.2 e1
      rw [e2] at e3
      obtain rfl := Option.some.inj e3
      have ekj : e.1 = Sum.inr q.1 := by
        have z := congrArg (fun l => l[j]?) (ek2.trans kes)
        simp only [List.getElem?_map, e1, e2, Option.map_some] at z
        exact Option.some.inj z
      exact ⟨ekj, PyD.kp h fun b o a e => ⟨a.1.1, up8 b o a.1.2.1 (by rw [upd_ne a.1.2.2]; exact e)⟩⟩
end
end L2.TB
/-! Machines: letters, questions, home, reader, _check_some -/
namespace L2.TB
open PySem PySem.Spec PyProof.Rows
def spFirstD (K : PySem.W.Frag) : Sp := fun vs H Q _ => ∃ (c a : Addr) (kvs : List (Key × V)) (known : List Str), vs = [.ref c, .ref a] ∧ H c = some (.dK kvs) ∧ SqA K H a (known.map V.str) ∧ known.Nodup ∧ (∀ x ∈ known, ∃ v, valV kvs (Sum.inr x) = some v) ∧ known.length < 1000 ∧ ∀ H', Same H H' → Q .non H'
def spMLet (C : Addr) : Sp := fun vs H Q _ => ∃ (x : Addr) (L : Str) (rs : RsT) (A : Addr → Prop), vs = [.ref x] ∧ MachA A H C x L rs ∧ Q (.str L) H
def spMQs (C : Addr) : Sp := fun vs H Q _ => ∃ (x : Addr) (L : Str) (rs : RsT) (A : Addr → Prop), vs = [.ref x] ∧ MachA A H C x L rs ∧ ∀ H' q, H q = none → H' q = some (.lst ((rs.map (·.1)).map V.str)) → Same H H' → Q (.ref q) H'
def spMHome : Sp := fun vs H Q _ => ∃ x : Addr, vs = [.ref x] ∧ Q (.str (Str.ofString "")) H
def spMReader (C : Addr) : Sp := fun vs H Q _ => ∃ (x : Addr) (L : Str) (rs : RsT) (A : Addr → Prop) (q : Str × RdT), vs = [.ref x, .str q.1] ∧ MachA A H C x L rs ∧ q ∈ rs ∧ RdS q.2 ∧ ∀ H' y, PyD.at_ (fun b => H b = none) H' y q.2 → Same H H' → Q y H'
def spMSome (K : PySem.W.Frag) (C : Addr) : Sp := fun vs H Q _ => ∃ (x a : Addr) (L : Str) (rs : RsT) (A : Addr → Prop) (ns : List Str), vs = [.ref x, .ref a] ∧ MachA A H C x L rs ∧ SqA K H a (ns.map V.str) ∧ ns.Nodup ∧ (∀ n ∈ ns, n ∈ rs.map (·.1)) ∧ 0 < ns.length ∧ ns.length < 1000 ∧ ∀ H', Same H H' → Q .non H'
theorem scMLet : FnScope ["self"] ["self"] (defScope sLetters) := ⟨rfl, rfl, rfl, by decide +kernel, rfl, by decide +kernel, by decide +kernel⟩
theorem scMQs : FnScope ["self"] ["self"] (defScope sQs) := ⟨rfl, rfl, rfl, by decide +kernel, rfl, by decide +kernel, by decide +kernel⟩
theorem scMHome : FnScope ["self"] ["self"] (defScope sHome) := ⟨rfl, rfl, rfl, by decide +kernel, rfl, by decide +kernel, by decide +kernel⟩
theorem scMReader : FnScope ["self", "name"] ["self", "name"] (defScope sReader) := ⟨rfl, rfl, rfl, by decide +kernel, rfl, by decide +kernel, by decide +kernel⟩
theorem scMSome : FnScope ["self", "known"] ["self", "known"] (defScope sCkSome) := ⟨rfl, rfl, rfl, by decide +kernel, rfl, by decide +kernel, by decide +kernel⟩
/-- a reader of the field, by its name -/
theorem rs_val {A : Addr → Prop} {H : Hp} {es : List (Key × V)} {rs : RsT} (h : Paired (DcE A H) es rs) (nd : (rs.map (·.1)).Nodup) {q : Str × RdT} (qin : q ∈ rs) : ∃ v, valV es (Sum.inr q.1) = some v ∧ PyD.at_ A H v q.2 := by
  have e := lk_mem nd qin
  rcases val_lk h q.1 with ⟨_, h2⟩ | ⟨v, a, h1, h2, h3⟩
  · rw [e] at h2; cases h2
  · rw [e] at h2
    obtain rfl := Option.some.inj h2
    exact ⟨v, h1, h3⟩
theorem key_strs {A : Addr → Prop} {H : Hp} {es : List (Key × V)} {rs : RsT} (h : Paired (DcE A H) es rs) : (es.map fun kv => kV kv.1) = (rs.map (·.1)).map V.str := by
  have z2 := congrArg (List.map kV) (dc_keys h)
  rw [List.map_map, List.map_map] at z2
  exact z2
section
variable {P : Program} {w : World} {K : PySem.W.Frag} {mg : Str → Option Value} {base : Heap} {f C fL fO fA fK fF : Addr} {fd fdL fdO fdA fdK fdF : FuncData}
theorem ok_firstD (F : Fun K "first_bad" "first_bad" sFirst f fd) (FL : Fun K "is_list" "is_list" sIsList fL fdL) (gIL : mg "is_list" = some (.ref fL)) (FO : Fun K "is_one_of" "is_one_of" sIsOne fO fdO) (gIO : mg "is_one_of" = some (.ref fO))
    (gI : mg "isinstance" = none) (gL : mg "list" = none) (gT : mg "tuple" = none) (gS : mg "str" = none) (gE : mg "enumerate" = none) : FnOk P w K mg base CX0 2 f fd ["names", "things"] (spFirstD K) := by
  have GL : FnOk P w K mg base CX0 1 fL fdL ["thing"] (spIsList K) := ok_isList FL gI gL gT
  have bL := FL.binds (ps := ["thing"]) fun _ _ _ _ _ _ us hl => match us, hl with | [_], _ => rfl
  have GO : FnOk P w K mg base CX0 1 fO fdO ["names", "thing"] spIsOneD := ok_isOneD FO gI gS
  have bO := FO.binds (ps := ["names", "thing"]) fun _ _ _ _ _ _ us hl => match us, hl with | [_, _], _ => rfl
  refine F.ok scFirst (fun vs H Q E h => by obtain ⟨c, a, kvs, known, e, _⟩ := h; rw [e]; rfl) fun cdv A outer s H vs Q E hr hsp => ?_
  obtain ⟨c, a, kvs, known, rfl, hc, hS, nd1, sub, short, hq⟩ := hsp
  have nd := scFirst.nd
  have hu := hu_of hr
  refine ⟨_, pss_cons (ps_if (pt_not (pt_val (pe_call GL hr rfl gIL FL.kp bL .nil pass0 (pa_cons (pv 1) pa_nil)))) (pss_one ps_never) pss_nil)
    (pss_cons (ps_set (i := 2) nd rfl (Or.inl rfl) pe_dnewK)
    (pss_cons (ps_for PassesOwn.never rfl (pi_enumS rfl gE (pa_cons (pv 1) pa_nil)) (pg_tup rfl (pgs_cons (pg_name (i := 3) nd rfl (Or.inl rfl)) (pgs_cons (pg_name (i := 4) nd rfl (Or.inl rfl)) pgs_nil)))
      (pss_cons (ps_if (PW.pt (pw_or (pt_not (pt_val (pe_call GO hr rfl gIO FO.kp bO .nil pass0 (pa_cons (pv 0) (pa_cons (pv 4) pa_nil))))) (pw_or1 (pt_cmp (pc_din hu (pv 4) (pv 2)))))) (pss_one ps_never) pss_nil)
      (pss_one (ps_dput hu (pv 2) (pv 4) pe_bl rfl))))
    (pss_one (ps_ret pe_non)))), ?_⟩
  refine ⟨_, rfl, a, _, rfl, hS, fun H1 k1 => ⟨_, rfl, iteF fun d nd2 => ?_⟩⟩
  have kd := same_new (o := .dK []) nd2
  obtain ⟨o, ho, ko⟩ : ∃ o, H1 a = some o ∧ (o = .lst (known.map V.str) ∨ o = .tup (known.map V.str)) := by
    rcases hS.same k1 with e | e
    · exact ⟨_, e, .inl rfl⟩
    · exact ⟨_, e, .inr rfl⟩
  refine ⟨_, rfl, enum_seq ko (fun i σ H' => H' d = some (.dK (seenD (known.take i))) ∧ Same H1 H' ∧ ∃ s3 s4, σ = [some (.ref c), some (.ref a), some (.ref d), s3, s4])
    ⟨upd_same, kd, _, _, rfl⟩ (fun i σ H' _ h => h.2.1 _ _ ho) ?_ ?_⟩
  · rintro i v σ H2 T ev ⟨od, s2, s3, s4, rfl⟩ nT
    rw [List.getElem?_map] at ev
    obtain ⟨x, ex, rfl⟩ := Option.map_eq_some_iff.mp ev
    have hi : i < known.length := (List.getElem?_eq_some_iff.mp ex).1
    have kT := same_new (o := .tup [.int (i : Nat), .str x]) nT
    refine ⟨T, _, rfl, SqT.of upd_same, rfl, ?_⟩
    have e1 : known.take (i + 1) = known.take i ++ [x] := by rw [List.take_succ, ex]; rfl
    have notin : x ∉ known.take i := fun m => by
      have z := nd1
      rw [← List.take_append_drop (i + 1) known, e1, List.append_assoc, List.nodup_append] at z
      exact z.2.2 x m x (by simp) rfl
    obtain ⟨vx, hvx⟩ := sub x (List.mem_of_getElem? ex)
    refine ⟨_, _, rfl, _, _, rfl, rfl, ?_⟩
    refine ⟨_, rfl, _, rfl, c, kvs, x, vx, rfl, .inl (kT _ _ (s2 _ _ (k1 _ _ hc))), hvx, _, rfl, ?_⟩
    refine iteF ⟨_, rfl, _, rfl, d, _, rfl, DGet.k (k := Sum.inr x) (kT _ _ od), ?_⟩
    rw [seen_none notin]
    refine ⟨_, rfl, iteF ?_⟩
    have small : (seenD (known.take i)).length < sizeLine := by
      rw [sizeLine_eq]
      unfold seenD
      rw [List.length_map, List.length_take]; omega
    refine ⟨_, rfl, _, rfl, d, _, rfl, DPut.k (k := Sum.inr x) (kT _ _ od) small, ?_, ?_, _, _, rfl⟩
    · rw [upd_same, seen_put notin, ← e1]
    · intro b u e
      have nb : b ≠ d := ne_of_none e nd2
      rw [upd_ne nb]
      exact kT _ _ (s2 _ _ e)
  · rintro σ H2 ⟨od, s2, s3, s4, rfl⟩
    exact hq _ (k1.trans s2)
theorem ok_ckKD (F : Fun K "check_known" "check_known" sCkK f fd) (FF : Fun K "first_bad" "first_bad" sFirst fF fdF) (gF : mg "first_bad" = some (.ref fF)) (G : FnOk P w K mg base CX0 2 fF fdF ["names", "things"] (spFirstD K)) : FnOk P w K mg base CX0 3 f fd ["names", "known"] (spFirstD K) := by
  have b := FF.binds (ps := ["names", "things"]) fun _ _ _ _ _ _ us hl => match us, hl with | [_, _], _ => rfl
  refine F.ok scCkK (fun vs H Q E h => by obtain ⟨c, a, ns, known, e, _⟩ := h; rw [e]; rfl) fun cdv A outer s H vs Q E hr hsp => ?_
  obtain ⟨c, a, ns, known, rfl, hc, hS, nd1, sub, short, hq⟩ := hsp
  have nd := scCkK.nd
  refine ⟨_, pss_cons (ps_set (i := 2) nd rfl (Or.inl rfl) (pe_call G hr rfl gF FF.kp b .nil pass0 (pa_cons (pv 0) (pa_cons (pv 1) pa_nil))))
    (pss_one (ps_if (pt_cmp (pc_notN (pv 2))) (pss_one ps_never) pss_nil)), ?_⟩
  refine ⟨_, rfl, _, rfl, c, a, ns, known, rfl, hc, hS, nd1, sub, short, fun H1 k1 => ?_⟩
  exact ⟨_, rfl, _, rfl, iteF (hq H1 k1)⟩
theorem ok_mLet (F : Fun K "letters" "Machines.letters" sLetters f fd) (S : MaC K C) : FnOk P w K mg base CX0 1 f fd ["self"] (spMLet C) := by
  refine F.ok scMLet (fun vs H Q E h => by obtain ⟨x, L, rs, A, e, _⟩ := h; rw [e]; rfl) fun cdv A outer s H vs Q E hr hsp => ?_
  obtain ⟨x, L, rs, _, rfl, hx, hq⟩ := hsp
  obtain ⟨dx, D, h1, h2⟩ := hx.ex
  refine ⟨_, pss_one (ps_ret (pe_fld (pv 0) rfl)), ?_⟩
  exact ⟨_, rfl, x, C, dx, _, _, rfl, h1, S.cl, S.nL, rfl, hq⟩
theorem ok_mQs (F : Fun K "questions" "Machines.questions" sQs f fd) (S : MaC K C) (nL : mg "list" = none) : FnOk P w K mg base CX0 1 f fd ["self"] (spMQs C) := by
  refine F.ok scMQs (fun vs H Q E h => by obtain ⟨x, L, rs, A, e, _⟩ := h; rw [e]; rfl) fun cdv A outer s H vs Q E hr hsp => ?_
  obtain ⟨x, L, rs, _, rfl, hx, hq⟩ := hsp
  obtain ⟨dx, D, h1, D', es, e1, _, oD, nD, pr⟩ := hx.ex
  obtain rfl := V.ref.inj e1
  refine ⟨_, pss_one (ps_ret (pe_callTy (call_listD rfl) rfl nL boot_list' (pa_cons (pe_fld (pv 0) rfl) pa_nil))), ?_⟩
  refine ⟨_, rfl, x, C, dx, _, _, rfl, h1, S.cl, S.nR, rfl, D, es, rfl, .inl oD, fun q nq => hq _ q nq ?_ (same_new nq)⟩
  have z : (es.map fun kv => kV kv.1) = (rs.map (·.1)).map V.str := key_strs pr
  rw [z]
  exact upd_same
theorem ok_mHome (F : Fun K "home" "Machines.home" sHome f fd) : FnOk P w K mg base CX0 1 f fd ["self"] spMHome := by
  refine F.ok scMHome (fun vs H Q E h => by obtain ⟨x, e, _⟩ := h; rw [e]; rfl) fun cdv A outer s H vs Q E hr hsp => ?_
  obtain ⟨x, rfl, hq⟩ := hsp
  exact ⟨_, pss_one (ps_ret pe_str), hq⟩
theorem ok_mReader (F : Fun K "reader" "Machines.reader" sReader f fd) (S : MaC K C) (FA : Fun K "check_asked" "check_asked" sCkA fA fdA) (gA : mg "check_asked" = some (.ref fA)) (GA : FnOk P w K mg base CX0 2 fA fdA ["names", "asked"] spCkAD) (FO : Fun K "_own" "_own" sOwn fO fdO) (gO : mg "_own" = some (.ref fO)) : FnOk P w K mg base CX0 3 f fd ["self", "name"] (spMReader C) := by
  have GO : FnOk P w K mg base CX0 1 fO fdO ["reader"] (spOwn K) := ok_own FO
  have bO := FO.binds (ps := ["reader"]) fun _ _ _ _ _ _ us hl => match us, hl with | [_], _ => rfl
  have bA := FA.binds (ps := ["names", "asked"]) fun _ _ _ _ _ _ us hl => match us, hl with | [_, _], _ => rfl
  refine F.ok scMReader (fun vs H Q E h => by obtain ⟨x, L, rs, A, q, e, _⟩ := h; rw [e]; rfl) fun cdv A outer s H vs Q E hr hsp => ?_
  obtain ⟨x, L, rs, A0, q, rfl, hx, qin, ok, hq⟩ := hsp
  obtain ⟨dx, D, h1, D', es, e1, _, oD, nD, pr⟩ := hx.ex
  obtain rfl := V.ref.inj e1
  have hu := hu_of (hr.mono (show 1 ≤ 2 by decide))
  obtain ⟨v, ev, at1⟩ := rs_val pr nD qin
  refine ⟨_, pss_cons (ps_expr (pe_call GA hr rfl gA FA.kp bA .nil pass0 (pa_cons (pe_fld (pv 0) rfl) (pa_cons (pv 1) pa_nil)))) (pss_one (ps_ret (pe_call GO (hr.mono (by decide)) rfl gO FO.kp bO .nil pass0 (pa_cons (pe_dget hu (pe_fld (pv 0) rfl) (pv 1) (fun _ _ => rfl)) pa_nil)))), ?_⟩
  refine ⟨_, rfl, x, C, dx, _, _, rfl, h1, S.cl, S.nR, rfl, _, rfl, D, es, q.1, v, rfl, .inl oD, ev, ?_⟩
  refine ⟨_, rfl, x, C, dx, _, _, rfl, h1, S.cl, S.nR, rfl, _, rfl, D, _, rfl, .inl ⟨es, Sum.inr q.1, .inl oD, rfl, ev.symm⟩, ?_⟩
  exact ⟨v, q.2, rfl, (at_rdG at1).keep fun b o _ e => ⟨trivial, e⟩, ok, hq⟩
theorem ok_mSome (F : Fun K "_check_some" "Machines._check_some" sCkSome f fd) (S : MaC K C) (FK : Fun K "check_known" "check_known" sCkK fK fdK) (gK : mg "check_known" = some (.ref fK)) (GK : FnOk P w K mg base CX0 3 fK fdK ["names", "known"] (spFirstD K)) (nN : mg "len" = none) : FnOk P w K mg base CX0 4 f fd ["self", "known"] (spMSome K C) := by
  have bK := FK.binds (ps := ["names", "known"]) fun _ _ _ _ _ _ us hl => match us, hl with | [_, _], _ => rfl
  refine F.ok scMSome (fun vs H Q E h => by obtain ⟨x, a, L, rs, A, ns, e, _⟩ := h; rw [e]; rfl) fun cdv A outer s H vs Q E hr hsp => ?_
  obtain ⟨x, a, L, rs, A0, ns, rfl, hx, ha, nnd, sub, n0, n1, hq⟩ := hsp
  obtain ⟨dx, D, h1, D', es, e1, _, oD, nD, pr⟩ := hx.ex
  obtain rfl := V.ref.inj e1
  refine ⟨_, pss_cons (ps_expr (pe_call GK hr rfl gK FK.kp bK .nil pass0 (pa_cons (pe_fld (pv 0) rfl) (pa_cons (pv 1) pa_nil)))) (pss_one (ps_if (pt_cmpR op_eq (pe_callB call_len_seq rfl nN boot_len (pa_cons (pv 1) pa_nil)) pe_int (nomark _)) (pss_one ps_never) pss_nil)), ?_⟩
  refine ⟨_, rfl, x, C, dx, _, _, rfl, h1, S.cl, S.nR, rfl, _, rfl, D, a, es, ns, rfl, oD, ha, nnd, fun n hn => ?_, n1, fun H1 k1 => ?_⟩
  · obtain ⟨q, hq, rfl⟩ := List.mem_map.mp (sub n hn)
    obtain ⟨v, ev, _⟩ := rs_val pr nD hq
    exact ⟨v, ev⟩
  · exact ⟨_, rfl, a, _, rfl, (ha.same k1).imp SqL.of SqT.of, rfl, false, congrArg V.bl (decide_eq_false fun z => by have z := V.int.inj z; rw [List.length_map] at z; omega), iteF (hq H1 k1)⟩
end
end L2.TB
/-! {**a, **b} -/
namespace L2.TB
open PySem PySem.Spec PyProof.Rows
section
variable {prog : Program} {w : World} {A : Around} {E : Value → Shared → Prop} {s : Shared}
theorem put_kv {d : Addr} {us : List (Key × Value)} {k : Key} {kx vx : Value} {Q : Unit → Shared → Prop} (hk : (mixKind prog w).is k kx = true) (at_ : s.heap.DictOf (mixKind prog w) d us)
    (few : us.length ≤ sizeLine) (fin : ∀ h2, h2.DictOf (mixKind prog w) d (stored us k vx) → Heap.SameBut d s.heap h2 → Q () { s with heap := h2 }) :
    wpAny (model prog w) A (dictPut d ((mixKind prog w).hash k) kx vx) Q E s := by
  obtain ⟨ob, ents, ep, g1, g2, g3, g4, g5, g6⟩ := at_
  have le : ents.size ≤ sizeLine := by
    have z := g5.length
    rw [Array.length_toList] at z
    omega
  unfold dictPut
  refine wpAny_bind (wpAny_dictFind_of hk g1 g3 g4 ?_)
  have same : (ents.findIdx? fun e => (mixKind prog w).is k e.key) = us.findIdx? fun q => decide (q.1 = k) := by
    rw [← g5.findIdx k]
    obtain ⟨l⟩ := ents
    simp
  cases found : ents.findIdx? fun e => (mixKind prog w).is k e.key with
  | some i =>
    refine wpAny_updateDict g1 g3 (fin _ ⟨_, _, ep, Heap.get?_update_self _ g1 (Obj.isFreed_of_dict (Obj.data_mapDict g3 _)), g2.mapDict _, Obj.data_mapDict g3 _, g4.modify _ _, ?_, ?_⟩ (Heap.SameBut.update ..))
    · rw [stored, if_pos (any_of_findIdx_some (same ▸ found))]
      have at_i : (ents.toList.findIdx? fun e => (mixKind prog w).is k e.key) = some i := by
        rw [← found]
        obtain ⟨l⟩ := ents
        simp
      have z := g5.modify g6 at_i vx
      obtain ⟨l⟩ := ents
      simpa using z
    · rw [stored, if_pos (any_of_findIdx_some (same ▸ found)), keys_map_store]
      exact g6
  | none =>
    have out : k ∉ us.map (·.1) := not_mem_of_findIdx_none (same ▸ found)
    have none_at : ¬ (us.any fun q => decide (q.1 = k)) = true := by
      intro z
      obtain ⟨q, hq, e⟩ := List.any_eq_true.mp z
      exact out (of_decide_eq_true e ▸ List.mem_map_of_mem (f := (·.1)) hq)
    refine wpAny_updateDictKeys (hz := le) g1 g3 (fin _ ⟨_, _, ep + 1, Heap.get?_update_self _ g1 (Obj.isFreed_of_dict (Obj.data_mapDictKeys g3 _)), g2.mapDictKeys _, Obj.data_mapDictKeys g3 _, g4.push hk _, ?_, ?_⟩ (Heap.SameBut.update ..))
    · rw [stored, if_neg none_at]
      have z := g5.append hk ((mixKind prog w).hash k) vx
      obtain ⟨l⟩ := ents
      simpa using z
    · rw [stored, if_neg none_at, List.map_append, List.nodup_append]
      exact ⟨g6, by simp, fun x hx y hy => fun e => out (by
        have z : y = k := by simpa using hy
        rw [← z, ← e]; exact hx)⟩
theorem merge_map {d o : Addr} {us more : List (Key × Value)} {Q : Unit → Shared → Prop} (ne : d ≠ o) (sysO : (o == sysModules) = false) (hd : s.heap.DictOf (mixKind prog w) d us) (ho : s.heap.DictOf (mixKind prog w) o more) (few : us.length + more.length ≤ sizeLine)
    (fin : ∀ h2, h2.DictOf (mixKind prog w) d (merged us more) → Heap.SameBut d s.heap h2 → Q () { s with heap := h2 }) :
    wpAny (model prog w) A (mergeMapping d (.ref o) false) Q E s := by
  obtain ⟨ob, ents, ep, g1, g2, g3, g4, g5, g6⟩ := id ho
  obtain ⟨ob2, ents2, ep2, k1, k2, k3, k4, k5, k6⟩ := id hd
  have len : more.length = ents.size := by
    have z := g5.length
    rw [Array.length_toList] at z
    omega
  unfold mergeMapping
  refine wpAny_bind (wpAny_isInstance ho.typeIs isSubtype_dict_dict ?_)
  show wpAny _ _ (specialOf (.ref o) "__iter__" >>= _) _ _ _
  refine wpAny_bind (wpAny_specialOf ho.typeIs F.slot_dict_iter.lookup (wpAny_bind (wpAny_pure ?_)))
  simp only [beq_self_eq_true, sysO, Bool.false_eq_true, if_false]
  have body : wpAny (model prog w) A (do
      let l ← dictEntries o
      let epoch ← dictEpoch o
      forIn (List.range l.size) PUnit.unit fun i (_ : PUnit) => (do
          let l2 ← dictEntries o
          match l2[i]? with
            | some e => do
              holding [e.key, e.val] (dictPut d e.hash e.key e.val)
              let ep3 ← dictEpoch o
              if (ep3 != epoch) = true then do
                  (unsupported "dict.changed-during-merge" : Sem PUnit)
                  pure (ForInStep.yield PUnit.unit)
                else pure (ForInStep.yield PUnit.unit)
            | _ => do
              (unsupported "dict.changed-during-merge" : Sem PUnit)
              pure (ForInStep.yield PUnit.unit) : Sem (ForInStep PUnit))
      pure ()) Q E s := by
    refine wpAny_bind (wpAny_dictEntries g1 g3 (wpAny_bind (wpAny_dictEpoch g1 g3 (wpAny_bind ?_))))
    refine wpAny_forIn_list _ (fun rest _ z => ∃ h2 i, z = { s with heap := h2 } ∧ rest = (List.range ents.size).drop i ∧ i ≤ ents.size ∧ h2.DictOf (mixKind prog w) d (merged us (more.take i)) ∧ h2.get? o = some ob ∧ Heap.SameBut d s.heap h2) _ ?_ ?_ _ _
      ⟨s.heap, 0, rfl, rfl, Nat.zero_le _, by simpa [merged] using hd, g1, Heap.SameBut.refl _ _⟩
    · rintro x rest u z ⟨h2, i, rfl, er, le, at2, so, sb⟩
      have lt : i < ents.size := by
        rcases Nat.lt_or_ge i ents.size with c | c
        · exact c
        · rw [List.drop_of_length_le (by rw [List.length_range]; exact c)] at er
          cases er
      have ed : (List.range ents.size).drop i = i :: (List.range ents.size).drop (i + 1) := by
        rw [List.drop_eq_getElem_cons (by rw [List.length_range]; exact lt), List.getElem_range]
      rw [ed] at er
      obtain ⟨rfl, rfl⟩ := List.cons.inj er
      have em : more[x]? = some (more[x]'(by rw [len]; exact lt)) := List.getElem?_eq_getElem _
      generalize more[x]'(by rw [len]; exact lt) = kv at em
      obtain ⟨k, v⟩ := kv
      refine wpAny_bind (wpAny_dictEntries so g3 ?_)
      rw [Array.getElem?_eq_getElem lt]
      obtain ⟨a1, a2⟩ := g5.get? (e := ents[x]) (by simp [lt]) em
      obtain ⟨k2, b1, b2⟩ := g4 ents[x] (Array.getElem_mem lt)
      obtain rfl : k2 = k := (mixKind prog w).inj _ _ _ b1 a1
      show wpAny _ _ (holding [ents[x].key, ents[x].val] (dictPut d ents[x].hash ents[x].key ents[x].val) >>= _) _ _ _
      rw [b2, a2]
      refine wpAny_bind (wpAny_holding (put_kv b1 at2 ?_ fun h3 c1 c2 => ?_))
      · have y1 := merged_length_le us (more.take x)
        have y2 := List.length_take_le x more
        omega
      have so3 : h3.get? o = some ob := (c2.2 o (Ne.symm ne)).trans so
      refine wpAny_bind (wpAny_dictEpoch so3 g3 ?_)
      rw [if_neg (by simp)]
      exact wpAny_pure ⟨h3, x + 1, rfl, rfl, lt, by rw [merged_take_succ us more x (k2, v) em]; exact c1, so3, sb.trans c2⟩
    · rintro u z ⟨h2, i, rfl, er, le, at2, so, sb⟩
      have e : i = ents.size := by
        rcases Nat.lt_or_ge i ents.size with c | c
        · have := congrArg List.length er
          rw [List.length_drop, List.length_range, List.length_nil] at this
          omega
        · omega
      refine wpAny_pure (fin h2 ?_ sb)
      rw [e, ← len, List.take_length] at at2
      exact at2
  refine wpAny_bind (wpAny_dictEntries k1 k3 ?_)
  split
  · refine wpAny_bind (wpAny_dictEntries g1 g3 (wpAny_bind ?_))
    rw [← Array.forIn_toList]
    refine wpAny_forIn_list _ (fun rest _ z => z = s ∧ ∀ e ∈ rest, e ∈ ents) _ ?_ ?_ _ _ ⟨rfl, fun e he => Array.mem_toList_iff.mp he⟩
    · rintro e rest u z ⟨rfl, sub⟩
      obtain ⟨k, b1, _⟩ := g4 e (sub e List.mem_cons_self)
      rcases keyIs_shape b1 with ⟨i, t, _, e1⟩ | ⟨i, t, _, e1⟩
      · rw [e1]
        exact wpAny_pure ⟨rfl, fun e he => sub e (List.mem_cons_of_mem _ he)⟩
      · rw [e1]
        exact wpAny_pure ⟨rfl, fun e he => sub e (List.mem_cons_of_mem _ he)⟩
    · rintro u z ⟨rfl, _⟩
      exact body
  · exact body
end
section
variable {X : Cx}
/-- a new dict of two dicts' entries -/
def tDStar (ta tb : TE) : TE := fun σ H Q => ∀ p, H p = none → ta σ (upd H p (.dK [])) fun x H1 => ∃ a ka, x = .ref a ∧ H1 a = some (.dK ka) ∧ a ≠ p ∧ H1 p = some (.dK []) ∧ ka.length ≤ 1000 ∧
  tb σ (upd H1 p (.dK (mergeK [] ka))) fun y H2 => ∃ b kb, y = .ref b ∧ H2 b = some (.dK kb) ∧ b ≠ p ∧ H2 p = some (.dK (mergeK [] ka)) ∧ kb.length ≤ 1000 ∧ Q (.ref p) (upd H2 p (.dK (mergeK (mergeK [] ka) kb)))
theorem merge_inv {pins : List (Addr × Obj)} {σ : L2.St} {G : Hp} {z : Shared} {A : Around} {p a : Addr} {kp ka : List (Key × V)} {E2 : Value → Shared → Prop} {R : Unit → Shared → Prop} (I : Inv X pins σ G z) (op : G p = some (.dK kp)) (oa : G a = some (.dK ka)) (ne : a ≠ p) (few : kp.length + ka.length ≤ 4000)
    (fin : ∀ z2, Inv X pins σ (upd G p (.dK (mergeK kp ka))) z2 → R () z2) : wpAny (model X.prog X.w) A (mergeMapping p (.ref a) false) R E2 z := by
  obtain ⟨_, sp, us, ru, du⟩ := dk_of I.hok op
  obtain ⟨_, sa, ws, rw', dw⟩ := dk_of I.hok oa
  have l1 := ru.length
  have l2 := rw'.length
  refine merge_map (Ne.symm ne) sa du dw (by rw [sizeLine_eq]; omega) fun h2 at2 sb => fin _ ?_
  have he : ∃ q, h2.get? p = some q := let ⟨q, _, _, hq, _⟩ := at2; ⟨q, hq⟩
  refine d_write I (by rw [op]; exact True.intro) sb he (dk_new ?_ sp (rw'.merge ru) at2)
  have := length_mergeK ka kp
  rw [sizeLine_eq]
  omega
theorem pe_dstar {ea eb : Expr} {ta tb : TE} {pos : Pos} (ha : PE X ea ta) (hb : PE X eb tb) : PE X (.Dict [none, none] [ea, eb] pos) (tDStar ta tb) := by
  refine ⟨fun pins st σ H Q inv reading => ?_⟩
  have free := inv.hok.fresh (Nat.le_refl st.heap.objs.size)
  have I1 := inv.laid (a := st.heap.objs.size) (o := .dK []) (h' := st.heap.push { cls := .type "dict", data := .dict #[] }) (t' := st.toks) (fun _ _ q => Heap.get?_push_of_some _ q) (Nat.le_refl _) (dk_empty st.heap inv.big)
  rw [PySem.arm_eval_Dict]
  refine wpAny_bind (wpAny_standAt ?_)
  unfold dictDisplay
  simp only [evalEachOpt, evalEach, evalOpt, List.map_cons, List.map_nil, List.zip_cons_cons, List.zip_nil_right, List.forIn_cons, List.forIn_nil]
  simp only [List.isEmpty_nil, if_true, pure_bind, bind_assoc]
  refine wpAny_bind (wpAny_alloc ?_)
  have q1 := reading _ free
  refine wpAny_bind (wpAny_holding (wpAny_bind (thn (ha.run pins _ σ _ _ I1 q1) ?_)))
  rintro u s1 ⟨x, H1, I2, rx, a, ka, rfl, oa, ap, op, fa, q2⟩
  have eu := rel_ref rfl rx
  subst eu
  refine wpAny_bind (wpAny_standAt (wpAny_pure ?_))
  refine wpAny_bind (wpAny_onRaise (wpAny_tryCatch (wpAny_onRaise (wpAny_holding (merge_inv I2 op oa ap (by rw [List.length_nil]; omega) fun s2 I3 => ?_)))))
  refine wpAny_bind (wpAny_holding (wpAny_bind (thn (hb.run pins _ σ _ _ I3 q2) ?_)))
  rintro u s3 ⟨y, H2, I4, ry, b, kb, rfl, ob, bp, op2, fb, q3⟩
  have eu := rel_ref rfl ry
  subst eu
  refine wpAny_bind (wpAny_standAt (wpAny_pure ?_))
  have lm := length_mergeK ka []
  rw [List.length_nil] at lm
  refine wpAny_bind (wpAny_onRaise (wpAny_tryCatch (wpAny_onRaise (wpAny_holding (merge_inv I4 op2 ob bp (by omega) fun s4 I5 => ?_)))))
  exact wpAny_pure ⟨.ref st.heap.objs.size, _, I5, rfl, q3⟩
end
end L2.TB
/-! Machines: ==, |, only -/
namespace L2.TB
open PySem PySem.Spec PyProof.Rows
abbrev eqRs (r1 r2 : RsT) : Bool := r1.length == r2.length && (r1.zip r2).all fun e => PyD.eqv e.1 e.2
def spMEq (C : Addr) : Sp := fun vs H Q _ => ∃ (a b : Addr) (L1 L2 : Str) (r1 r2 : RsT) (A1 A2 : Addr → Prop), vs = [.ref a, .ref b] ∧ MachA A1 H C a L1 r1 ∧ MachA A2 H C b L2 r2 ∧ ∀ H', Same H H' → Q (.bl (decide (L1 = L2) && eqRs r1 r2)) H'
def spMEqO (K : PySem.W.Frag) (C : Addr) : Sp := fun vs H Q _ => ∃ (a : Addr) (y : V) (t : Value), vs = [.ref a, y] ∧ TyX K H y t ∧ PySem.W.kitOne K t (.ref C) = some false ∧ Q (.bl false) H
theorem scMEq : FnScope ["self", "other"] ["self", "other"] (defScope sEqM) := ⟨rfl, rfl, rfl, by decide +kernel, rfl, by decide +kernel, by decide +kernel⟩
theorem made_ma {K : PySem.W.Frag} {C g : Addr} {L : Str} {rs : RsT} {es : List (Key × V)} {H : Hp} {E : XK} {Q : Addr → Hp → Prop} (lok : LetOk L) (hg : H g = some (.dK es)) (hp : Paired (HandR K (fun _ => True) H) es rs) (ok : RsOk L rs)
    (fin : ∀ H' x, H x = none → MachA (fun b => H b = none) H' C x L rs → Same H H' → Q x H') :
    ∀ x dx, H x = none → H dx = none → dx ≠ x → spMInit K C (.ref x :: ([.str L, .ref g] ++ [])) (upd (upd H dx (.own x)) x (.ins C dx [])) (fun v H2 => v = .non ∧ Q x H2) E := by
  intro x dx nx ndx nex
  have kx : Same H (upd (upd H dx (.own x)) x (.ins C dx [])) := fun b o e => by rw [upd_ne (ne_of_none e nx), upd_ne (ne_of_none e ndx)]; exact e
  exact ⟨x, dx, g, L, rs, es, rfl, upd_same, lok, kx _ _ hg, Paired.mapP hp fun e q h => h.keep fun b o a e => ⟨a, kx _ _ e⟩, ok, fun H2 T fr => ⟨rfl, fin H2 x nx (T.keep (fun o e => e) fun b o a e => ⟨kx.free a, e⟩) fun b o e => fr b o (ne_of_none e nx) (kx _ _ e)⟩⟩
theorem paired_app {α β : Type} {F : α → β → Prop} {as as' : List α} {bs bs' : List β} (h : Paired F as bs) (h' : Paired F as' bs') : Paired F (as ++ as') (bs ++ bs') := by
  induction h with
  | nil => exact h'
  | cons h _ ih => exact .cons h ih
theorem dcw_mono {J : It} {g : TG} {tt : TT} {tk tv : TE} {vs : List Nat} {σ : L2.St} {H1 : Hp} {D : Addr} {Q Q' : Hp → Prop} (h : ∃ W : Nat → Nat → Hp → Prop, (∃ m, W 0 m (upd H1 D (.dK []))) ∧ ∀ i m H, W i m H →
  (J.stop i H ∧ Q H) ∨ (J.go i H ∧ ∃ Nx : Hp → Prop, (∀ H', Nx H' → ∃ m', m' < m ∧ W (i + 1) m' H') ∧ ∀ x H', J.yld i H x H' → g x (wipe σ vs) H' fun σ2 H2 => wipe σ2 vs = wipe σ vs ∧ tt σ2 H2 fun b H3 =>
    if b = true then tk σ2 H3 fun y H4 => tv σ2 H4 fun z H5 => ∃ kvs k, y = kV k ∧ H5 D = some (.dK kvs) ∧ kvs.length < sizeLine ∧ Nx (upd H5 D (.dK (putK kvs k z))) else Nx H3)) (k : ∀ H, Q H → Q' H) : ∃ W : Nat → Nat → Hp → Prop, (∃ m, W 0 m (upd H1 D (.dK []))) ∧ ∀ i m H, W i m H →
  (J.stop i H ∧ Q' H) ∨ (J.go i H ∧ ∃ Nx : Hp → Prop, (∀ H', Nx H' → ∃ m', m' < m ∧ W (i + 1) m' H') ∧ ∀ x H', J.yld i H x H' → g x (wipe σ vs) H' fun σ2 H2 => wipe σ2 vs = wipe σ vs ∧ tt σ2 H2 fun b H3 =>
    if b = true then tk σ2 H3 fun y H4 => tv σ2 H4 fun z H5 => ∃ kvs k, y = kV k ∧ H5 D = some (.dK kvs) ∧ kvs.length < sizeLine ∧ Nx (upd H5 D (.dK (putK kvs k z))) else Nx H3) := by
  obtain ⟨W, w0, st⟩ := h
  exact ⟨W, w0, fun i m H q => (st i m H q).imp (fun z => ⟨z.1, k _ z.2⟩) id⟩
/-! an own operator -/
section
variable {X : Cx} {CX : CXT} {k : Nat} {f C : Addr} {fd : FuncData} {ps : List Str} {sp : Sp} {E : XK}
def rOrI (C : Addr) (sp : Sp) (E : XK) : R2 := fun x y H Q => ∃ a b dx dy fs gs, x = .ref a ∧ y = .ref b ∧ H a = some (.ins C dx fs) ∧ H b = some (.ins C dy gs) ∧ sp [.ref a, .ref b] H (fun v H' => ∃ c, v = .ref c ∧ Q (.ref c) H') E
theorem op_orI (F : FnOk X.prog X.w X.K X.mg X.base CX k f fd ps sp) (hr : Room k X.A) (hm : Meth X.K C "__or__" f) (sf : PySem.W.selfFirst X.K C = true) (hb : Binds X.K fd ps []) (hx : Passes CX X E) : OpR X (binaryOp .BitOr) (rOrI C sp E) := by
  intro pins s σ H x y v u Q I rx ry h
  obtain ⟨a, b, dx, dy, fs, gs, rfl, rfl, ha, hb', hsp⟩ := h
  have ev := rel_ref rfl rx
  have eu := rel_ref rfl ry
  subst ev eu
  obtain ⟨mA, JA, _⟩ := ins_get I.hok ha
  obtain ⟨mB, JB, _⟩ := ins_get I.hok hb'
  obtain ⟨od, LA, _⟩ := JA.look
  obtain ⟨od', LB, _⟩ := JB.look
  obtain ⟨m, hF⟩ := I.fr
  refine PySem.W.binop_K hF I.ok.mod.kin LA LB.type sf hm.at_ hm.fn ?_
  have z := run_fn (us := [Value.ref a, Value.ref b]) (vs := [V.ref a, V.ref b]) F hr hb .nil hx I (.cons rfl (.cons rfl .nil)) (by simpa using hsp)
  refine wpAny_mono z (fun r s' q => ?_) fun _ _ q => q
  obtain ⟨t, H', I', rt, c, et, qq⟩ := q
  have er := rel_ref et rt
  subst er
  exact ⟨.ref c, H', I', rfl, qq⟩
end
theorem items_at {A : Addr → Prop} {H : Hp} {ts : List Addr} {es : List (Key × V)} (h1 : Paired (fun (t : Addr) (q : Key × V) => H t = some (.tup [kV q.1, q.2])) ts es) : ∀ {rs : RsT}, Paired (DcE A H) es rs → Paired (PyD.at_ (fun _ => True) H) (ts.map V.ref) rs := by
  induction h1 with
  | nil =>
    intro rs h2
    cases h2
    exact .nil
  | @cons t e ts es h _ ih =>
    intro rs h2
    cases h2 with
    | @cons _ q _ rs k h2 =>
      refine .cons ⟨t, .str q.1, e.2, rfl, trivial, ?_, rfl, PyD.kp k.2 fun b o _ e => ⟨trivial, e⟩⟩ (ih h2)
      rw [h, k.1]
      rfl
def spMOr (C : Addr) : Sp := fun vs H Q _ => ∃ (a b : Addr) (L : Str) (r1 r2 : RsT) (A1 A2 : Addr → Prop), vs = [.ref a, .ref b] ∧ MachA A1 H C a L r1 ∧ MachA A2 H C b L r2 ∧ LetOk L ∧ RsOk L (r1 ++ r2) ∧ r2 ≠ [] ∧ ∀ H' y, H y = none → MachA (fun b => H b = none) H' C y L (r1 ++ r2) → Same H H' → Q (.ref y) H'
abbrev NOr : List Str := ["self", "other", "name"]
theorem scMOr : FnScope NOr ["self", "other"] (defScope sOr) := ⟨rfl, rfl, rfl, by decide +kernel, rfl, by decide +kernel, by decide +kernel⟩
def spMOnly (K : PySem.W.Frag) (C : Addr) : Sp := fun vs H Q _ => ∃ (x a : Addr) (L : Str) (rs sub : RsT) (A : Addr → Prop), vs = [.ref x, .ref a] ∧ MachA A H C x L rs ∧ SqA K H a ((sub.map (·.1)).map V.str) ∧ (∀ q ∈ sub, q ∈ rs) ∧ LetOk L ∧ RsOk L sub ∧ ∀ H' y, H y = none → MachA (fun b => H b = none) H' C y L sub → Same H H' → Q (.ref y) H'
abbrev NOn : List Str := ["self", "names", "name"]
theorem scMOnly : FnScope NOn ["self", "names"] (defScope sOnly) := ⟨rfl, rfl, rfl, by decide +kernel, rfl, by decide +kernel, by decide +kernel⟩
section
variable {P : Program} {w : World} {K : PySem.W.Frag} {mg : Str → Option Value} {base : Heap} {f C fI fS : Addr} {fd fdI fdS : FuncData}
theorem ok_mEqO (F : Fun K "__eq__" "Machines.__eq__" sEqM f fd) (gC : mg "Machines" = some (.ref C)) (gI : mg "isinstance" = none) : FnOk P w K mg base CX0 1 f fd ["self", "other"] (spMEqO K C) := by
  refine F.ok scMEq (fun vs H Q E h => by obtain ⟨a, y, t, e, _⟩ := h; rw [e]; rfl) fun cdv A outer s H vs Q E hr hsp => ?_
  obtain ⟨a, y, t, rfl, ty, no, hq⟩ := hsp
  refine ⟨_, pss_cons (ps_if (pt_not (pt_val (pe_callB (r := rIsi K) call_isi rfl gI boot_isi (pa_cons (pv 1) (pa_cons (pe_glob (v := .ref C) rfl gC rfl) pa_nil))))) (pss_one (ps_ret pe_bl)) pss_nil)
    (pss_one ps_never), ?_⟩
  exact ⟨_, rfl, y, .ref C, t, .ref C, false, rfl, .own C, ty, no, _, rfl, iteT hq⟩
theorem ok_mEq (F : Fun K "__eq__" "Machines.__eq__" sEqM f fd) (S : MaC K C) (IC : C8.InsC K C) (gC : mg "Machines" = some (.ref C)) (gI : mg "isinstance" = none) (gL : mg "list" = none) : FnOk P w K mg base CX0 1 f fd ["self", "other"] (spMEq C) := by
  refine F.ok scMEq (fun vs H Q E h => by obtain ⟨a, b, L1, L2, r1, r2, A1, A2, e, _⟩ := h; rw [e]; rfl) fun cdv A outer s H vs Q E hr hsp => ?_
  obtain ⟨a, b, L1, L2, r1, r2, A1, A2, rfl, ta, tb, hq⟩ := hsp
  obtain ⟨dx, da, ha, da', ea, e1, _, hda, _, pa⟩ := ta.ex
  obtain rfl := V.ref.inj e1
  obtain ⟨dy, db, hb, db', eb, e2, _, hdb, _, pb⟩ := tb.ex
  obtain rfl := V.ref.inj e2
  have hu64 := hr.units
  refine ⟨_, pss_cons (ps_if (pt_not (pt_val (pe_callB (C8.call_isC IC) rfl gI boot_isi (pa_cons (pv 1) (pa_cons (pe_glob (v := .ref C) rfl gC rfl) pa_nil))))) (pss_one (ps_ret pe_bl)) pss_nil)
    (pss_one (ps_ret (pe_and (pe_cmpR op_eq (pe_fld (pv 0) rfl) (pe_fld (pv 1) rfl) (nomark _)) (pe_one (pe_cmpR (op_eqS (α := Str × RdT) (Nat.lt_of_le_of_lt (Nat.add_le_add_left (by decide) _) hu64)) (LiI.pe_listItems rfl (pe_fld (pv 0) rfl) rfl gL boot_list') (LiI.pe_listItems rfl (pe_fld (pv 1) rfl) rfl gL boot_list') (nomark _)))))), ?_⟩
  refine ⟨_, rfl, b, dy, _, rfl, hb, _, rfl, iteF ?_⟩
  refine ⟨_, rfl, a, C, dx, _, _, rfl, ha, S.cl, S.nL, rfl, _, rfl, b, C, dy, _, _, rfl, hb, S.cl, S.nL, rfl, rfl, _, rfl, ?_⟩
  by_cases e : L1 = L2
  · rw [decide_eq_true e] at hq
    rw [decide_eq_true (congrArg V.str e)]
    refine iteT ⟨_, rfl, a, C, dx, _, _, rfl, ha, S.cl, S.nR, rfl, da, ea, rfl, hda, fun H1 p1 t1 k1 n1 _ _ o1 q1 => ?_⟩
    have k1 : Same H H1 := k1
    refine ⟨_, rfl, b, C, dy, _, _, rfl, k1 _ _ hb, S.cl, S.nR, rfl, db, eb, rfl, k1 _ _ hdb, fun H2 p2 t2 k2 n2 _ _ o2 q2 => ?_⟩
    have k2 : Same H1 H2 := k2
    have k02 := k1.trans k2
    exact ⟨p1, p2, _, _, r1, r2, _, _, rfl, rfl, k2 _ _ o1, o2, items_at (Paired.mapP q1 fun t e h => k2 _ _ h) (Paired.mapP pa fun e q h => ⟨h.1, PyD.kp h.2 fun b o a e => ⟨a, k02 _ _ e⟩⟩), items_at q2 (Paired.mapP pb fun e q h => ⟨h.1, PyD.kp h.2 fun b o a e => ⟨a, k02 _ _ e⟩⟩), hq H2 k02⟩
  · rw [decide_eq_false e] at hq
    rw [decide_eq_false (fun z => e (V.str.inj z))]
    exact iteF (hq H (Same.refl _))
theorem ok_mOr (F : Fun K "__or__" "Machines.__or__" sOr f fd) (S : MaC K C) (IC : C8.InsC K C) (M : Mk K C fI) (gC : mg "Machines" = some (.ref C)) (GI : FnOk P w K mg base CX0 5 fI fdI ["self", "letters", "readers"] (spMInit K C)) (bI : Binds K fdI ["self", "letters", "readers"] []) (gI : mg "isinstance" = none) : FnOk P w K mg base CX0 7 f fd ["self", "other"] (spMOr C) := by
  refine F.ok scMOr (fun vs H Q E h => by obtain ⟨a, b, L, r1, r2, A1, A2, e, _⟩ := h; rw [e]; rfl) fun cdv A outer s H vs Q E hr hsp => ?_
  obtain ⟨a, b, L, r1, r2, A1, A2, rfl, ta, tb, lok, ok, ne2, hq⟩ := hsp
  obtain ⟨dx, da, ha, da', ea, e1, _, hda, nda, pa⟩ := ta.ex
  obtain rfl := V.ref.inj e1
  obtain ⟨dy, db, hb, db', eb, e2, _, hdb, ndb, pb⟩ := tb.ex
  obtain rfl := V.ref.inj e2
  have nd := scMOr.nd
  have hu := hu_of (hr.mono (show 1 ≤ 6 by decide))
  refine ⟨_, pss_cons (ps_if (pt_not (pt_val (pe_callB (C8.call_isC IC) rfl gI boot_isi (pa_cons (pv 1) (pa_cons (pe_glob (v := .ref C) rfl gC rfl) pa_nil))))) (pss_one ps_never) pss_nil)
    (pss_cons (ps_if (pt_cmpR op_ne (pe_fld (pv 0) rfl) (pe_fld (pv 1) rfl) (nomark _)) (pss_one ps_never) pss_nil)
    (pss_cons (ps_lock (ps_for PassesOwn.never rfl (pi_keys (pe_fld (pv 1) rfl)) (pg_name (i := 2) nd rfl (Or.inl rfl))
      (pss_one (ps_if (pt_cmp (pc_din hu (pv 2) (pe_fld (pv 0) rfl))) (pss_one ps_never) pss_nil))))
    (pss_one (ps_ret (pe_make M GI hr rfl gC bI .nil pass0 (pa_cons (pe_fld (pv 0) rfl) (pa_cons (pe_dstar (pe_fld (pv 0) rfl) (pe_fld (pv 1) rfl)) pa_nil))))))), ?_⟩
  have nda' : ((r1.map (·.1)) ++ (r2.map (·.1))).Nodup := by
    have z := ok.nd
    rw [List.map_append] at z
    exact z
  have dis : ∀ n, n ∈ r1.map (·.1) → n ∈ r2.map (·.1) → False := fun n h1 h2 => (List.nodup_append.mp nda').2.2 n h1 n h2 rfl
  have kea : ea.map (·.1) = (r1.map (·.1)).map Sum.inr := dc_keys pa
  have keb : eb.map (·.1) = (r2.map (·.1)).map Sum.inr := dc_keys pb
  have lea : ea.length = r1.length := Paired.length pa
  have leb : eb.length = r2.length := Paired.length pb
  have n1 := ok.n1
  rw [List.length_append] at n1
  have far : da ≠ db := fun z => by
    rw [z, hdb] at hda
    have e := HO.dK.inj (Option.some.inj hda)
    rw [← e, keb] at kea
    cases r2 with
    | nil => exact ne2 rfl
    | cons q r2 =>
      have m : (Sum.inr q.1 : Key) ∈ (r1.map (·.1)).map Sum.inr := by
        rw [← kea]
        exact List.mem_cons_self
      obtain ⟨n, hn, en⟩ := List.mem_map.mp m
      obtain rfl := Sum.inr.inj en
      exact dis _ hn List.mem_cons_self
  refine ⟨_, rfl, b, dy, _, rfl, hb, _, rfl, iteF ?_⟩
  refine ⟨_, rfl, a, C, dx, _, _, rfl, ha, S.cl, S.nL, rfl, _, rfl, b, C, dy, _, _, rfl, hb, S.cl, S.nL, rfl, rfl, false, (by rw [decide_eq_true rfl]; rfl), iteF ?_⟩
  have insne : ∀ {x g : Addr} {dd : Addr} {fs : List (Str × V)} {es : List (Key × V)}, H x = some (.ins C dd fs) → H g = some (.dK es) → x ≠ g := fun h1 h2 z => by rw [z, h2] at h1; cases h1
  have abn := insne ha hdb
  have bbn := insne hb hdb
  refine ⟨db, _, hdb, trivial, fun od => ⟨_, rfl, b, C, dy, _, _, rfl, (by rw [upd_ne bbn]; exact hb), S.cl, S.nR, rfl, db, od, rfl, .inl ⟨eb, upd_same, for_it walk_keys (fun i σ H' => Same (upd H db (.frz od (.dK eb))) H' ∧ ∃ s3, σ = [some (.ref a), some (.ref b), s3]) ⟨Same.refl _, _, rfl⟩ (fun i σ H' _ h => h.1 _ _ upd_same) ?_ ?_⟩⟩⟩
  · rintro i y σ H2 H3 lt ⟨k2, s3, rfl⟩ ⟨rfl, k0, v0, ekv, rfl⟩
    obtain ⟨q, eq, hk, _⟩ := paired_get pb ekv
    have hk : k0 = Sum.inr q.1 := hk
    subst hk
    have qin := List.mem_of_getElem? eq
    have out : q.1 ∉ r1.map (·.1) := fun h => dis _ h (List.mem_map_of_mem qin)
    have none1 : valV ea (Sum.inr q.1) = none := by
      rcases val_lk pa q.1 with ⟨h, _⟩ | ⟨v, a, _, h, _⟩
      · exact h
      · rw [show lk r1 q.1 = none from lk_out out] at h; cases h
    refine ⟨_, rfl, _, rfl, a, C, dx, _, _, rfl, k2 _ _ (by rw [upd_ne abn]; exact ha), S.cl, S.nR, rfl, da, _, rfl, DGet.k (k := Sum.inr q.1) (k2 _ _ (by rw [upd_ne far]; exact hda)), ?_⟩
    rw [none1]
    exact ⟨_, rfl, iteF ⟨k2, _, rfl⟩⟩
  rintro σ H2 ⟨k2, s3, rfl⟩
  obtain ⟨e2, k02⟩ := lock_offN hdb k2
  refine ⟨e2, ?_⟩
  generalize upd H2 db (.dK eb) = H4 at k02
  refine ⟨_, rfl, a, C, dx, _, _, rfl, k02 _ _ ha, S.cl, S.nL, rfl, fun p np => ?_⟩
  have kp0 := same_new (o := .dK []) np
  have hda4 := k02 _ _ hda
  have hdb4 := k02 _ _ hdb
  have dap : da ≠ p := fun z => by rw [z, np] at hda4; cases hda4
  have dbp : db ≠ p := fun z => by rw [z, np] at hdb4; cases hdb4
  refine ⟨_, rfl, a, C, dx, _, _, rfl, kp0 _ _ (k02 _ _ ha), S.cl, S.nR, rfl, da, ea, rfl, kp0 _ _ hda4, dap, upd_same, by omega, ?_⟩
  have kp1 : Same H4 (upd (upd H4 p (.dK [])) p (.dK (mergeK [] ea))) := fun c o e => by rw [upd_ne (ne_of_none e np)]; exact kp0 _ _ e
  refine ⟨_, rfl, b, C, dy, _, _, rfl, kp1 _ _ (k02 _ _ hb), S.cl, S.nR, rfl, db, eb, rfl, kp1 _ _ hdb4, dbp, upd_same, by omega, ?_⟩
  have kab : ((ea ++ eb).map (·.1)).Nodup := by
    rw [List.map_append, kea, keb, ← List.map_append]
    exact nd_inr nda'
  have m1 : mergeK [] ea = ea := by
    have z := merge_new ea [] (by rw [List.map_append] at kab; exact (List.nodup_append.mp kab).1)
    rw [List.nil_append] at z
    exact z
  rw [m1, merge_new eb ea kab]
  have kp2 : Same H (upd (upd (upd H4 p (.dK [])) p (.dK ea)) p (.dK (ea ++ eb))) := fun c o e => by
    have := ne_of_none (k02 _ _ e) np
    rw [upd_ne this, upd_ne this, upd_ne this]
    exact k02 _ _ e
  have hp : Paired (HandR K (fun _ => True) (upd (upd (upd H4 p (.dK [])) p (.dK ea)) p (.dK (ea ++ eb)))) (ea ++ eb) (r1 ++ r2) := by
    refine paired_app (Paired.mapP pa fun e q h => ?_) (Paired.mapP pb fun e q h => ?_)
    · exact ⟨h.1, (at_rdG h.2).keep fun c o _ e => ⟨trivial, kp2 _ _ e⟩⟩
    · exact ⟨h.1, (at_rdG h.2).keep fun c o _ e => ⟨trivial, kp2 _ _ e⟩⟩
  exact made_ma (Q := fun x H' => Q (.ref x) H') lok upd_same hp ok fun H9 x nx T k9 => hq H9 x (kp2.free nx) (T.keep (fun o e => e) fun c o a e => ⟨kp2.free a, e⟩) (kp2.trans k9)
theorem ok_mOnly (F : Fun K "only" "Machines.only" sOnly f fd) (S : MaC K C) (M : Mk K C fI) (gC : mg "Machines" = some (.ref C)) (GI : FnOk P w K mg base CX0 5 fI fdI ["self", "letters", "readers"] (spMInit K C)) (bI : Binds K fdI ["self", "letters", "readers"] [])
    (mS : Meth K C "_check_some" fS) (GS : FnOk P w K mg base CX0 4 fS fdS ["self", "known"] (spMSome K C)) (bS : Binds K fdS ["self", "known"] []) : FnOk P w K mg base CX0 7 f fd ["self", "names"] (spMOnly K C) := by
  refine F.ok scMOnly (fun vs H Q E h => by obtain ⟨x, a, L, rs, sub, A1, e, _⟩ := h; rw [e]; rfl) fun cdv A outer s H vs Q E hr hsp => ?_
  obtain ⟨x, a, L, rs, sub, A1, rfl, ta, hn, sin, lok, ok, hq⟩ := hsp
  obtain ⟨dx, da, ha, da', ea, e1, _, hda, nda, pa⟩ := ta.ex
  obtain rfl := V.ref.inj e1
  have nd := scMOnly.nd
  have hu := hu_of (hr.mono (show 1 ≤ 6 by decide))
  refine ⟨_, pss_cons (ps_expr (pe_meth (pv 0) S.cl mS GS (hr.mono (by decide)) bS .nil pass0 (pa_cons (pv 1) pa_nil)))
    (pss_one (ps_ret (pe_make M GI hr rfl gC bI .nil pass0 (pa_cons (pe_fld (pv 0) rfl) (pa_cons (pe_dc (own := [("name", 2)]) (tt := tYes) (g := gName 2) (tk := tVar 2) (tv := tDGet (tFld K (tVar 0) "_readers") (tVar 2)) rfl nd (pi_seq (pv 1)) (blkOk_by (N := NOn) (sc := defScope sOnly) (by decide +kernel)) (fun _ _ _ _ _ => pg_name (i := 2) nd rfl (Or.inl rfl)) (fun _ _ _ _ _ => pts_nil) (fun _ _ _ _ _ => pv 2)
      (fun _ _ _ _ _ => pe_dget hu (pe_fld (pv 0) rfl) (pv 2) (fun _ _ => rfl))) pa_nil))))), ?_⟩
  refine ⟨_, rfl, x, dx, _, rfl, ha, rfl, _, rfl, x, a, L, rs, A1, sub.map (·.1), rfl, ta, hn, ok.nd, fun n h => ?_, by rw [List.length_map]; exact ok.n0, by rw [List.length_map]; exact ok.n1, fun H1 k1 => ?_⟩
  · obtain ⟨q, hq, rfl⟩ := List.mem_map.mp h
    exact List.mem_map_of_mem (sin q hq)
  have n1 := ok.n1
  have core : ∀ J : It, (∀ i H', Same H1 H' → i < sub.length → J.go i H') → (∀ H', Same H1 H' → J.stop sub.length H') → (∀ i H2 v H3, Same H1 H2 → J.yld i H2 v H3 → H3 = H2 ∧ ((sub.map (·.1)).map V.str)[i]? = some v) →
      DcW J (gName 2) tYes (tVar 2) (tDGet (tFld K (tVar 0) "_readers") (tVar 2)) [2] (start NOn [V.ref x, V.ref a]) H1 (fun D H2 => H1 D = none ∧ Same H1 H2 ∧ ∃ es, H2 D = some (.dK es) ∧ Paired (HandR K (fun _ => True) H2) es sub) := by
    intro J go stop yld
    refine dc_madeN ((sub.map (·.1)).map Sum.inr) (by rw [List.length_map, List.length_map]; omega) (nd_inr ok.nd) (fun i H' s lt => go i H' s (by rw [List.length_map, List.length_map] at lt; exact lt)) (fun H' s => by rw [List.length_map, List.length_map]; exact stop H' s)
      (fun i y _ => ∃ q, sub[i]? = some q ∧ valV ea (Sum.inr q.1) = some y) (fun i y H6 H7 D l h _ _ => h) ?_ ?_
    · rintro i y k H6 H7 Cn Nn ek s6 yl yes
      obtain ⟨rfl, ey⟩ := yld _ _ _ _ s6 yl
      rw [List.getElem?_map, List.getElem?_map] at ek ey
      cases eq : sub[i]? with
      | none => rw [eq] at ek; cases ek
      | some q =>
        rw [eq] at ek ey
        obtain rfl : Sum.inr q.1 = k := Option.some.inj ek
        obtain rfl : V.str q.1 = y := Option.some.inj ey
        obtain ⟨v, ev, _⟩ := rs_val pa nda (sin q (List.mem_of_getElem? eq))
        refine ⟨rfl, _, rfl, _, rfl, x, C, dx, _, _, rfl, s6 _ _ (k1 _ _ ha), S.cl, S.nR, rfl, _, rfl, da, _, rfl, .inl ⟨ea, Sum.inr q.1, .inl (s6 _ _ (k1 _ _ hda)), rfl, ev.symm⟩, yes _ _ ⟨q, eq, ev⟩ (Same.refl _)⟩
    · intro H6 D kvs nD oD ek2 hR s6
      refine ⟨nD, s6, kvs, oD, paired_of _ _ (by have z := congrArg List.length ek2; rw [List.length_map, List.length_map, List.length_map] at z; exact z) fun j e q e1 e2 => ?_⟩
      obtain ⟨q', e3, ev⟩ := hR j e.1 e.2 e1
      rw [e2] at e3
      obtain rfl := Option.some.inj e3
      have z := congrArg (fun l => l[j]?) ek2
      simp only [List.getElem?_map, e1, e2, Option.map_some] at z
      obtain ⟨v, ev2, at2⟩ := rs_val pa nda (sin q (List.mem_of_getElem? e2))
      rw [ev2] at ev
      refine ⟨Option.some.inj z, ?_⟩
      rw [← Option.some.inj ev]
      exact (at_rdG at2).keep fun c o _ e => ⟨trivial, s6 _ _ (k1 _ _ e)⟩
  have fin : ∀ D H2, (H1 D = none ∧ Same H1 H2 ∧ ∃ es, H2 D = some (.dK es) ∧ Paired (HandR K (fun _ => True) H2) es sub) → ∀ z dz, H2 z = none → H2 dz = none → dz ≠ z → spMInit K C (.ref z :: ([.str L, .ref D] ++ [])) (upd (upd H2 dz (.own z)) z (.ins C dz [])) (fun v H3 => v = .non ∧ Q (.ref z) H3) E0 := by
    rintro D H2 ⟨nD, k2, es, oD, hp⟩
    have k02 := k1.trans k2
    exact made_ma (Q := fun x H' => Q (.ref x) H') lok oD hp ok fun H9 z nz T k9 => hq H9 z (k02.free nz) (T.keep (fun o e => e) fun c o a e => ⟨k02.free a, e⟩) (k02.trans k9)
  have hn1 := hn.same k1
  rcases hn1 with h | h
  · refine ⟨_, rfl, x, C, dx, _, _, rfl, k1 _ _ ha, S.cl, S.nL, rfl, _, rfl, a, (sub.map (·.1)).map V.str, rfl, .inl ⟨SqL.of h, fun D nD => ?_⟩⟩
    have z := core (Itl K a) (fun i H' s lt => ⟨_, _, SqL.of (s _ _ h), List.getElem?_eq_getElem (by rw [List.length_map, List.length_map]; exact lt)⟩) (fun H' s => ⟨_, SqL.of (s _ _ h), by rw [List.length_map, List.length_map]; exact Nat.le_refl _⟩) (fun i H2 v H3 s y => ⟨y.1, y.2 _ (SqL.of (s _ _ h))⟩) D nD
    exact dcw_mono z (fun H' q => fin D H' q)
  · refine ⟨_, rfl, x, C, dx, _, _, rfl, k1 _ _ ha, S.cl, S.nL, rfl, _, rfl, a, (sub.map (·.1)).map V.str, rfl, .inr ⟨SqT.of h, fun D nD => ?_⟩⟩
    have z := core (Itt K a) (fun i H' s lt => ⟨_, _, SqT.of (s _ _ h), List.getElem?_eq_getElem (by rw [List.length_map, List.length_map]; exact lt)⟩) (fun H' s => ⟨_, SqT.of (s _ _ h), by rw [List.length_map, List.length_map]; exact Nat.le_refl _⟩) (fun i H2 v H3 s y => ⟨y.1, y.2 _ (SqT.of (s _ _ h))⟩) D nD
    exact dcw_mono z (fun H' q => fin D H' q)
end
end L2.TB
/-! zip of a list and a tuple -/
namespace L2.TB
open PySem PySem.Spec PyProof.Rows RZ
def ItzM (K : PySem.W.Frag) (a b : Addr) : It :=
  ⟨fun i G => ∃ (ls ts : List V) (p q : V), SqL K G a ls ∧ SqT K G b ts ∧ ls[i]? = some p ∧ ts[i]? = some q,
    fun i G v G2 => ∃ T p q, v = .ref T ∧ G T = none ∧ G2 = upd G T (.tup [p, q]) ∧ (∀ ls, SqL K G a ls → ls[i]? = some p) ∧ ∀ ts, SqT K G b ts → ts[i]? = some q,
    fun i G => ∃ ls ts : List V, SqL K G a ls ∧ SqT K G b ts ∧ i ≤ ls.length ∧ i ≤ ts.length ∧ (i = ls.length ∨ i = ts.length)⟩
theorem turn_zipM {P : Program} {w : World} {K : PySem.W.Frag} {elts : List Expr} {kk : Nat} {tpos : Pos} {a b z TI TO j1 j2 : Addr} (D : ZipSep2 z TI TO j1 j2 [j1, a] [j2, b]) :
    Turn P w K (.Tuple elts kk tpos) (ItzM K a b) [z, TI, TO, j1, j2] z (fun i h => IsZip h z TI TO .none ∧ IsPair h TI (.ref j1) (.ref j2) ∧ (∃ p q, IsPair h TO p q) ∧ h.IsListIter j1 a i ∧ h.IsTupleIter j2 b i) where
  mem := by simp
  obj := fun i h st c hc => by
    obtain ⟨g1, g2, ⟨p, q, g3⟩, ⟨o1, e1, _, d1⟩, ⟨o2, e2, _, d2⟩⟩ := st
    have five : c = z ∨ c = TI ∨ c = TO ∨ c = j1 ∨ c = j2 := by simpa using hc
    rcases five with m | m | m | m | m
    · rw [m]; exact ⟨_, g1, fun v x => nomatch x⟩
    · rw [m]; exact ⟨_, g2, fun v x => nomatch x⟩
    · rw [m]; exact ⟨_, g3, fun v x => nomatch x⟩
    · rw [m]; exact ⟨o1, e1, fun v x => by rw [d1] at x; cases x⟩
    · rw [m]; exact ⟨o2, e2, fun v x => by rw [d2] at x; cases x⟩
  keep := fun i h h2 st k => by
    obtain ⟨g1, g2, ⟨p, q, g3⟩, g4, g5⟩ := st
    exact ⟨k z (by simp) _ g1, k TI (by simp) _ g2, ⟨p, q, k TO (by simp) _ g3⟩, g4.at fun o m => k j1 (by simp) o m, g5.at fun o m => k j2 (by simp) o m⟩
  item := by
    intro X e1 e2 e3 calm i pins s σ G E I hf st hg
    subst e1 e2 e3
    obtain ⟨g1, g2, ⟨p0, q0, g3⟩, g4, g5⟩ := st
    obtain ⟨ls, ts, p, q, sl, stt, hp, hq⟩ := hg
    obtain ⟨us, rv, pl, _⟩ := I.list sl
    obtain ⟨ws, rv2, pt, _⟩ := I.tuple stt
    obtain ⟨u, hu, ru⟩ := rv.get hp
    obtain ⟨u2, hu2, ru2⟩ := rv2.get hq
    have zlt : z < s.heap.objs.size := Heap.lt_size g1
    have n1 : a ≠ j1 := fun m => by
      obtain ⟨o, eo, c1, _⟩ := g4
      obtain ⟨o', eo', c2, _⟩ := pl.isList
      rw [← m, eo'] at eo
      obtain rfl := Option.some.inj eo
      rw [c2] at c1
      exact absurd (Value.type.inj c1) (by decide)
    have n2 : b ≠ j2 := fun m => by
      obtain ⟨o, eo, c1, _⟩ := g5
      obtain ⟨o', eo', c2, _⟩ := (show s.heap.IsTuple b ws.toArray from pt)
      rw [← m, eo'] at eo
      obtain rfl := Option.some.inj eo
      rw [c2] at c1
      exact absurd (Value.type.inj c1) (by decide)
    have lu : i < us.length := (List.getElem?_eq_some_iff.mp hu).1
    have lw : i < ws.length := (List.getElem?_eq_some_iff.mp hu2).1
    refine wpAny_pyNext_zipD2_item D (Draws.list (A := X.A.in1) (show X.A.in1.handled = none from I.ok.hd calm) j1 a n1 us.toArray) (Draws.tuple (A := X.A.in1) (show X.A.in1.handled = none from I.ok.hd calm) j2 b n2 ws.toArray) g1 g2 g3 ⟨g4, pl.isList⟩ ⟨g5, pt⟩ (by simpa using lu) (by simpa using lw) fun x1 x2 h2 tk y1 y2 b1 b2 d1 d2 b5 b6 hk => ?_
    obtain rfl : x1 = u := by
      have y1 : us.toArray[i]? = some x1 := y1
      rw [List.getElem?_toArray, hu] at y1
      exact (Option.some.inj y1).symm
    obtain rfl : x2 = u2 := by
      have y2 : ws.toArray[i]? = some x2 := y2
      rw [List.getElem?_toArray, hu2] at y2
      exact (Option.some.inj y2).symm
    refine ⟨_, rfl, wpAny_letOwnedTupleGo_zip (s := { s with heap := h2, toks := tk }) b1 fun h3 z3 sb => ?_⟩
    have hT : h3.get? s.heap.objs.size = some { cls := .type "tuple", data := .seq #[x1, x2] } := (sb.2 _ (Nat.ne_of_gt zlt)).trans b5
    have new : ObjOk X.prog X.w (upd G s.heap.objs.size (.tup [p, q])) h3 s.heap.objs.size (.tup [p, q]) :=
      ⟨by show 2 ≤ sizeLine; decide, [x1, x2], .cons ru (.cons ru2 .nil), ⟨_, hT, rfl, _, rfl⟩⟩
    have I1 : Inv X pins σ (upd G s.heap.objs.size (.tup [p, q])) { s with heap := h3, toks := tk } :=
      I.turnedNew (t' := tk) (ch := [z, TI, TO, j1, j2]) (fun c o m e => (sb.2 c (fun y => m (by simp [y]))).trans (hk c o (fun y => m (by simp [y])) (fun y => m (by simp [y])) (fun y => m (by simp [y])) (fun y => m (by simp [y])) e)) hf (Nat.le_refl _) new
    refine ⟨.ref s.heap.objs.size, _, I1, rfl, ⟨_, p, q, rfl, I.hok.fresh (Nat.le_refl _), rfl, fun l hl => by rw [I.list_inj hl sl]; exact hp, fun l hl => by rw [I.tuple_inj hl stt]; exact hq⟩, ⟨z3, ?_, ⟨x1, x2, ?_⟩, ?_, ?_⟩, fun c hcm => ?_⟩
    · exact (sb.2 _ D.TIz).trans (hk _ _ D.TIz D.TITO D.TIi1 D.TIi2 g2)
    · exact (sb.2 _ D.TOz).trans b2
    · exact d1.1.at fun o m => (sb.2 _ (Ne.symm D.zi1)).trans m
    · exact d2.1.at fun o m => (sb.2 _ (Ne.symm D.zi2)).trans m
    · have below : c < s.heap.objs.size := by
        have five : c = z ∨ c = TI ∨ c = TO ∨ c = j1 ∨ c = j2 := by simpa using hcm
        rcases five with m | m | m | m | m
        · rw [m]; exact zlt
        · rw [m]; exact Heap.lt_size g2
        · rw [m]; exact Heap.lt_size g3
        · rw [m]; obtain ⟨_, e1, _⟩ := g4; exact Heap.lt_size e1
        · rw [m]; obtain ⟨_, e2, _⟩ := g5; exact Heap.lt_size e2
      rw [upd_ne (Nat.ne_of_lt below)]
      exact (hf c hcm).1
  done := by
    intro X e1 e2 e3 calm i pins s σ G E I hf st hg
    subst e1 e2 e3
    obtain ⟨g1, g2, ⟨p0, q0, g3⟩, g4, g5⟩ := st
    obtain ⟨ls, ts, sl, stt, le1, le2, fin⟩ := hg
    obtain ⟨us, rv, pl, _⟩ := I.list sl
    obtain ⟨ws, rv2, pt, _⟩ := I.tuple stt
    have l1 := rv.length
    have l2 := rv2.length
    have n1 : a ≠ j1 := fun m => by
      obtain ⟨o, eo, c1, _⟩ := g4
      obtain ⟨o', eo', c2, _⟩ := pl.isList
      rw [← m, eo'] at eo
      obtain rfl := Option.some.inj eo
      rw [c2] at c1
      exact absurd (Value.type.inj c1) (by decide)
    have n2 : b ≠ j2 := fun m => by
      obtain ⟨o, eo, c1, _⟩ := g5
      obtain ⟨o', eo', c2, _⟩ := (show s.heap.IsTuple b ws.toArray from pt)
      rw [← m, eo'] at eo
      obtain rfl := Option.some.inj eo
      rw [c2] at c1
      exact absurd (Value.type.inj c1) (by decide)
    refine wpAny_pyNext_zipD2_end D (Draws.list (A := X.A.in1) (show X.A.in1.handled = none from I.ok.hd calm) j1 a n1 us.toArray) (Draws.tuple (A := X.A.in1) (show X.A.in1.handled = none from I.ok.hd calm) j2 b n2 ws.toArray) g1 g2 g3 ⟨g4, pl.isList⟩ ⟨g5, pt⟩ (by rw [List.size_toArray]; omega) (by rw [List.size_toArray]; omega) (by rw [List.size_toArray, List.size_toArray]; omega) fun h2 tk hk => ?_
    exact ⟨rfl, I.turnedL (t' := tk) (ch := [z, TI, TO, j1, j2]) (fun c o m e =>
      hk c o (fun y => m (by simp [y])) (fun y => m (by simp [y])) (fun y => m (by simp [y])) (fun y => m (by simp [y])) e) hf⟩
  self := fun A i s Q E st h => wpAny_pyIter_zip st.1 h
def iZipM (K : PySem.W.Frag) (ta : TA) : TI := fun σ G R => ta σ G fun vs G1 => ∃ a b ls ts, vs = [.ref a, .ref b] ∧ SqL K G1 a ls ∧ SqT K G1 b ts ∧ R (ItzM K a b) G1
theorem pi_zipM {X : Cx} {e1 e2 : Expr} {ta : TA} {p pos tpos : Pos} {elts : List Expr} {kk : Nat} (gz : Gl X "zip") (nz : X.mg "zip" = none) (ha : PA X [e1, e2] ta)
    (plain : starEach [e1, e2] X.env = (false, eval e1 X.env) :: starEach [e2] X.env := by rfl) (few : (backTo pos (starEach [e2] X.env)).any (·.1) = false := by rfl) :
    PI X (.Tuple elts kk tpos) (.Call (.Name "zip" p) [e1, e2] [] pos) (iZipM X.K ta) := by
  refine ⟨fun pins s σ G R inv reading => ?_⟩
  refine Call_ (ld_blt inv gz nz PyProof.Rows.boot_zip (PyProof.Rows.callWith_type1 (thn (ha.run pos pins s σ G _ inv reading) fun us s1 ⟨vs, G1, I1, r1, a, b, ls, ts, ev, sl, stt, q⟩ => ?_) plain few))
  subst ev
  cases r1 with
  | cons r more =>
    cases more with
    | cons r' more =>
      cases more
      cases r
      cases r'
      obtain ⟨us, rv, pl, _⟩ := I1.list sl
      obtain ⟨ws, rv2, pt, _⟩ := I1.tuple stt
      have al : a < s1.heap.objs.size := pl.lt
      have bl : b < s1.heap.objs.size := by
        obtain ⟨o, eo, _⟩ := (show s1.heap.IsTuple b ws.toArray from pt)
        exact Heap.lt_size eo
      have five : ∀ c, c ∈ [s1.heap.objs.size + 4, s1.heap.objs.size + 2, s1.heap.objs.size + 3, s1.heap.objs.size, s1.heap.objs.size + 1] → FpOk X pins G1 c := fun c hc => by
        have low : s1.heap.objs.size ≤ c := by
          have z : c = s1.heap.objs.size + 4 ∨ c = s1.heap.objs.size + 2 ∨ c = s1.heap.objs.size + 3 ∨ c = s1.heap.objs.size ∨ c = s1.heap.objs.size + 1 := by simpa using hc
          have : ∀ n k : Nat, n ≤ n + k := fun n k => Nat.le_add_right n k
          rcases z with z | z | z | z | z <;> rw [z]
          · exact this _ _
          · exact this _ _
          · exact this _ _
          · exact Nat.le_refl _
          · exact this _ _
        exact I1.fpOk low (I1.hok.fresh low)
      refine zip_begins2 (begins_list a us.toArray) (begins_tuple b ws.toArray) pl.isList pt fun h2 b1 b2 b3 b4 b5 b6 hk => wpAny_pyIter_zip b1 ?_
      have I2 : Inv X pins σ G1 { s1 with heap := h2 } := I1.kept (t' := s1.toks) hk
      have sep : ZipSep2 (s1.heap.objs.size + 4) (s1.heap.objs.size + 2) (s1.heap.objs.size + 3) s1.heap.objs.size (s1.heap.objs.size + 1) [s1.heap.objs.size, a] [s1.heap.objs.size + 1, b] :=
        zip_sep2 (fun c hc => by rw [List.mem_singleton.mp hc]; exact al) (fun c hc => by rw [List.mem_singleton.mp hc]; exact bl)
      exact ⟨s1.heap.objs.size + 4, [s1.heap.objs.size + 4, s1.heap.objs.size + 2, s1.heap.objs.size + 3, s1.heap.objs.size, s1.heap.objs.size + 1], _, _, G1, rfl, I2, turn_zipM sep, ⟨b1, b2, ⟨_, _, b3⟩, ⟨_, b4, rfl, rfl⟩, ⟨_, b5, rfl, rfl⟩⟩, five, q⟩
end L2.TB
/-! dicts whose keys are of several kinds: found, read, stored -/
namespace L2.MK
open PySem PySem.Spec PyProof.Rows SeqAt
/-- the entries' keys -/
structure Ents (w : World) (h : Heap) (es : Array DictEntry) (ks : List NestedKey) : Prop where
  len : es.size = ks.length
  is_ : ∀ (i : Nat) (e : DictEntry) (k : NestedKey), es[i]? = some e → ks[i]? = some k → NestedIs h k e.key ∧ e.hash = k.hash w
  nd : ks.Nodup
  dp : ∀ k ∈ ks, k.depth ≤ 8
section
variable {prog : Program} {w : World} {A : Around} {E : Value → Shared → Prop} {s : Shared} {d : Addr} {o : Obj} {es : Array DictEntry} {ep : Nat} {ks : List NestedKey} {k : NestedKey} {key : Value}
theorem Ents.keyAt (he : Ents w s.heap es ks) {i : Nat} {e : DictEntry} (h : es[i]? = some e) : ∃ k, ks[i]? = some k ∧ NestedIs s.heap k e.key ∧ e.hash = k.hash w ∧ k.depth ≤ 8 := by
  have lt : i < ks.length := by rw [← he.len]; exact (Array.getElem?_eq_some_iff.mp h).1
  obtain ⟨a, b⟩ := he.is_ i e ks[i] h (List.getElem?_eq_getElem lt)
  exact ⟨_, List.getElem?_eq_getElem lt, a, b, he.dp _ (List.getElem_mem lt)⟩
theorem Ents.ent (he : Ents w s.heap es ks) {i : Nat} (h : ks[i]? = some k) : ∃ e, es[i]? = some e ∧ NestedIs s.heap k e.key ∧ e.hash = k.hash w := by
  have lt : i < es.size := by rw [he.len]; exact (List.getElem?_eq_some_iff.mp h).1
  obtain ⟨a, b⟩ := he.is_ i es[i] k (Array.getElem?_eq_getElem lt) h
  exact ⟨_, Array.getElem?_eq_getElem lt, a, b⟩
/-- a stored key asked whether it is key -/
theorem eq_key (hu : A.units + 8 < cLine) {x y : NestedKey} {u v : Value} {Q : Bool → Shared → Prop} (hx : NestedIs s.heap x u) (hy : NestedIs s.heap y v) (dx : x.depth ≤ 8) (h : Q (decide (x = y)) s) : wpAny (model prog w) A (eqBool u v) Q E s := by
  rw [NestedKey.decide_eq] at h
  exact eqAt_key x y A s u v hx hy (by omega) prog w E Q h
theorem nk_tell {stored : List Value} {Q : Bool → Shared → Prop} (hk : NestedIs s.heap k key) (hd8 : k.depth ≤ 8) (hst : ∀ v ∈ stored, ∃ k' : NestedKey, NestedIs s.heap k' v ∧ k'.depth ≤ 8) (h : Q false s) : wpAny (model prog w) A (tableMayTell key stored) Q E s := by
  unfold tableMayTell
  by_cases h0 : stored.isEmpty = true
  · rw [if_pos h0]; exact wpAny_pure h
  rw [if_neg h0]
  refine wpAny_bind (quiet_key k key 8 s hk hd8 A E _ ?_)
  rw [if_neg (by decide)]
  refine wpAny_bind (wpAny_forIn_list _ (fun rest r s' => s' = s ∧ r = (none, ()) ∧ ∀ v ∈ rest, ∃ k' : NestedKey, NestedIs s.heap k' v ∧ k'.depth ≤ 8) _ ?_ ?_ _ _ ⟨rfl, rfl, hst⟩)
  · rintro x rest r s' ⟨rfl, rfl, al⟩
    obtain ⟨k', hx, hd⟩ := al x (by simp)
    refine wpAny_bind (quiet_key k' x 8 s' hx hd A E _ ?_)
    rw [if_neg (by decide)]
    exact wpAny_pure ⟨rfl, rfl, fun v hv => al v (List.mem_cons_of_mem _ hv)⟩
  · rintro r s' ⟨rfl, rfl, _⟩
    exact wpAny_pure h
theorem places_mem {n : Nat} {f : Nat → Option Int} {h : Int} {i : Nat} : i ∈ placesWithHash n f h ↔ i < n ∧ f i = some h := by
  unfold placesWithHash
  rw [List.mem_filter, List.mem_range, beq_iff_eq]
theorem places_nodup {n : Nat} {f : Nat → Option Int} {h : Int} : (placesWithHash n f h).Nodup := List.Pairwise.filter _ List.nodup_range
/-- the general walk, behind the looks at the key -/
theorem fin_ {Q : Option Nat → Shared → Prop} (hu : A.units + 8 < cLine) (ho : s.heap.get? d = some o) (hd : o.data = .dict es ep) (he : Ents w s.heap es ks) (hk : NestedIs s.heap k key) (hd8 : k.depth ≤ 8) (hnone : k ∉ ks → Q none s) (hsome : ∀ j, ks[j]? = some k → Q (some j) s)
    (pm : ∀ {i : Nat}, i ∈ placesWithHash es.size (fun i => es[i]?.map (·.hash)) (k.hash w) → ∃ e k', es[i]? = some e ∧ ks[i]? = some k' ∧ NestedIs s.heap k' e.key ∧ e.hash = k.hash w ∧ k'.depth ≤ 8)
    (mp : ∀ j : Nat, ks[j]? = some k → j ∈ placesWithHash es.size (fun i => es[i]?.map (·.hash)) (k.hash w)) (none_of : (∀ j : Nat, ks[j]? ≠ some k) → k ∉ ks) (one : ∀ {i j : Nat}, ks[i]? = some k → ks[j]? = some k → i = j)
    (all_st : ∀ v ∈ (placesWithHash es.size (fun i => es[i]?.map (·.hash)) (k.hash w)).filterMap (fun i => es[i]?.map (·.key)), ∃ k' : NestedKey, NestedIs s.heap k' v ∧ k'.depth ≤ 8) :
    wpAny (model prog w) A (do
      let tells ← if (placesWithHash es.size (fun i => es[i]?.map (·.hash)) (k.hash w)).filterMap (fun i => es[i]?.map (·.key)) == [key] then pure false else tableMayTell key ((placesWithHash es.size (fun i => es[i]?.map (·.hash)) (k.hash w)).filterMap (fun i => es[i]?.map (·.key)))
      if tells && ((placesWithHash es.size (fun i => es[i]?.map (·.hash)) (k.hash w)).filterMap (fun i => es[i]?.map (·.key))).length ≥ 2 then unsupported "dict.find:order-among-keys-of-one-hash"
      let mut hit : Option Nat := none
      for i in placesWithHash es.size (fun i => es[i]?.map (·.hash)) (k.hash w) do
        if let some e := es[i]? then
          if e.hash == k.hash w then
            let before ← dictEpoch d (keyPart key)
            let same ← eqBool e.key key
            if (← dictEpoch d (keyPart key)) != before then unsupported "dict.changed-during-lookup"
            if same then
              if hit.isSome then unsupported "dict.find:order-among-keys-of-one-hash"
              rule "dict.find.hit"
              if ((placesWithHash es.size (fun i => es[i]?.map (·.hash)) (k.hash w)).filterMap (fun i => es[i]?.map (·.key))).length < 2 then return some i
              hit := some i
            else
              rule "dict.find.same-hash-other-key"
              if tells && !(0 ≤ k.hash w && k.hash w < 32) then unsupported "dict.find:asked-again-or-not-hangs-on-the-table"
      return hit : Sem (Option Nat)) Q E s := by
  by_cases hone : ((placesWithHash es.size (fun i => es[i]?.map (·.hash)) (k.hash w)).filterMap (fun i => es[i]?.map (·.key)) == [key]) = true <;>
  (dsimp only; first | rw [if_pos hone] | rw [if_neg hone]) <;> (first | refine wpAny_bind (wpAny_pure ?_) | refine wpAny_bind (nk_tell hk hd8 all_st ?_)) <;> (
    try dsimp only
    rw [if_neg (by simp)]
    refine wpAny_bind (wpAny_forIn_list _ (fun rest b s' => s' = s ∧ ∃ hit, b = (none, hit) ∧ rest.Nodup ∧ (∀ i ∈ rest, i ∈ placesWithHash es.size (fun i => es[i]?.map (·.hash)) (k.hash w)) ∧
      ((hit = none ∧ ∀ j, ks[j]? = some k → j ∈ rest) ∨ ∃ j, hit = some j ∧ ks[j]? = some k ∧ j ∉ rest)) _ ?_ ?_ _ _ ⟨rfl, none, rfl, places_nodup, fun _ h => h, .inl ⟨rfl, mp⟩⟩)
    · rintro x rest b s' ⟨rfl, hit, rfl, nd, sub, hH⟩
      obtain ⟨e, k', ee, ek, hx, eh, dk⟩ := pm (sub x (by simp))
      rw [List.nodup_cons] at nd
      have sub' : ∀ i ∈ rest, i ∈ placesWithHash es.size (fun i => es[i]?.map (·.hash)) (k.hash w) := fun i hi => sub i (List.mem_cons_of_mem _ hi)
      rw [ee]
      dsimp only
      rw [if_pos (by rw [eh]; exact beq_self_eq_true _)]
      refine wpAny_bind (wpAny_dictEpoch ho hd (wpAny_bind (eq_key hu hx hk dk (wpAny_bind (wpAny_dictEpoch ho hd ?_)))))
      show wpAny _ _ (if (ep != ep) = true then _ else _) _ E _
      rw [if_neg (by simp)]
      by_cases hkk : k' = k
      · subst hkk
        rw [decide_eq_true rfl]
        rcases hH with ⟨rfl, al⟩ | ⟨j, rfl, hj, nj⟩
        · rw [if_pos rfl, if_neg (by simp)]
          refine wpAny_bind (wpAny_rule ?_)
          split
          · exact wpAny_pure (wpAny_pure (hsome x ek))
          · exact wpAny_pure ⟨rfl, some x, rfl, nd.2, sub', .inr ⟨x, rfl, ek, nd.1⟩⟩
        · exact absurd (by rw [one hj ek]; simp) nj
      · rw [decide_eq_false hkk, if_neg (by simp)]
        refine wpAny_bind (wpAny_rule ?_)
        rw [if_neg (by simp)]
        refine wpAny_pure ⟨rfl, hit, rfl, nd.2, sub', ?_⟩
        rcases hH with ⟨rfl, al⟩ | ⟨j, rfl, hj, nj⟩
        · refine .inl ⟨rfl, fun j hj => ?_⟩
          rcases List.mem_cons.mp (al j hj) with z | z
          · rw [z, ek] at hj; exact absurd (Option.some.inj hj) hkk
          · exact z
        · exact .inr ⟨j, rfl, hj, fun z => nj (List.mem_cons_of_mem _ z)⟩
    · rintro b s' ⟨rfl, hit, rfl, _, _, hH⟩
      rcases hH with ⟨rfl, al⟩ | ⟨j, rfl, hj, _⟩
      · exact wpAny_pure (hnone (none_of fun j hj => by cases al j hj))
      · exact wpAny_pure (hsome j hj))
/-- key is looked for -/
theorem nk_find {Q : Option Nat → Shared → Prop} (hu : A.units + 8 < cLine) (hk : NestedIs s.heap k key) (hd8 : k.depth ≤ 8) (ho : s.heap.get? d = some o) (hd : o.data = .dict es ep) (he : Ents w s.heap es ks) (hnone : k ∉ ks → Q none s) (hsome : ∀ j, ks[j]? = some k → Q (some j) s) :
    wpAny (model prog w) A (dictFind d key (k.hash w)) Q E s := by
  have pm : ∀ {i : Nat}, i ∈ placesWithHash es.size (fun i => es[i]?.map (·.hash)) (k.hash w) → ∃ e k', es[i]? = some e ∧ ks[i]? = some k' ∧ NestedIs s.heap k' e.key ∧ e.hash = k.hash w ∧ k'.depth ≤ 8 := fun {i} hi => by
    obtain ⟨lt, eq⟩ := places_mem.mp hi
    obtain ⟨e, ee, eh⟩ := Option.map_eq_some_iff.mp eq
    obtain ⟨k', a, b, c, d⟩ := he.keyAt ee
    exact ⟨e, k', ee, a, b, eh, d⟩
  have mp : ∀ j, ks[j]? = some k → j ∈ placesWithHash es.size (fun i => es[i]?.map (·.hash)) (k.hash w) := fun j hj => by
    obtain ⟨e, ee, _, eh⟩ := he.ent hj
    exact places_mem.mpr ⟨(Array.getElem?_eq_some_iff.mp ee).1, by rw [ee, Option.map_some, eh]⟩
  have one : ∀ {i j : Nat}, ks[i]? = some k → ks[j]? = some k → i = j := fun {i j} a b => (List.getElem?_inj (List.getElem?_eq_some_iff.mp a).1 he.nd).mp (a.trans b.symm)
  have none_of : (∀ j, ks[j]? ≠ some k) → k ∉ ks := fun h m => by
    obtain ⟨j, hj⟩ := List.mem_iff_getElem?.mp m
    exact h j hj
  have plain : wpAny (model prog w) A (dictWalkPlain d key (k.hash w) es (placesWithHash es.size (fun i => es[i]?.map (·.hash)) (k.hash w))) Q E s := by
    unfold dictWalkPlain
    refine wpAny_bind (wpAny_forIn_list _ (fun rest b s' => s' = s ∧ b = (none, ()) ∧ (∀ i ∈ rest, i ∈ placesWithHash es.size (fun i => es[i]?.map (·.hash)) (k.hash w)) ∧ ∀ j, ks[j]? = some k → j ∈ rest) _ ?_ ?_ _ _ ⟨rfl, rfl, fun _ h => h, mp⟩)
    · rintro x rest b s' ⟨rfl, rfl, sub, al⟩
      obtain ⟨e, k', ee, ek, hx, eh, dk⟩ := pm (sub x (by simp))
      rw [ee]
      dsimp only
      rw [if_pos (by rw [eh]; exact beq_self_eq_true _)]
      refine wpAny_bind (wpAny_dictEpoch ho hd (wpAny_bind (eq_key hu hx hk dk (wpAny_bind (wpAny_dictEpoch ho hd ?_)))))
      show wpAny _ _ (if (ep != ep) = true then _ else _) _ E _
      rw [if_neg (by simp)]
      by_cases hkk : k' = k
      · subst hkk
        rw [decide_eq_true rfl]
        exact wpAny_bind (wpAny_rule (wpAny_pure (wpAny_pure (hsome x ek))))
      · rw [decide_eq_false hkk]
        refine wpAny_bind (wpAny_rule (wpAny_pure ⟨rfl, rfl, fun i hi => sub i (List.mem_cons_of_mem _ hi), fun j hj => ?_⟩))
        rcases List.mem_cons.mp (al j hj) with z | z
        · rw [z, ek] at hj; exact absurd (Option.some.inj hj) hkk
        · exact z
    · rintro b s' ⟨rfl, rfl, _, al⟩
      exact wpAny_pure (hnone (none_of fun j hj => by cases al j hj))
  have all_st : ∀ v ∈ (placesWithHash es.size (fun i => es[i]?.map (·.hash)) (k.hash w)).filterMap (fun i => es[i]?.map (·.key)), ∃ k' : NestedKey, NestedIs s.heap k' v ∧ k'.depth ≤ 8 := fun v hv => by
    obtain ⟨i, hi, ev⟩ := List.mem_filterMap.mp hv
    obtain ⟨e, k', ee, _, hx, _, dk⟩ := pm hi
    rw [ee] at ev
    obtain rfl : e.key = v := by simpa using ev
    exact ⟨k', hx, dk⟩
  have keys_in : ∀ e ∈ es, ∃ k' : NestedKey, NestedIs s.heap k' e.key ∧ e.hash = k'.hash w := fun e hm => by
    obtain ⟨i, hi, rfl⟩ := Array.mem_iff_getElem.mp hm
    obtain ⟨k', _, a, b, _⟩ := he.keyAt (Array.getElem?_eq_getElem hi)
    exact ⟨k', a, b⟩
  unfold dictFind
  try with_reducible refine wpAny_holding ?_
  refine wpAny_bind (wpAny_dictEntries ho hd ?_)
  dsimp only
  by_cases hall : ((key :: (placesWithHash es.size (fun i => es[i]?.map (·.hash)) (k.hash w)).filterMap (fun i => es[i]?.map (·.key))).all carriedByValue) = true
  · rw [if_pos hall]
    split
    next x t =>
      split
      next hs =>
        cases hk with
        | text x t =>
          unfold foundByValue
          cases hf : es.findIdx? (fun e => e.key.isStr x) with
          | none =>
            refine wpAny_pure (hnone (none_of fun j hj => ?_))
            obtain ⟨e, ee, ke, _⟩ := he.ent hj
            have z := Array.findIdx?_eq_none_iff.mp hf e (Array.mem_of_getElem? ee)
            generalize e.key = u at ke z
            cases ke
            simp [Value.isStr] at z
          | some i =>
            obtain ⟨lt, yes, _⟩ := Array.findIdx?_eq_some_iff_getElem.mp hf
            obtain ⟨k', ek, hx, _, dk⟩ := he.keyAt (Array.getElem?_eq_getElem lt)
            have e2 : k' = .text x := by
              generalize es[i].key = u at yes hx
              cases hx with
              | text y t2 => simp [Value.isStr] at yes; rw [yes]
              | none => cases yes
              | bool _ => cases yes
              | int _ _ => cases yes
              | tup _ _ _ _ => cases yes
            subst e2
            simp only [Array.getElem?_eq_getElem lt]
            refine wpAny_bind (wpAny_dictEpoch ho hd (wpAny_bind (eq_key hu hx (.text x t) dk (wpAny_bind (wpAny_dictEpoch ho hd ?_)))))
            show wpAny _ _ (if (ep != ep) = true then _ else _) _ E _
            rw [if_neg (by simp), decide_eq_true rfl]
            exact wpAny_bind (wpAny_rule (wpAny_pure (hsome i ek)))
      next => exact plain
    next => exact plain
  · rw [if_neg hall]
    have hk' := hk
    have hany : ¬ (es.any fun e => e.key == key && e.hash != k.hash w) = true := fun z => by
      obtain ⟨i, hi, q⟩ := Array.any_eq_true.mp z
      obtain ⟨k', a, b⟩ := keys_in es[i] (Array.getElem_mem hi)
      rw [Bool.and_eq_true, beq_iff_eq, bne_iff_ne] at q
      rw [q.1] at a
      exact q.2 (by rw [b, NestedIs.inj _ _ _ a hk])
    cases hk
    case text x t =>
      dsimp only
      rw [if_neg (fun hs => hall (by
        rw [List.all_cons, Bool.and_eq_true]
        refine ⟨rfl, List.all_eq_true.mpr fun v hv => ?_⟩
        obtain ⟨i, hi, ev⟩ := List.mem_filterMap.mp hv
        obtain ⟨e, k', ee, _, hx, _, dk⟩ := pm hi
        rw [ee] at ev
        obtain rfl : e.key = v := by simpa using ev
        have z := Array.all_eq_true_iff_forall_mem.mp hs e (Array.mem_of_getElem? ee)
        generalize e.key = u at z
        cases u <;> first | rfl | cases z))]
      exact fin_ hu ho hd he hk' hd8 hnone hsome pm mp none_of one all_st
    case tup h1 h2 h3 h4 =>
      dsimp only
      rw [if_neg hany]
      exact fin_ hu ho hd he hk' hd8 hnone hsome pm mp none_of one all_st
    all_goals (dsimp only; exact fin_ hu ho hd he hk' hd8 hnone hsome pm mp none_of one all_st)
end
end L2.MK
/-! dicts whose keys are of several kinds: got, stored anew, displayed -/
namespace L2.MK
open PySem PySem.Spec PyProof.Rows SeqAt
section
variable {prog : Program} {w : World} {A : Around} {E : Value → Shared → Prop} {s : Shared} {d : Addr} {o : Obj} {es : Array DictEntry} {ep : Nat} {ks : List NestedKey} {k : NestedKey} {key : Value}
theorem nk_get {Q : Option Value → Shared → Prop} (hu : A.units + 8 < cLine) (hk : NestedIs s.heap k key) (hd8 : k.depth ≤ 8) (ho : s.heap.get? d = some o) (hd : o.data = .dict es ep) (he : Ents w s.heap es ks)
    (hnone : k ∉ ks → Q none { s with toks := s.toks + k.draws }) (hsome : ∀ (j : Nat) (e : DictEntry), ks[j]? = some k → es[j]? = some e → Q (some e.val) { s with toks := s.toks + k.draws }) : wpAny (model prog w) A (dictGet d key) Q E s := by
  unfold dictGet
  try with_reducible refine wpAny_holding ?_
  refine wpAny_bind (pyHash_key k key A s _ hk (by omega) ?_)
  refine wpAny_bind (nk_find (s := { s with toks := s.toks + k.draws }) hu hk hd8 ho hd he (fun h => wpAny_pure (hnone h)) fun j hj => ?_)
  obtain ⟨e, ee, _⟩ := he.ent hj
  refine wpAny_bind (wpAny_dictEntries (s := { s with toks := s.toks + k.draws }) ho hd ?_)
  rw [ee]
  exact wpAny_pure (hsome j e hj ee)
/-- the dict at d in h has these entries -/
def DictIs (h : Heap) (d : Addr) (es : Array DictEntry) : Prop := ∃ o ep, h.get? d = some o ∧ o.ExactDict ∧ o.data = .dict es ep
theorem nested_but {h h' : Heap} (hd : DictIs h d es) (hs : Heap.SameBut d h h') {v : Value} (x : NestedIs h k v) : NestedIs h' k v := NestedIs.at (fun a o vs n e q => by
  rw [hs.2 a (fun z => by
    subst z
    obtain ⟨o2, ep, e2, _, q2⟩ := hd
    rw [e] at e2
    cases e2
    rw [q] at q2
    cases q2)]
  exact e) k v x
theorem ents_but {h h' : Heap} {es0 : Array DictEntry} (hd : DictIs h d es0) (hs : Heap.SameBut d h h') (x : Ents w h es ks) : Ents w h' es ks := ⟨x.len, fun i e k a b => ⟨nested_but hd hs (x.is_ i e k a b).1, (x.is_ i e k a b).2⟩, x.nd, x.dp⟩
theorem nk_setNew {v : Value} {Q : Unit → Shared → Prop} (hu : A.units + 8 < cLine) (hk : NestedIs s.heap k key) (hd8 : k.depth ≤ 8) (hd : DictIs s.heap d es) (he : Ents w s.heap es ks) (hn : k ∉ ks) (hz : es.size ≤ sizeLine)
    (hQ : ∀ h', DictIs h' d (es.push ⟨k.hash w, key, v⟩) → Heap.SameBut d s.heap h' → Q () { s with heap := h', toks := s.toks + k.draws }) : wpAny (model prog w) A (dictSet d key v) Q E s := by
  obtain ⟨o, ep, ho, hc, hdt⟩ := hd
  unfold dictSet
  try with_reducible refine wpAny_holding ?_
  refine wpAny_bind (pyHash_key k key A s _ hk (by omega) ?_)
  unfold dictSetHashed
  try with_reducible refine wpAny_holding ?_
  refine wpAny_bind (nk_find (s := { s with toks := s.toks + k.draws }) hu hk hd8 ho hdt he (fun _ => ?_) fun j hj => absurd (List.mem_of_getElem? hj) hn)
  exact wpAny_bind (wpAny_rule (wpAny_updateDictKeys (hz := hz) (s := { s with toks := s.toks + k.draws }) ho hdt (hQ _ ⟨_, ep + 1, Heap.get?_update_self _ ho (Obj.isFreed_of_dict (Obj.data_mapDictKeys hdt _)), hc.mapDictKeys _, Obj.data_mapDictKeys hdt _⟩ (Heap.SameBut.update ..))))
theorem Ents.push {h : Heap} (he : Ents w h es ks) {v : Value} (hk : NestedIs h k key) (hd8 : k.depth ≤ 8) (hn : k ∉ ks) : Ents w h (es.push ⟨k.hash w, key, v⟩) (ks ++ [k]) := by
  refine ⟨by rw [Array.size_push, List.length_append, he.len]; rfl, fun i e k' a b => ?_, ?_, fun x hx => ?_⟩
  · by_cases hi : i < es.size
    · rw [Array.getElem?_push_lt hi] at a
      rw [List.getElem?_append_left (by rw [← he.len]; exact hi)] at b
      exact he.is_ i e k' (by rw [Array.getElem?_eq_getElem hi]; exact a) b
    · have l1 := (Array.getElem?_eq_some_iff.mp a).1
      rw [Array.size_push] at l1
      have e1 : i = es.size := by omega
      subst e1
      rw [Array.getElem?_push_size] at a
      rw [he.len, List.getElem?_append_right (Nat.le_refl _), Nat.sub_self] at b
      obtain rfl := Option.some.inj a
      obtain rfl := Option.some.inj b
      exact ⟨hk, rfl⟩
  · rw [List.nodup_append]
    exact ⟨he.nd, by simp, fun x hx y hy => by
      rw [List.mem_singleton] at hy
      subst hy
      exact fun z => hn (z ▸ hx)⟩
  · rcases List.mem_append.mp hx with hx | hx
    · exact he.dp x hx
    · rw [List.mem_singleton] at hx; rw [hx]; exact hd8
/-- new keys, one after the other -/
theorem nk_storeAll (hu : A.units + 8 < cLine) : ∀ (vs : List (Value × Value)) (rest acc : List NestedKey) (es : Array DictEntry) (s : Shared) (Q : PUnit → Shared → Prop), DictIs s.heap d es → Ents w s.heap es acc → rest.length = vs.length →
    (∀ (i : Nat) (k : NestedKey) (p : Value × Value), rest[i]? = some k → vs[i]? = some p → NestedIs s.heap k p.1) → (acc ++ rest).Nodup → (∀ k ∈ rest, k.depth ≤ 8) → es.size + vs.length ≤ sizeLine →
    (∀ (h' : Heap) (es' : Array DictEntry) (t : Nat), DictIs h' d es' → es'.toList = es.toList ++ List.zipWith (fun (k : NestedKey) (p : Value × Value) => ⟨k.hash w, p.1, p.2⟩) rest vs → Heap.SameBut d s.heap h' → Q PUnit.unit { s with heap := h', toks := t }) →
    wpAny (model prog w) A (forIn vs PUnit.unit fun (x : Value × Value) (_ : PUnit) => (do dictSet d x.1 x.2; pure (ForInStep.yield PUnit.unit) : Sem (ForInStep PUnit))) Q E s
  | [], rest, acc, es, s, Q, hd, he, hl, _, _, _, _, hQ => by
    rw [List.forIn_nil]
    have e : rest = [] := List.length_eq_zero_iff.mp hl
    subst e
    exact wpAny_pure (hQ s.heap es s.toks hd (by simp) (Heap.SameBut.refl _ _))
  | (key, v) :: vs, [], acc, es, s, Q, hd, he, hl, _, _, _, _, hQ => by simp at hl
  | (key, v) :: vs, k :: rest, acc, es, s, Q, hd, he, hl, al, nd, dp, hz, hQ => by
    rw [List.length_cons] at hz
    have hk : NestedIs s.heap k key := al 0 k (key, v) rfl rfl
    have hn : k ∉ acc := fun m => by
      rw [List.nodup_append] at nd
      exact nd.2.2 k m k (by simp) rfl
    rw [List.forIn_cons]
    refine wpAny_bind (wpAny_bind (nk_setNew hu hk (dp k (by simp)) hd he hn (by omega) fun h1 hd1 hs1 => wpAny_pure ?_))
    have he1 := (ents_but hd hs1 he).push (v := v) (nested_but hd hs1 hk) (dp k (by simp)) hn
    refine nk_storeAll hu vs rest (acc ++ [k]) _ _ Q hd1 he1 (by simpa using hl) (fun i k' p a b => nested_but hd hs1 (al (i + 1) k' p (by simpa using a) (by simpa using b))) (by simpa using nd) (fun x hx => dp x (by simp [hx])) (by rw [Array.size_push]; omega) fun h' es' t hd' e' hs' => ?_
    exact hQ h' es' t hd' (by rw [e']; simp) (hs1.trans hs')
/-- {k: v, ..} -/
theorem nk_display {env : Env} {keys : List (Option Expr)} {values : List Expr} {pos : Pos} {Q : Value → Shared → Prop} (hu : A.units + 8 < cLine) (hall : keys.all (·.isSome) = true) (hl : keys.length = values.length) (h0 : keys ≠ []) (hlen : keys.length ≤ 15)
    (h : wpAny (model prog w) A (evalPairs (pairTrees keys values env pos)) (fun vs s1 => ∃ rest : List NestedKey, DictIs s1.heap s.heap.objs.size #[] ∧ rest.length = vs.length ∧ vs.length ≤ 15 ∧ (∀ (i : Nat) (k : NestedKey) (p : Value × Value), rest[i]? = some k → vs[i]? = some p → NestedIs s1.heap k p.1) ∧ rest.Nodup ∧ (∀ k ∈ rest, k.depth ≤ 8) ∧
      ∀ (h' : Heap) (es' : Array DictEntry) (t : Nat), DictIs h' s.heap.objs.size es' → es'.toList = List.zipWith (fun (k : NestedKey) (p : Value × Value) => ⟨k.hash w, p.1, p.2⟩) rest vs → Heap.SameBut s.heap.objs.size s1.heap h' → Q (.ref s.heap.objs.size) { s1 with heap := h', toks := t }) E
      { s with heap := s.heap.push { cls := .type "dict", data := .dict #[] } }) : wpAny (model prog w) A (eval (.Dict keys values pos) env) Q E s := by
  have hn := pairTrees_length keys values env pos hall hl
  rw [arm_eval_Dict, zip_pairTrees keys values env pos hall hl, dictDisplay_pairs (pairTrees keys values env pos) (fun he => by
    rw [he] at hn
    exact h0 (List.length_eq_zero_iff.mp hn.symm)) (by omega)]
  refine wpAny_bind (wpAny_standAt (wpAny_bind ?_))
  unfold subDict
  refine wpAny_bind (wpAny_alloc ?_)
  refine wpAny_bind (wpAny_holding ?_)
  rw [if_pos (by omega)]
  refine wpAny_bind (wpAny_mono h (fun vs s1 hh => ?_) fun _ _ e => e)
  obtain ⟨rest, hd, hrl, h15, al, nd, dp, hQ⟩ := hh
  refine wpAny_holding ?_
  refine wpAny_bind (nk_storeAll hu vs rest [] #[] s1 _ hd ⟨rfl, fun i e k a _ => by simp at a, List.nodup_nil, fun _ z => by cases z⟩ hrl al (by simpa using nd) dp (by rw [sizeLine_eq]; simp; omega) fun h' es' t hd' e' hs' => wpAny_pure (wpAny_pure (wpAny_pure (hQ h' es' t hd' (by simpa using e') hs'))))
end
end L2.MK
/-! dicts whose keys are of several kinds, as objects of the layer -/
namespace L2.MK
open PySem PySem.Spec PyProof.Rows SeqAt
/-- a key as a value -/
inductive KeyH (H : Hp) : NestedKey → V → Prop
  | non : KeyH H .none .non
  | bl (b : Bool) : KeyH H (.num (if b = true then 1 else 0)) (.bl b)
  | int (i : Int) : KeyH H (.num i) (.int i)
  | str (x : Str) : KeyH H (.text x) (.str x)
  | tup {a : Addr} {vs : List V} {ks : List NestedKey} (h : H a = some (.tup vs)) (len : vs.length = ks.length) (al : ∀ (i : Nat) (v : V) (k : NestedKey), vs[i]? = some v → ks[i]? = some k → KeyH H k v) : KeyH H (.tup ks) (.ref a)
theorem KeyH.mono {H H' : Hp} {k : NestedKey} {v : V} (x : KeyH H k v) (s : ∀ a vs, H a = some (.tup vs) → H' a = some (.tup vs)) : KeyH H' k v := by
  induction x with
  | non => exact .non
  | bl b => exact .bl b
  | int i => exact .int i
  | str x => exact .str x
  | tup h len _ ih => exact .tup (s _ _ h) len ih
theorem all_is {h : Heap} : ∀ {vs : List V} {its : List Value} {ks : List NestedKey}, Vals vs its → vs.length = ks.length → (∀ (i : Nat) (v : V) (k : NestedKey), vs[i]? = some v → ks[i]? = some k → ∀ u, RelV v u → NestedIs h k u) → NestedAll h ks its
  | _, _, [], .nil, _, _ => .nil
  | _, _, k :: ks, .cons r t, l, al => .cons (al 0 _ k rfl rfl _ r) (all_is t (by simpa using l) fun i v k a b => al (i + 1) v k (by simpa using a) (by simpa using b))
  | _, _, [], .cons _ _, l, _ => by simp at l
  | _, _, _ :: _, .nil, l, _ => by simp at l
theorem KeyH.is {P : Program} {w : World} {H : Hp} {h : Heap} {k : NestedKey} {v : V} (ok : HOk P w H h) (x : KeyH H k v) : ∀ {u : Value}, RelV v u → NestedIs h k u := by
  induction x with
  | non => intro u r; cases (show u = Value.none from r); exact .none
  | bl b => intro u r; cases (show u = Value.bool b from r); exact .bool rfl
  | int i => intro u r; obtain ⟨t, rfl⟩ := r; exact .int i t
  | str x => intro u r; obtain ⟨t, rfl⟩ := r; exact .text x t
  | @tup a vs ks e len _ ih =>
    intro u r
    cases (show u = Value.ref a from r)
    obtain ⟨_, its, rv, o, ho, hc, n, hd⟩ := ok a _ e
    exact .tup ho hc hd (by simpa using all_is rv len fun i v k a b u r => ih i v k a b r)
/-- the dict at d: keys ks as the values kvs.1, answers kvs.2 -/
def DX (w : World) (d : Addr) (ks : List NestedKey) (kvs : List (V × V)) : HO := .ext fun h => (d == sysModules) = false ∧ ks.length = kvs.length ∧ ks.length ≤ sizeLine ∧ ∃ es : Array DictEntry, DictIs h d es ∧ es.size = ks.length ∧
  ∀ (i : Nat) (e : DictEntry) (k : NestedKey) (p : V × V), es[i]? = some e → ks[i]? = some k → kvs[i]? = some p → e.hash = k.hash w ∧ RelV p.1 e.key ∧ RelV p.2 e.val
/-- the keys are so in H -/
structure MixK (H : Hp) (ks : List NestedKey) (kvs : List (V × V)) : Prop where
  is_ : ∀ (i : Nat) (k : NestedKey) (p : V × V), ks[i]? = some k → kvs[i]? = some p → KeyH H k p.1
  nd : ks.Nodup
  dp : ∀ k ∈ ks, k.depth ≤ 8
theorem MixK.mono {H H' : Hp} {ks : List NestedKey} {kvs : List (V × V)} (x : MixK H ks kvs) (s : ∀ a vs, H a = some (.tup vs) → H' a = some (.tup vs)) : MixK H' ks kvs := ⟨fun i k p a b => (x.is_ i k p a b).mono s, x.nd, x.dp⟩
theorem dx_rd {P : Program} {w : World} {H : Hp} {h : Heap} {d : Addr} {ks : List NestedKey} {kvs : List (V × V)} (ok : HOk P w H h) (e : Rd H d (DX w d ks kvs)) : (d == sysModules) = false ∧ ks.length = kvs.length ∧ ks.length ≤ sizeLine ∧ ∃ es : Array DictEntry, DictIs h d es ∧ es.size = ks.length ∧
    ∀ (i : Nat) (e : DictEntry) (k : NestedKey) (p : V × V), es[i]? = some e → ks[i]? = some k → kvs[i]? = some p → e.hash = k.hash w ∧ RelV p.1 e.key ∧ RelV p.2 e.val := (e.ok ok).1
theorem dx_ents {P : Program} {w : World} {H : Hp} {h : Heap} {ks : List NestedKey} {kvs : List (V × V)} {es : Array DictEntry} (ok : HOk P w H h) (m : MixK H ks kvs) (hl : ks.length = kvs.length) (hz : es.size = ks.length)
    (al : ∀ (i : Nat) (e : DictEntry) (k : NestedKey) (p : V × V), es[i]? = some e → ks[i]? = some k → kvs[i]? = some p → e.hash = k.hash w ∧ RelV p.1 e.key ∧ RelV p.2 e.val) : Ents w h es ks := by
  refine ⟨hz, fun i e k a b => ?_, m.nd, m.dp⟩
  have lt : i < kvs.length := by rw [← hl]; exact (List.getElem?_eq_some_iff.mp b).1
  obtain ⟨h1, h2, _⟩ := al i e k kvs[i] a b (List.getElem?_eq_getElem lt)
  exact ⟨(m.is_ i k _ b (List.getElem?_eq_getElem lt)).is ok h2, h1⟩
theorem dx_new {P : Program} {w : World} {H : Hp} {h : Heap} {d : Addr} {ks : List NestedKey} {kvs : List (V × V)} {es : Array DictEntry} (hd : (d == sysModules) = false) (hl : ks.length = kvs.length) (hle : ks.length ≤ sizeLine) (hi : DictIs h d es) (hz : es.size = ks.length)
    (al : ∀ (i : Nat) (e : DictEntry) (k : NestedKey) (p : V × V), es[i]? = some e → ks[i]? = some k → kvs[i]? = some p → e.hash = k.hash w ∧ RelV p.1 e.key ∧ RelV p.2 e.val) : ObjOk P w H h d (DX w d ks kvs) := by
  refine ⟨⟨hd, hl, hle, es, hi, hz, al⟩, ?_, ?_⟩
  · obtain ⟨o, _, e, _⟩ := hi
    exact ⟨o, e⟩
  · rintro h1 h2 ⟨a, b, c, es, ⟨o, ep, e, r⟩, q⟩ k
    exact ⟨a, b, c, es, ⟨o, ep, k o e, r⟩, q⟩
/-! ### the display -/
def tDispX (w : World) (trs : List (TE × TE)) : TE := fun σ H Q => ∀ p, H p = none → tPairs trs σ (upd H p (DX w p [] [])) fun ps H2 => H2 p = some (DX w p [] []) ∧ ∃ ks : List NestedKey, ks.length = ps.length ∧ MixK H2 ks ps ∧ Q (.ref p) (upd H2 p (DX w p ks ps))
theorem vv_at : ∀ {ps : List (V × V)} {ws : List (Value × Value)} {i : Nat} {q : Value × Value}, VV ps ws → ws[i]? = some q → ∃ p, ps[i]? = some p ∧ RelV p.1 q.1 ∧ RelV p.2 q.2
  | _, _, _, _, .nil, e => by simp at e
  | _, _, 0, q, .cons r _, e => by
    obtain rfl := Option.some.inj e
    exact ⟨_, rfl, r⟩
  | _, _, i + 1, q, .cons _ t, e => by
    obtain ⟨p, a, b⟩ := vv_at (i := i) t (by simpa using e)
    exact ⟨p, by simpa using a, b⟩
theorem pps_len {X : Cx} {pos : Pos} {trs : List (TE × TE)} : ∀ {σ : L2.St} {H : Hp} {Q : List (V × V) → Hp → Prop}, tPairs trs σ H Q → True := fun _ => trivial
theorem vv_len {ps : List (V × V)} {ws : List (Value × Value)} (r : VV ps ws) : ps.length = ws.length := Paired.length r
theorem pe_dispX {X : Cx} {pos : Pos} {keys : List (Option Expr)} {values : List Expr} {trs : List (TE × TE)} (hu : X.A.units + 8 < cLine) (h : PPs X pos keys values trs) (hall : keys.all (·.isSome) = true) (hl : keys.length = values.length) (h0 : keys ≠ [])
    (h15 : keys.length ≤ 15) : PE X (.Dict keys values pos) (tDispX X.w trs) := by
  refine ⟨fun pins s σ H Q I q => ?_⟩
  have hn := I.hok.fresh (Nat.le_refl s.heap.objs.size)
  have hbig : (s.heap.objs.size == sysModules) = false := beq_eq_false_iff_ne.mpr (Ne.symm (Nat.ne_of_lt I.big))
  have di : DictIs (s.heap.push { cls := .type "dict", data := .dict #[] }) s.heap.objs.size #[] := ⟨_, 0, Heap.get?_push_size _ rfl, ⟨rfl, rfl, rfl⟩, rfl⟩
  have I1 := I.laid (a := s.heap.objs.size) (o := DX X.w s.heap.objs.size [] []) (h' := s.heap.push { cls := .type "dict", data := .dict #[] }) (t' := s.toks) (fun _ _ q => Heap.get?_push_of_some _ q) (Nat.le_refl _) (dx_new hbig rfl (Nat.zero_le _) di rfl (fun i e k p a => by simp at a))
  have hn15 := pairTrees_length keys values X.env pos hall hl
  refine nk_display hu hall hl h0 h15 (thn (wpAny_evalPairs_len (h.run pins _ σ _ _ I1 (q _ hn))) fun ws s2 ⟨wl, ps, H2, I2, rel, e, ks, kl, m, q2⟩ => ?_)
  obtain ⟨_, _, _, es, hdi, hz, _⟩ := dx_rd I2.hok (.inl e)
  have e0 : es = #[] := Array.size_eq_zero_iff.mp hz
  subst e0
  have l2 := vv_len rel
  refine ⟨ks, hdi, by rw [kl, l2], by omega, fun i k p a b => ?_, m.nd, m.dp, fun h' es' t hd' e' hs => ⟨.ref s.heap.objs.size, _, ?_, rfl, q2⟩⟩
  · obtain ⟨p', a', r, _⟩ := vv_at rel b
    exact (m.is_ i k p' a a').is I2.hok r
  · have le : es'.size = ks.length := by
      have z := congrArg List.length e'
      rw [Array.length_toList, List.length_zipWith, kl, l2] at z
      omega
    have he : ∃ q, h'.get? s.heap.objs.size = some q := let ⟨o, _, z, _⟩ := hd'; ⟨o, z⟩
    refine d_write I2 (by rw [e]; exact True.intro) hs he (dx_new hbig kl (by rw [sizeLine_eq]; omega) hd' le fun i en k p a b c => ?_)
    have z : es'.toList[i]? = some en := by rw [Array.getElem?_toList]; exact a
    rw [e', List.getElem?_zipWith, b] at z
    cases ew : ws[i]? with
    | none => rw [ew] at z; cases z
    | some q' =>
      rw [ew] at z
      obtain rfl := Option.some.inj z
      obtain ⟨p', a', r1, r2⟩ := vv_at rel ew
      rw [c] at a'
      obtain rfl := Option.some.inj a'
      exact ⟨rfl, r1, r2⟩
/-! ### d[k] -/
def tDGetX (w : World) (td ty : TE) : TE := fun σ H Q => td σ H fun x H1 => ty σ H1 fun y H2 => ∃ (d : Addr) (ks : List NestedKey) (kvs : List (V × V)) (k : NestedKey) (j : Nat) (p : V × V), x = .ref d ∧ Rd H2 d (DX w d ks kvs) ∧ MixK H2 ks kvs ∧ KeyH H2 k y ∧ ks[j]? = some k ∧ kvs[j]? = some p ∧ Q p.2 H2
section
variable {X : Cx} {pins : List (Addr × Obj)} {σ : St} {H : Hp} {s : Shared} {A : Around} {E : Value → Shared → Prop} {d : Addr} {ks : List NestedKey} {kvs : List (V × V)} {o i : Expr} {td ty : TE} {pos : Pos}
theorem dx_type (I : Inv X pins σ H s) (e : Rd H d (DX X.w d ks kvs)) : s.TypeIs (.ref d) "dict" := by
  obtain ⟨_, _, _, es, ⟨o, _, z, q, _⟩, _⟩ := dx_rd I.hok e
  exact ⟨o, z, q.1⟩
theorem dx_noDict (I : Inv X pins σ H s) (e : Rd H d (DX X.w d ks kvs)) : ∀ b, Value.ref d = .ref b → ∃ ob, s.heap.get? b = some ob ∧ ob.dict = none := fun b z => by
  injection z with z
  subst z
  obtain ⟨_, _, _, es, ⟨o, _, z, q, _⟩, _⟩ := dx_rd I.hok e
  exact ⟨o, z, q.2.1⟩
theorem dx_getItem {k : NestedKey} {j : Nat} {p : V × V} {y : V} {u : Value} {Q : Value → Shared → Prop} (hu : A.in1.units + 8 < cLine) (I : Inv X pins σ H s) (e : Rd H d (DX X.w d ks kvs)) (m : MixK H ks kvs) (hk : KeyH H k y) (ej : ks[j]? = some k) (ep : kvs[j]? = some p) (ry : RelV y u)
    (h : ∀ w' s', Inv X pins σ H s' → RelV p.2 w' → Q w' s') : wpAny (model X.prog X.w) A (getItem (.ref d) u) Q E s := by
  have hT := dx_type I e
  obtain ⟨_, hl, _, es, ⟨o, epo, ho, hc, hdt⟩, hz, al⟩ := dx_rd I.hok e
  have en := dx_ents I.hok m hl hz al
  unfold getItem
  try with_reducible refine wpAny_holding ?_
  refine wpAny_bind (wpAny_sequenceKey hT (by decide) (wpAny_bind (wpAny_callSpecial?_slot (name := Str.ofString "__getitem__") hT slot_dict_getitem (wpAny_call_entry slot_dict_getitem hT entry_dict_getitem ?_ (args_dict_getitem _ _)))))
  show wpAny _ _ (dictGet d u >>= fun _ => _) _ _ s
  refine wpAny_bind (nk_get hu (hk.is I.hok ry) (m.dp _ (List.mem_of_getElem? ej)) ho hdt en (fun n => absurd (List.mem_of_getElem? ej) n) fun j' e' a b => ?_)
  have e2 : j' = j := (List.getElem?_inj (List.getElem?_eq_some_iff.mp a).1 m.nd).mp (a.trans ej.symm)
  subst e2
  obtain ⟨_, _, r⟩ := al j' e' k p b a ep
  exact wpAny_pure ⟨e'.val, rfl, wpAny_pure (h _ _ (I.tok _) r)⟩
theorem pe_dgetX (hu : X.A.in1.units + 8 < cLine) (ho : PE X o td) (hi : PE X i ty) (hs : NoSl i) : PE X (.Subscript o i pos) (tDGetX X.w td ty) := by
  refine ⟨fun pins s σ H Q I h => subD_of PySem.F.slot_dict_getitem.lookup hs (thn (ho.run pins s σ H _ I h) fun u s1 ⟨x, H1, I1, rx, q1⟩ => thn (hi.run pins s1 σ H1 _ I1 q1) fun iv s2 ⟨y, H2, I2, ry, d, ks, kvs, k, j, p, ex, e, m, hk, ej, ep, q2⟩ => ?_)⟩
  subst ex
  cases (show u = Value.ref d from rx)
  exact ⟨dx_type I2 e, dx_getItem hu I2 e m hk ej ep ry fun w' s3 I3 rw' => ⟨p.2, H2, I3, rw', q2⟩⟩
/-! ### isinstance(d, dict), len(d) -/
theorem call_isiD : CallR X (.builtin "isinstance") (fun xs H Q => ∃ (d : Addr) (ks : List NestedKey) (kvs : List (V × V)) (c : V) (u : Value) (b : Bool), xs = [.ref d, c] ∧ ClsV c u ∧ Rd H d (DX X.w d ks kvs) ∧ PySem.W.kitOne X.K (.type "dict") u = some b ∧ Q (.bl b) H) := by
  intro pins s σ H xs us Q I r h
  obtain ⟨d, ks, kvs, c, u, b, rfl, k, e, hb, q⟩ := h
  obtain ⟨u1, u2, rfl, r1, r2⟩ := vals2 r
  have e2 := k.eq r2
  subst e2
  cases (show u1 = Value.ref d from r1)
  obtain ⟨o, h1, h2⟩ := dx_type I e
  exact PySem.W.kia_one PySem.W.kitx_dict I.kIn ⟨o, h1, h2⟩ hb (fun z => nomatch z) fun tk => ⟨.bl b, H, I.tok tk, rfl, q⟩
theorem len_body {n : Nat} {es : Array DictEntry} {Q : Value → Shared → Prop} (hs : (d == sysModules) = false) (hd : DictIs s.heap d es) (hn : es.size = n) (hz : n ≤ sizeLine) (h : Q (.int n (s.toks + 1)) { s with toks := s.toks + 1 + 1 }) :
    wpAny (model X.prog X.w) A (call (.builtin "len") [.ref d]) Q E s := by
  have hT : s.TypeIs (.ref d) "dict" := let ⟨o, _, z, q, _⟩ := hd; ⟨o, z, q.1⟩
  have ml : MeetsIn X.prog X.w (Builtin.«dict.__len__» ⟨[.ref d], []⟩) (fun _ R s => ∃ es, DictIs s.heap d es ∧ R (.ok (.ret (.int es.size s.toks))) { s with toks := s.toks + 1 }) := .of_wp fun A R s ⟨es, hd, h⟩ => by
    obtain ⟨o, ep, ho, hc, hdt⟩ := hd
    show wpAny _ _ (dictSize d >>= fun _ => _) _ _ s
    unfold dictSize
    refine wpAny_bind (wpAny_bind (wpAny_dictEntries ho hdt (wpAny_pure ?_)))
    show wpAny _ _ (Builtin.Dict.pendingCount d >>= fun _ => _) _ _ s
    exact wpAny_bind (wpAny_pendingCount_other hs (wpAny_ret_mkInt (by rw [Nat.add_zero]; exact h)))
  rw [sizeLine_eq] at hz
  refine Calls.call_function_entry kind_len plain_len entry_len (args_len1 _) ?_
  unfold Builtin.«len»
  refine wpAny_bind (m := oneArg "len" _) (wpAny_pure (wpAny_bind (m := callSpecial? (.ref d) (Str.ofString "__len__")) (wpAny_callSpecial?_slot (name := Str.ofString "__len__") hT F.slot_dict_len
    (call_meetsIn F.slot_dict_len hT F.entry_dict_len (F.args_dict_len_1 _) ml ⟨es, hd, ?_⟩))))
  rw [hn]
  show wpAny _ _ _ _ _ { s with toks := s.toks + 1 }
  refine wpAny_bind (wpAny_holding (wpAny_pure (wpAny_bind (wpAny_letGo ?_))))
  show wpAny _ _ (if ((n : Nat) : Int) < 0 then _ else _) _ _ _
  rw [if_neg (by omega)]
  show wpAny _ _ (if ((n : Nat) : Int) ≥ 2 ^ 63 then _ else _) _ _ _
  rw [if_neg (by omega)]
  exact wpAny_bind (wpAny_mkInt (wpAny_pure ⟨_, rfl, h⟩))
theorem call_lenX : CallR X (.builtin "len") (fun xs H Q => ∃ (d : Addr) (ks : List NestedKey) (kvs : List (V × V)), xs = [.ref d] ∧ Rd H d (DX X.w d ks kvs) ∧ Q (.int kvs.length) H) := by
  intro pins s σ H xs us Q I r h
  obtain ⟨d, ks, kvs, rfl, e, q⟩ := h
  obtain ⟨u, rfl, ru⟩ := vals1 r
  cases (show u = Value.ref d from ru)
  obtain ⟨hs, hl, hz, es, hd, hn, _⟩ := dx_rd I.hok e
  exact len_body hs hd (hn.trans hl) (by rw [← hl]; exact hz) ⟨.int kvs.length, H, I.tok _, ⟨_, rfl⟩, q⟩
/-! ### for k in d -/
def Itkx (w : World) (d : Addr) (o : Obj) (ks : List NestedKey) (kvs : List (V × V)) : It :=
  ⟨fun i H => H d = some (.frz o (DX w d ks kvs)) ∧ i < kvs.length, fun i H x H' => H' = H ∧ ∃ v, kvs[i]? = some (x, v), fun i H => H d = some (.frz o (DX w d ks kvs)) ∧ kvs.length ≤ i⟩
theorem frzX {ob : Obj} (I : Inv X pins σ H s) (h : H d = some (.frz ob (DX X.w d ks kvs))) : (d == sysModules) = false ∧ s.heap.get? d = some ob ∧ ob.ExactDict ∧ ∃ (es : Array DictEntry) (ep : Nat), ob.data = .dict es ep ∧ es.size = kvs.length ∧ ∀ (i : Nat) (p : V × V), kvs[i]? = some p → ∃ en : DictEntry, es[i]? = some en ∧ RelV p.1 en.key := by
  obtain ⟨hd, ⟨hs, hl, _, es, ⟨o', ep, ho, hx, hdt⟩, hz, al⟩, _⟩ := I.hok d _ h
  rw [hd] at ho
  cases ho
  refine ⟨hs, hd, hx, es, ep, hdt, hz.trans hl, fun i p e => ?_⟩
  have lt := (List.getElem?_eq_some_iff.mp e).1
  have l1 : i < es.size := by omega
  have l2 : i < ks.length := by omega
  exact ⟨es[i], Array.getElem?_eq_getElem l1, (al i _ _ p (Array.getElem?_eq_getElem l1) (List.getElem?_eq_getElem l2) e).2.1⟩
theorem turn_keysX {P : Program} {w : World} {K : PySem.W.Frag} {tg : Expr} {ob : Obj} {es : Array DictEntry} {ep : Nat} (it : Addr) (hod : ob.data = .dict es ep) : Turn P w K tg (Itkx w d ob ks kvs) [it] it (fun i h => h.IsKeyIter it d i kvs.length ep) where
  mem := by simp
  obj := fun i h st b hb => by
    have e : b = it := by simpa using hb
    subst e
    exact let ⟨oi, e, c, dd⟩ := st; ⟨oi, e, fun v z => by rw [dd] at z; cases z⟩
  keep := fun i h h' st k => st.at fun oi e => k it (by simp) oi e
  item := by
    intro X hP hw hK hc i pins s σ H E I hf st hg
    subst hP hw hK
    have lt : i < kvs.length := hg.2
    obtain ⟨f0, f1, f2, f3, f4, f5⟩ := hf it (by simp)
    obtain ⟨hs, hgd, hx, es', ep', hdt, hsz, ent⟩ := frzX I hg.1
    obtain ⟨rfl, rfl⟩ := dict_ep hod hdt
    obtain ⟨en, hen, rk⟩ := ent i kvs[i] (List.getElem?_eq_getElem hg.2)
    refine next_key_item st hgd hdt hsz hen fun h' st' sb => ?_
    obtain ⟨oi, e, c, dd⟩ := id st'
    exact ⟨en.key, rfl, go_of (s := { s with heap := h' }) e c dd (by decide) ⟨kvs[i].1, H, I.turned (t' := s.toks) (fun b ob hb e => (sb.2 b hb).trans e) f0 f1 f3 f4 f5, rk, ⟨rfl, kvs[i].2, List.getElem?_eq_getElem hg.2⟩, st', fun b hb => (hf b hb).1⟩⟩
  done := by
    intro X hP hw hK hc i pins s σ H E I hf st hg
    subst hP hw hK
    obtain ⟨f0, f1, f2, f3, f4, f5⟩ := hf it (by simp)
    obtain ⟨hs, hgd, hx, es', ep', hdt, hsz, ent⟩ := frzX I hg.1
    obtain ⟨rfl, rfl⟩ := dict_ep hod hdt
    exact next_key_end (I.ok.hd hc) st hgd hdt hsz hg.2 fun h' eb => ⟨rfl, I.turned (t' := s.toks) (fun b ob hb e => eb b ob hb e) f0 f1 f3 f4 f5⟩
  self := fun A i s Q E st h => wpAny_pyIter_keyiter st h
def iKeysX (w : World) (td : TE) : TI := fun σ H R => td σ H fun x H1 => ∃ (d : Addr) (o : Obj) (ks : List NestedKey) (kvs : List (V × V)), x = .ref d ∧ H1 d = some (.frz o (DX w d ks kvs)) ∧ R (Itkx w d o ks kvs) H1
theorem pi_keysX {tg e : Expr} (he : PE X e td) : PI X tg e (iKeysX X.w td) := by
  refine ⟨fun pins s σ H R I h => thn (he.run pins s σ H _ I h) fun u s1 ⟨x, H1, I1, rx, d, o, ks, kvs, ex, hd, q⟩ => ?_⟩
  subst ex
  cases (show u = Value.ref d from rx)
  obtain ⟨hs, hgd, hx, es, ep, hdt, hsz, _⟩ := frzX I1 hd
  refine iter_keys hs hgd hx hdt (pi_one (tk := s1.toks) I1 _ (turn_keysX _ hdt) ⟨_, Heap.get?_push_size _ rfl, rfl, ?_⟩ q)
  rw [hsz] <;> rfl
theorem walk_keysX {w : World} {ob : Obj} : Walk (Itkx w d ob ks kvs) kvs.length (fun H => H d = some (.frz ob (DX w d ks kvs))) (fun i H x H' => H' = H ∧ ∃ v, kvs[i]? = some (x, v)) :=
  ⟨fun _ _ hi q => ⟨q, hi⟩, fun _ q => ⟨q, Nat.le_refl _⟩, fun _ _ _ _ _ _ y => y⟩
end
end L2.MK
/-! dicts with keys of several kinds: stored, whatever stands there; entries as one list -/
namespace L2.MK
open PySem PySem.Spec PyProof.Rows SeqAt
abbrev En := NestedKey × V × V
/-- the dict at d with these entries -/
abbrev DE (w : World) (d : Addr) (es : List En) : HO := DX w d (es.map (·.1)) (es.map (·.2))
abbrev MixE (H : Hp) (es : List En) : Prop := MixK H (es.map (·.1)) (es.map (·.2))
def valE (es : List En) (k : NestedKey) : Option V := (es.find? fun e => decide (e.1 = k)).map (·.2.2)
def putE (es : List En) (k : NestedKey) (y v : V) : List En := if k ∈ es.map (·.1) then es.map fun e => if e.1 = k then (e.1, e.2.1, v) else e else es ++ [(k, y, v)]
theorem putE_new {es : List En} {k : NestedKey} {y v : V} (h : k ∉ es.map (·.1)) : putE es k y v = es ++ [(k, y, v)] := by unfold putE; rw [if_neg h]
theorem putE_old {es : List En} {k : NestedKey} {y v : V} (h : k ∈ es.map (·.1)) : putE es k y v = es.map fun e => if e.1 = k then (e.1, e.2.1, v) else e := by unfold putE; rw [if_pos h]
theorem putE_keys {es : List En} {k : NestedKey} {y v : V} : (putE es k y v).map (·.1) = if k ∈ es.map (·.1) then es.map (·.1) else es.map (·.1) ++ [k] := by
  unfold putE
  by_cases h : k ∈ es.map (·.1)
  · rw [if_pos h, if_pos h, List.map_map]
    refine List.map_congr_left fun e _ => ?_
    show (if e.1 = k then (e.1, e.2.1, v) else e).1 = e.1
    by_cases z : e.1 = k
    · rw [if_pos z]
    · rw [if_neg z]
  · rw [if_neg h, if_neg h, List.map_append]; rfl
theorem putE_length (es : List En) (k : NestedKey) (y v : V) : (putE es k y v).length ≤ es.length + 1 := by
  unfold putE
  by_cases h : k ∈ es.map (·.1)
  · rw [if_pos h, List.length_map]; omega
  · rw [if_neg h, List.length_append]; exact Nat.le_refl _
theorem putE_nodup {es : List En} {k : NestedKey} {y v : V} (h : (es.map (·.1)).Nodup) : ((putE es k y v).map (·.1)).Nodup := by
  rw [putE_keys]
  by_cases z : k ∈ es.map (·.1)
  · rw [if_pos z]; exact h
  · rw [if_neg z, List.nodup_append]
    exact ⟨h, by simp, fun a ha b hb e => by rw [List.mem_singleton] at hb; rw [e, hb] at ha; exact z ha⟩
theorem MixE.put {H : Hp} {es : List En} {k : NestedKey} {y v : V} (m : MixE H es) (hk : KeyH H k y) (hd : k.depth ≤ 8) : MixE H (putE es k y v) := by
  refine ⟨fun i k' p e1 e2 => ?_, putE_nodup m.nd, fun k' hk' => ?_⟩
  · rw [List.getElem?_map] at e1 e2
    obtain ⟨e, ee, rfl⟩ := Option.map_eq_some_iff.mp e1
    rw [ee] at e2
    obtain rfl := Option.some.inj e2
    by_cases z : k ∈ es.map (·.1)
    · rw [putE_old z, List.getElem?_map] at ee
      obtain ⟨e0, e0e, rfl⟩ := Option.map_eq_some_iff.mp ee
      have q := m.is_ i e0.1 e0.2 (by rw [List.getElem?_map, e0e]; rfl) (by rw [List.getElem?_map, e0e]; rfl)
      by_cases h : e0.1 = k
      · simp only [if_pos h]; exact q
      · simp only [if_neg h]; exact q
    · rw [putE_new z] at ee
      by_cases lt : i < es.length
      · rw [List.getElem?_append_left lt] at ee
        exact m.is_ i e.1 e.2 (by rw [List.getElem?_map, ee]; rfl) (by rw [List.getElem?_map, ee]; rfl)
      · rw [List.getElem?_append_right (by omega)] at ee
        have l2 := (List.getElem?_eq_some_iff.mp ee).1
        simp only [List.length_singleton] at l2
        rw [show i - es.length = 0 by omega] at ee
        obtain rfl := Option.some.inj ee
        exact hk
  · rw [putE_keys] at hk'
    by_cases z : k ∈ es.map (·.1)
    · rw [if_pos z] at hk'; exact m.dp _ hk'
    · rw [if_neg z] at hk'
      rcases List.mem_append.mp hk' with hk' | hk'
      · exact m.dp _ hk'
      · rw [List.mem_singleton] at hk'; rw [hk']; exact hd
section
variable {prog : Program} {w : World} {A : Around} {E : Value → Shared → Prop} {s : Shared} {d : Addr} {es : Array DictEntry} {ks : List NestedKey} {k : NestedKey} {key : Value}
theorem nk_setOld {v : Value} {j : Nat} {Q : Unit → Shared → Prop} (hu : A.units + 8 < cLine) (hk : NestedIs s.heap k key) (hd8 : k.depth ≤ 8) (hd : DictIs s.heap d es) (he : Ents w s.heap es ks) (hj : ks[j]? = some k)
    (hQ : ∀ h', DictIs h' d (es.modify j fun e => { e with val := v }) → Heap.SameBut d s.heap h' → Q () { s with heap := h', toks := s.toks + k.draws }) : wpAny (model prog w) A (dictSet d key v) Q E s := by
  obtain ⟨o, ep, ho, hc, hdt⟩ := hd
  unfold dictSet
  try with_reducible refine wpAny_holding ?_
  refine wpAny_bind (pyHash_key k key A s _ hk (by omega) ?_)
  unfold dictSetHashed
  try with_reducible refine wpAny_holding ?_
  refine wpAny_bind (nk_find (s := { s with toks := s.toks + k.draws }) hu hk hd8 ho hdt he (fun n => absurd (List.mem_of_getElem? hj) n) fun i hi => ?_)
  obtain rfl : i = j := (List.getElem?_inj (List.getElem?_eq_some_iff.mp hi).1 he.nd).mp (hi.trans hj.symm)
  exact wpAny_bind (wpAny_rule (wpAny_bind (wpAny_updateDict (s := { s with toks := s.toks + k.draws }) ho hdt (wpAny_point (hQ _ ⟨_, ep, Heap.get?_update_self _ ho (Obj.isFreed_of_dict (Obj.data_mapDict hdt _)), hc.mapDict _, Obj.data_mapDict hdt _⟩ (Heap.SameBut.update ..))))))
end
section
variable {X : Cx} {pins : List (Addr × Obj)} {σ : St} {H : Hp} {s : Shared} {A : Around} {E : Value → Shared → Prop} {d : Addr} {es : List En} {k : NestedKey} {y v : V} {u r : Value}
/-- d[k] = v by the machine's own store -/
theorem dx_dictSetS {Q : Unit → Shared → Prop} (hu : A.units + 8 < cLine) (I : Inv X pins σ H s) (hd : H d = some (DE X.w d es)) (m : MixE H es) (hk : KeyH H k y) (hd8 : k.depth ≤ 8) (hz : es.length < sizeLine) (ry : RelV y u) (rv : RelV v r)
    (h : ∀ (h' : Heap) (t : Nat), Heap.SameBut d s.heap h' → Inv X pins σ (upd H d (DE X.w d (putE es k y v))) { s with heap := h', toks := t } → Q () { s with heap := h', toks := t }) : wpAny (model X.prog X.w) A (dictSet d u r) Q E s := by
  obtain ⟨hs, hl, hle, ar, hdi, hsz, al⟩ := dx_rd I.hok (.inl hd)
  have en := dx_ents I.hok m hl hsz al
  have is := hk.is I.hok ry
  have lenA : ar.size = es.length := by rw [hsz, List.length_map]
  have fin : ∀ (h' : Heap) (ar' : Array DictEntry) (t : Nat), DictIs h' d ar' → Heap.SameBut d s.heap h' → ar'.size = (putE es k y v).length → (∀ (i : Nat) (e : DictEntry) (x : En), ar'[i]? = some e → (putE es k y v)[i]? = some x → e.hash = x.1.hash X.w ∧ RelV x.2.1 e.key ∧ RelV x.2.2 e.val) → Q () { s with heap := h', toks := t } := fun h' ar' t hd' sb l' al' => by
    have he : ∃ q, h'.get? d = some q := let ⟨o, _, z, _⟩ := hd'; ⟨o, z⟩
    refine h _ _ sb (d_write I (by rw [hd]; exact True.intro) sb he (dx_new hs (by rw [List.length_map, List.length_map]) ?_ hd' (by rw [l', List.length_map]) fun i e k' p a b c => ?_))
    · rw [List.length_map]; exact Nat.le_trans (putE_length es k y v) hz
    · rw [List.getElem?_map] at b c
      obtain ⟨x, ex, rfl⟩ := Option.map_eq_some_iff.mp b
      rw [ex] at c
      obtain rfl := Option.some.inj c
      exact al' i e x a ex
  have old : ∀ (i : Nat) (e : DictEntry) (x : En), ar[i]? = some e → es[i]? = some x → e.hash = x.1.hash X.w ∧ RelV x.2.1 e.key ∧ RelV x.2.2 e.val := fun i e x a b => al i e x.1 x.2 a (by rw [List.getElem?_map, b]; rfl) (by rw [List.getElem?_map, b]; rfl)
  by_cases z : k ∈ es.map (·.1)
  · obtain ⟨j, hj⟩ := List.mem_iff_getElem?.mp z
    refine nk_setOld hu is hd8 hdi en hj fun h' hd' sb => fin h' _ _ hd' sb ?_ fun i e x a b => ?_
    · rw [Array.size_modify, lenA, putE_old z, List.length_map]
    · rw [putE_old z, List.getElem?_map] at b
      obtain ⟨x0, ex0, rfl⟩ := Option.map_eq_some_iff.mp b
      rw [Array.getElem?_modify] at a
      have same : x0.1 = k ↔ j = i := by
        rw [List.getElem?_map] at hj
        obtain ⟨xj, exj, ej⟩ := Option.map_eq_some_iff.mp hj
        constructor
        · intro q
          have e1 : (es.map (·.1))[i]? = some k := by rw [List.getElem?_map, ex0, Option.map_some, q]
          have e2 : (es.map (·.1))[j]? = some k := by rw [List.getElem?_map, exj, Option.map_some, ej]
          exact (List.getElem?_inj (List.getElem?_eq_some_iff.mp e2).1 m.nd).mp (e2.trans e1.symm)
        · intro q
          subst q
          rw [ex0] at exj
          obtain rfl := Option.some.inj exj
          exact ej
      by_cases q : j = i
      · rw [if_pos q] at a
        obtain ⟨e0, ee0, rfl⟩ := Option.map_eq_some_iff.mp a
        obtain ⟨h1, h2, _⟩ := old i e0 x0 ee0 ex0
        simp only [if_pos (same.mpr q)]
        exact ⟨h1, h2, rv⟩
      · rw [if_neg q] at a
        simp only [if_neg (fun t => q (same.mp t))]
        exact old i e x0 a ex0
  · refine nk_setNew hu is hd8 hdi en z (by rw [hsz, List.length_map]; omega) fun h' hd' sb => fin h' _ _ hd' sb ?_ fun i e x a b => ?_
    · rw [Array.size_push, lenA, putE_new z, List.length_append]; rfl
    · rw [putE_new z] at b
      by_cases lt : i < es.length
      · rw [List.getElem?_append_left lt] at b
        rw [Array.getElem?_push_lt (by rw [lenA]; exact lt)] at a
        exact old i e x (by rw [Array.getElem?_eq_getElem (by rw [lenA]; exact lt)]; exact a) b
      · rw [List.getElem?_append_right (by omega)] at b
        have l2 := (List.getElem?_eq_some_iff.mp b).1
        simp only [List.length_singleton] at l2
        have e1 : i = ar.size := by omega
        subst e1
        rw [Array.getElem?_push_size] at a
        rw [show ar.size - es.length = 0 by omega] at b
        obtain rfl := Option.some.inj a
        obtain rfl := Option.some.inj b
        exact ⟨rfl, ry, rv⟩
theorem dx_dictSet {Q : Unit → Shared → Prop} (hu : A.units + 8 < cLine) (I : Inv X pins σ H s) (hd : H d = some (DE X.w d es)) (m : MixE H es) (hk : KeyH H k y) (hd8 : k.depth ≤ 8) (hz : es.length < sizeLine) (ry : RelV y u) (rv : RelV v r)
    (h : ∀ s', Inv X pins σ (upd H d (DE X.w d (putE es k y v))) s' → Q () s') : wpAny (model X.prog X.w) A (dictSet d u r) Q E s := dx_dictSetS hu I hd m hk hd8 hz ry rv fun _ _ _ I' => h _ I'
end
end L2.MK
/-! {k: v for .. in ..}, keys of any kind -/
namespace L2.MK
open PySem PySem.Spec PyProof.Rows SeqAt
/-- what a turn stores -/
def StoX (w : World) (D : Addr) (y z : V) (H : Hp) (Nx : Hp → Prop) : Prop := ∃ (es : List En) (k : NestedKey), H D = some (DE w D es) ∧ MixE H es ∧ KeyH H k y ∧ k.depth ≤ 8 ∧ es.length < sizeLine ∧ Nx (upd H D (DE w D (putE es k y z)))
def DcXW (w : World) (J : It) (g : TG) (tt : TT) (tk tv : TE) (vs : List Nat) (σ : St) (H1 : Hp) (Q : Addr → Hp → Prop) : Prop := ∀ D, H1 D = none → ∃ W : Nat → Nat → Hp → Prop, (∃ m, W 0 m (upd H1 D (DE w D []))) ∧ ∀ i m H, W i m H →
  (J.stop i H ∧ Q D H) ∨ (J.go i H ∧ ∃ Nx : Hp → Prop, (∀ H', Nx H' → ∃ m', m' < m ∧ W (i + 1) m' H') ∧ ∀ x H', J.yld i H x H' → g x (wipe σ vs) H' fun σ2 H2 => wipe σ2 vs = wipe σ vs ∧ tt σ2 H2 fun b H3 =>
    if b = true then tk σ2 H3 fun y H4 => tv σ2 H4 fun z H5 => StoX w D y z H5 Nx else Nx H3)
def tDcX (w : World) (wi : TI) (g : TG) (tt : TT) (tk tv : TE) (vs : List Nat) : TE := fun σ H Q => wi σ H fun J H1 => DcXW w J g tt tk tv vs σ H1 fun D H => Q (.ref D) H
section
variable {X : Cx}
theorem dx_empty {P : Program} {w : World} {H : Hp} {h : Heap} (hb : sysModules < h.objs.size) : ObjOk P w H (h.push { cls := .type "dict", data := .dict #[] }) h.objs.size (DE w h.objs.size []) :=
  dx_new (beq_eq_false_iff_ne.mpr (Ne.symm (Nat.ne_of_lt hb))) rfl (Nat.zero_le _) (es := #[]) ⟨_, 0, Heap.get?_push_size _ rfl, ⟨rfl, rfl, rfl⟩, rfl⟩ rfl (fun i e k p a => by simp at a)
theorem pe_dcX {w : World} (hw : X.w = w) {kx vx tg iter : Expr} {ifs : List Expr} {scope : Scope} {own : List (Str × Nat)} {pos : Pos} {wi : TI} {g : TG} {tt : TT} {tk tv : TE} (hu : X.A.units + 8 < cLine) (calm : X.calm = true) (unlike : X.N.Nodup) (walked : PI X tg iter wi) (fits : BlkOk X.N X.env.scope scope own)
    (target : ∀ (s : Shared) (H : Hp) (C : Addr) (cl : List (Str × Addr)) (fp : List Addr), PG (X.blk s H scope (compEnvC scope cl C X.env) fp) tg g) (tests : ∀ (s : Shared) (H : Hp) (C : Addr) (cl : List (Str × Addr)) (fp : List Addr), PTs (X.blk s H scope (compEnvC scope cl C X.env) fp) ifs tt)
    (keyE : ∀ (s : Shared) (H : Hp) (C : Addr) (cl : List (Str × Addr)) (fp : List Addr), PE (X.blk s H scope (compEnvC scope cl C X.env) fp) kx tk)
    (valueE : ∀ (s : Shared) (H : Hp) (C : Addr) (cl : List (Str × Addr)) (fp : List Addr), PE (X.blk s H scope (compEnvC scope cl C X.env) fp) vx tv) (folded : ∀ x, foldedSetIterable iter X.env x = pure x := by intro _; rfl) :
    PE X (.DictComp kx vx [⟨tg, iter, ifs, 0⟩] scope pos) (tDcX w wi g tt tk tv (own.map (·.2))) := by
  subst hw
  refine ⟨fun pins s σ H Q I reading => ?_⟩
  rw [arm_eval_DictComp]
  have cells : ∀ y ∈ scope.names, y.2 = .free → ∃ c, X.env.cells.lookup y.1 = some c := fun y hy e => (fits.free y hy e).elim (fun k => I.ok.has _ (.inl k)) fun k => I.ok.has _ (.inr k)
  refine wpAny_comprehension_free rfl folded (closure_ok cells) fits.kind (fun y hy e => by rw [fits.uniq y hy, e]) (thn (walked.run pins s σ H _ I reading) fun xv s1 hx => thn hx fun itv sA ⟨it, fp, tn, J, HA, eit, IA, T, stA, offA, turns⟩ => ?_)
  subst eit
  refine wpAny_newObj_type (newEnv_comp ?_)
  have newD : HA sA.heap.objs.size = none := IA.hok.fresh (Nat.le_refl _)
  obtain ⟨W, ⟨m0, w0⟩, turn⟩ := turns _ newD
  have IB : Inv X pins σ (upd HA sA.heap.objs.size (DE X.w sA.heap.objs.size [])) { sA with heap := sA.heap.push { cls := .type "dict", data := .dict #[] } } := IA.laid (t' := sA.toks) (fun b o e => Heap.get?_push_of_some _ e) (Nat.le_refl _) (dx_empty IA.big)
  generalize eD : sA.heap.objs.size = D at newD turn w0 IB ⊢
  generalize eB : ({ sA with heap := sA.heap.push { cls := .type "dict", data := .dict #[] } } : Shared) = sB at IB
  have hB : sB.heap = sA.heap.push { cls := .type "dict", data := .dict #[] } := by rw [← eB]
  have offB : ∀ b ∈ fp, FpOk X pins (upd HA D (DE X.w D [])) b ∧ b < sB.heap.objs.size := fun b hb => by
    obtain ⟨o, e, _⟩ := T.obj _ _ stA b hb
    have lt : b < sA.heap.objs.size := Heap.lt_size e
    exact ⟨⟨by rw [upd_ne (by rw [← eD]; exact Nat.ne_of_lt lt)]; exact (offA b hb).1, (offA b hb).2⟩, by rw [hB, Heap.size_push]; exact Nat.lt_succ_of_lt lt⟩
  have stB : tn 0 sB.heap := T.keep _ _ _ stA fun b _ o e => by rw [hB]; exact Heap.get?_push_of_some _ e
  have IC := block_start IB fits unlike offB
  have rg := target sB (upd HA D (DE X.w D [])) sB.heap.objs.size (cellsFrom (sB.heap.objs.size + 1) scope.names (cloFrom X.env.cells scope.names [])) fp
  have rt := tests sB (upd HA D (DE X.w D [])) sB.heap.objs.size (cellsFrom (sB.heap.objs.size + 1) scope.names (cloFrom X.env.cells scope.names [])) fp
  have rk := keyE sB (upd HA D (DE X.w D [])) sB.heap.objs.size (cellsFrom (sB.heap.objs.size + 1) scope.names (cloFrom X.env.cells scope.names [])) fp
  have rv := valueE sB (upd HA D (DE X.w D [])) sB.heap.objs.size (cellsFrom (sB.heap.objs.size + 1) scope.names (cloFrom X.env.cells scope.names [])) fp
  show codeAny _ _ (.compStart (.DictComp kx vx [⟨tg, iter, ifs, 0⟩] scope pos) 0 (.ref it) (.ref D) (compEnvC scope (cellsFrom (sB.heap.objs.size + 1) scope.names (cloFrom X.env.cells scope.names [])) sB.heap.objs.size X.env)) (compPost (model X.prog X.w) X.A X.xe _ _ (.ref D) sB.heap.objs.size) { sB with heap := pushCells (sB.heap.push { cls := .type "dict", data := .dict #[] }) scope.names }
  have offC : ∀ b ∈ fp, (upd HA D (DE X.w D [])) b = none := fun b hb => (offB b hb).1.1
  generalize eE : compEnvC scope (cellsFrom (sB.heap.objs.size + 1) scope.names (cloFrom X.env.cells scope.names [])) sB.heap.objs.size X.env = ce at IC rg rt rk rv ⊢
  have locC : ce.locals = sB.heap.objs.size := by rw [← eE]; rfl
  generalize upd HA D (DE X.w D []) = HB at IB IC rg rt rk rv w0 offB offC
  generalize eC' : ({ sB with heap := pushCells (sB.heap.push { cls := .type "dict", data := .dict #[] }) scope.names } : Shared) = sC at IC ⊢
  have stC : tn 0 sC.heap := T.keep _ _ _ stB fun b _ o e => by rw [← eC']; exact pushCells_keeps _ _ _ _ (Heap.get?_push_of_some _ e)
  have still : ∀ {σ' : St} {H' : Hp} {s' : Shared}, Inv (X.blk sB HB scope ce fp) [] σ' H' s' → (∀ b ∈ fp, H' b = none) → ∀ b ∈ fp, FpOk (X.blk sB HB scope ce fp) [] H' b := fun I' free b hb =>
    ⟨free b hb, (I'.ok.exf b hb).1, I'.ok.exfs b hb, .inl hb, fun x c e => (I'.ok.exf b hb).2 x c e, fun p hp => by rcases List.mem_append.mp (show p ∈ ([] : List (Addr × Obj)) ++ [] from hp) with z | z <;> cases z⟩
  refine (fun body => codeAny_compStart_dict body (T.self X.A 0 _ _ _ stC body)) ?_
  · refine compLoop_anyD (fun n s' => ∃ i H', Inv (X.blk sB HB scope ce fp) [] (wipe σ (own.map (·.2))) H' s' ∧ tn i s'.heap ∧ (∀ b ∈ fp, H' b = none) ∧ W i n H') ?_ m0 ⟨0, HB, IC, stC, offC, w0⟩
    rintro n s5 ⟨i, H5, I5, st5, free5, w5⟩
    rcases turn i n H5 w5 with ⟨ends, goal⟩ | ⟨goes, Nx, lower, step⟩
    · refine thnF (T.done (X.blk sB HB scope ce fp) rfl rfl rfl calm i [] s5 _ H5 (fun _ _ => False) I5 (still I5 free5) st5 ends) fun r s6 ⟨hr, I6⟩ => ?_
      subst hr
      obtain ⟨m, hns, _⟩ := I6.loc
      rw [show (X.blk sB HB scope ce fp).env.locals = sB.heap.objs.size from locC] at hns
      have nC : H5 sB.heap.objs.size = none := by rw [← locC]; exact I6.free
      have back : Inv X pins σ H5 s6 := IB.call' (ch := fp) I6.os I6.base I6.hok I6.bare fun b hb => let f := (offB b hb).1; ⟨f.2.2.2.1, f.2.1, f.2.2.2.2.1, f.2.2.2.2.2⟩
      obtain ⟨_, f1, f2, f3, f4, f5⟩ := IB.fpOk (Nat.le_refl _) nC
      exact ⟨m, hns, fun h'' sb => ⟨.ref D, H5, back.turned (t' := s6.toks) (fun b o hb e => (sb.2 b hb).trans e) nC f1 f3 f4 f5, rfl, goal⟩⟩
    · refine thnF (T.item (X.blk sB HB scope ce fp) rfl rfl rfl calm i [] s5 _ H5 (fun _ _ => False) I5 (still I5 free5) st5 goes) fun r s6 ⟨u, hr, h6⟩ => ?_
      subst hr
      refine thnF h6 fun _ s7 ⟨x, H7, I7, r7, y7, st7, free7⟩ => thnF (rg.run _ s7 _ H7 x u _ (I7.pinned (still I7 free7) (T.obj _ _ st7)) r7 (step x H7 y7)) fun _ s8 ⟨σ8, H8, I8, same8, q8⟩ => thnF (rt.run _ s8 σ8 H8 _ I8 q8) fun yes s9 ⟨H9, I9, q9⟩ => ?_
      have next : ∀ {s' : Shared} {H' : Hp}, Inv (X.blk sB HB scope ce fp) ([] ++ pinsAt fp s7.heap) σ8 H' s' → Nx H' → ∃ m, m < n ∧ ∃ i H', Inv (X.blk sB HB scope ce fp) [] (wipe σ (own.map (·.2))) H' s' ∧ tn i s'.heap ∧ (∀ b ∈ fp, H' b = none) ∧ W i m H' := fun {s' H'} I' nx => by
        obtain ⟨m', less, w'⟩ := lower H' nx
        have pinned : ∀ b ∈ fp, ∀ o, s7.heap.get? b = some o → s'.heap.get? b = some o ∧ H' b = none := fun b hb o e => by
          obtain ⟨z1, z2, _⟩ := I'.pin (b, o) (List.mem_append_right _ (List.mem_append_right _ (mem_pinsAt hb e)))
          exact ⟨z1, z2⟩
        refine ⟨m', less, i + 1, H', (I'.unpinned (pins := [])).weak (by rw [← same8, wipe_length]) (fun j v e => ?_), T.keep _ _ _ st7 fun b hb o e => (pinned b hb o e).1, fun b hb => ?_, w'⟩
        · rw [← same8] at e
          exact (wipe_some e).1
        · obtain ⟨o, e, _⟩ := T.obj _ _ st7 b hb
          exact (pinned b hb o e).2
      cases yes with
      | false => exact next I9 q9
      | true =>
        refine thnF (rk.run _ s9 σ8 H9 _ I9 q9) fun z sK ⟨yk, HK, IK, relK, qK⟩ => thnF (rv.run _ sK σ8 HK _ IK qK) fun z2 sV ⟨yv, HV, IV, relV, es, k, oD, mx, hk, dk, short, nx⟩ => ?_
        exact dx_dictSet (X := X.blk sB HB scope ce fp) hu IV oD mx hk dk short relK relV fun s12 I12 => next I12 nx
end
end L2.MK
/-! k in d, d[k] = v, list(d), list(d.items()), dict(pairs): keys of any kind -/
namespace L2.MK
open PySem PySem.Spec PyProof.Rows SeqAt
section
variable {X : Cx} {pins : List (Addr × Obj)} {σ : L2.St} {H : Hp} {s : Shared} {A : Around} {E : Value → Shared → Prop} {d : Addr} {es : List En} {k : NestedKey} {y v : V} {u r : Value} {o i value : Expr} {td ty tv : TE} {w : World}
theorem valE_at {j : Nat} {e : En} (nd : (es.map (·.1)).Nodup) (h : es[j]? = some e) : valE es e.1 = some e.2.2 := by
  unfold valE
  cases q : es.find? (fun x => decide (x.1 = e.1)) with
  | none => exact absurd (decide_eq_true rfl) (List.find?_eq_none.mp q e (List.mem_of_getElem? h))
  | some x =>
    have ex : x.1 = e.1 := by simpa using List.find?_some q
    obtain ⟨i, hi⟩ := List.mem_iff_getElem?.mp (List.mem_of_find?_eq_some q)
    have e1 : (es.map (·.1))[i]? = some e.1 := by rw [List.getElem?_map, hi, Option.map_some, ex]
    have e2 : (es.map (·.1))[j]? = some e.1 := by rw [List.getElem?_map, h]; rfl
    obtain rfl : i = j := (List.getElem?_inj (List.getElem?_eq_some_iff.mp e1).1 nd).mp (e1.trans e2.symm)
    rw [h] at hi
    rw [← Option.some.inj hi]; rfl
theorem valE_in {v : V} (h : valE es k = some v) : ∃ (j : Nat) (e : En), es[j]? = some e ∧ e.1 = k ∧ e.2.2 = v := by
  unfold valE at h
  obtain ⟨e, q, ev⟩ := Option.map_eq_some_iff.mp h
  obtain ⟨j, hj⟩ := List.mem_iff_getElem?.mp (List.mem_of_find?_eq_some q)
  exact ⟨j, e, hj, by simpa using List.find?_some q, ev⟩
theorem valE_mem : (valE es k).isSome = decide (k ∈ es.map (·.1)) := by
  by_cases h : k ∈ es.map (·.1)
  · rw [decide_eq_true h]
    obtain ⟨e, he, q⟩ := List.mem_map.mp h
    cases z : valE es k with
    | some v => rfl
    | none =>
      unfold valE at z
      rw [Option.map_eq_none_iff] at z
      exact absurd (decide_eq_true q) (List.find?_eq_none.mp z e he)
  · rw [decide_eq_false h]
    cases z : valE es k with
    | none => rfl
    | some v =>
      obtain ⟨j, e, he, q, _⟩ := valE_in z
      exact absurd (List.mem_map.mpr ⟨e, List.mem_of_getElem? he, q⟩) h
/-- the machine's own look -/
theorem dx_get {Q : Option Value → Shared → Prop} (hu : A.units + 8 < cLine) (I : Inv X pins σ H s) (e : Rd H d (DE X.w d es)) (m : MixE H es) (hk : KeyH H k y) (hd8 : k.depth ≤ 8) (ry : RelV y u) (hn : valE es k = none → ∀ t, Q none { s with toks := t }) (hs : ∀ v z t, valE es k = some v → RelV v z → Q (some z) { s with toks := t }) :
    wpAny (model X.prog X.w) A (dictGet d u) Q E s := by
  obtain ⟨_, hl, _, ar, ⟨ob, ep, ho, hc, hdt⟩, hz, al⟩ := dx_rd I.hok e
  refine nk_get hu (hk.is I.hok ry) hd8 ho hdt (dx_ents I.hok m hl hz al) (fun nm => hn ?_ _) fun j en a b => ?_
  · cases z : valE es k with
    | none => rfl
    | some v => have q := valE_mem (es := es) (k := k); rw [z, decide_eq_false nm] at q; cases q
  · rw [List.getElem?_map] at a
    obtain ⟨x, ex, ek⟩ := Option.map_eq_some_iff.mp a
    have ev := valE_at m.nd ex
    rw [ek] at ev
    exact hs _ _ _ ev (al j en x.1 x.2 b (by rw [List.getElem?_map, ex]; rfl) (by rw [List.getElem?_map, ex]; rfl)).2.2
theorem dx_has {Q : Bool → Shared → Prop} (hu : A.in1.units + 8 < cLine) (I : Inv X pins σ H s) (e : Rd H d (DE X.w d es)) (m : MixE H es) (hk : KeyH H k y) (hd8 : k.depth ≤ 8) (ry : RelV y u) (h : ∀ s', Inv X pins σ H s' → Q (valE es k).isSome s') : wpAny (model X.prog X.w) A (contains (.ref d) u) Q E s := by
  have hT := dx_type I e
  obtain ⟨sysn, _⟩ := dx_rd I.hok e
  unfold contains
  try with_reducible refine wpAny_holding ?_
  refine wpAny_bind (wpAny_specialOf hT slot_dict_contains.lookup ?_)
  show wpAny _ _ (if (some (Value.builtin "dict.__contains__") == some Value.none) = true then _ else _) _ E s
  rw [if_neg (by rw [beq_builtin_none]; exact Bool.false_ne_true)]
  refine wpAny_bind (wpAny_callSpecialUnlessNone?_slot (name := Str.ofString "__contains__") hT slot_dict_contains (wpAny_call_entry slot_dict_contains hT entry_dict_contains ?_ (args_dict_contains _ _)))
  show wpAny _ _ (dictGet d u >>= fun _ => _) _ _ s
  refine wpAny_bind (dx_get hu I e m hk hd8 ry (fun z t => ?_) fun v x t z _ => ?_)
  · rw [z] at h
    show wpAny _ _ (Builtin.Dict.pendingKey? d u >>= fun _ => _) _ _ _
    exact wpAny_bind (wpAny_pendingKey_other sysn (wpAny_pure ⟨_, rfl, wpAny_truthy_bool (h _ (I.tok _))⟩))
  · rw [z] at h
    exact wpAny_pure ⟨_, rfl, wpAny_truthy_bool (h _ (I.tok _))⟩
def tDInX (w : World) (neg : Bool) (ty td : TE) : TE := fun σ H Q => ty σ H fun y H1 => td σ H1 fun x H2 => ∃ (d : Addr) (es : List En) (k : NestedKey), x = .ref d ∧ Rd H2 d (DE w d es) ∧ MixE H2 es ∧ KeyH H2 k y ∧ k.depth ≤ 8 ∧ Q (.bl (xor neg (valE es k).isSome)) H2
theorem pc_dinX (hw : X.w = w) (hu : X.A.in1.units + 8 < cLine) (hi : PE X i ty) (ho : PE X o td) : PC X .In i o (tDInX w false ty td) := by
  subst hw
  refine ⟨fun pins s σ H Q I h => thn (hi.run pins s σ H _ I h) fun iv s1 ⟨y, H1, I1, ry, q1⟩ => thn (ho.run pins s1 σ H1 _ I1 q1) fun u s2 ⟨x, H2, I2, rx, d, es, k, ex, e, m, hk, dk, q2⟩ => ?_⟩
  subst ex
  cases (show u = Value.ref d from rx)
  show wpAny _ _ (do return Value.bool (← contains (.ref d) iv)) _ _ s2
  exact wpAny_bind (dx_has hu I2 e m hk dk ry fun s3 I3 => wpAny_pure ⟨.bl (valE es k).isSome, H2, I3, rfl, by simpa using q2⟩)
theorem pc_dnotinX (hw : X.w = w) (hu : X.A.in1.units + 8 < cLine) (hi : PE X i ty) (ho : PE X o td) : PC X .NotIn i o (tDInX w true ty td) := by
  subst hw
  refine ⟨fun pins s σ H Q I h => thn (hi.run pins s σ H _ I h) fun iv s1 ⟨y, H1, I1, ry, q1⟩ => thn (ho.run pins s1 σ H1 _ I1 q1) fun u s2 ⟨x, H2, I2, rx, d, es, k, ex, e, m, hk, dk, q2⟩ => ?_⟩
  subst ex
  cases (show u = Value.ref d from rx)
  show wpAny _ _ (do return Value.bool (!(← contains (.ref d) iv))) _ _ s2
  exact wpAny_bind (dx_has hu I2 e m hk dk ry fun s3 I3 => wpAny_pure ⟨.bl (!(valE es k).isSome), H2, I3, rfl, by simpa using q2⟩)
/-- d[k] = v -/
def sDPutX (w : World) (td ty tv : TE) : TS := fun D σ H => tv σ H fun v H1 => td σ H1 fun x H2 => ty σ H2 fun y H3 => ∃ (d : Addr) (es : List En) (k : NestedKey), x = .ref d ∧ H3 d = some (DE w d es) ∧ MixE H3 es ∧ KeyH H3 k y ∧ k.depth ≤ 8 ∧ es.length < sizeLine ∧ D.nx σ (upd H3 d (DE w d (putE es k y v)))
theorem dx_setItem {Q : Unit → Shared → Prop} (hu : A.in1.units + 8 < cLine) (I : Inv X pins σ H s) (hd : H d = some (DE X.w d es)) (m : MixE H es) (hk : KeyH H k y) (hd8 : k.depth ≤ 8) (hz : es.length < sizeLine) (ry : RelV y u) (rv : RelV v r) (h : ∀ s', Inv X pins σ (upd H d (DE X.w d (putE es k y v))) s' → Q () s') :
    wpAny (model X.prog X.w) A (setItem (.ref d) u r) Q E s := by
  have hT := dx_type I (.inl hd)
  unfold setItem
  try with_reducible refine wpAny_holding ?_
  refine wpAny_bind (wpAny_sequenceKey hT (by decide) (wpAny_bind (wpAny_callSpecial?_slot (name := Str.ofString "__setitem__") hT slot_dict_setitem (wpAny_call_entry slot_dict_setitem hT entry_dict_setitem ?_ (args_dict_setitem _ _ _)))))
  show wpAny _ _ (Builtin.Dict.notOrdered "__setitem__" ⟨[.ref d, u, r], []⟩ >>= fun _ => _) _ _ s
  refine wpAny_bind (wpAny_notOrdered_dict hT ?_)
  show wpAny _ _ (dictSet d u r >>= fun _ => _) _ _ s
  exact wpAny_bind (dx_dictSet hu I hd m hk hd8 hz ry rv fun s' I' => wpAny_pure ⟨.none, rfl, wpAny_pure (h _ I')⟩)
theorem ps_dputX {pos pos' : Pos} (hw : X.w = w) (hu : X.A.in1.units + 8 < cLine) (ho : PE X o td) (hi : PE X i ty) (hv : PE X value tv) (hs : swapsWith value (some (.Subscript o i pos')) pos.line X.env = pure false) : PS X (.Assign [.Subscript o i pos'] value pos) (sDPutX w td ty tv) := by
  subst hw
  refine ⟨fun pins s σ H D I h => wpAny_Assign_Subscript (thn (hv.run pins s σ H _ I h) fun r s1 ⟨v, H1, I1, rv, q1⟩ => thn (ho.run pins s1 σ H1 _ I1 q1) fun u s2 ⟨x, H2, I2, rx, q2⟩ => thn (hi.run pins s2 σ H2 _ I2 q2) fun iv s3 ⟨y, H3, I3, ry, d, es, k, ex, e, m, hk, dk, hz, q3⟩ => ?_) hs⟩
  subst ex
  cases (show u = Value.ref d from rx)
  exact dx_setItem hu I3 e m hk dk hz ry rv fun s4 I4 => ⟨σ, _, I4, q3⟩
/-! ### list(d) -/
theorem call_listX (hc : X.calm = true) : CallR X (.type "list") (fun xs H Q => ∃ (d : Addr) (es : List En), xs = [V.ref d] ∧ Rd H d (DE X.w d es) ∧ ∀ p, H p = none → Q (.ref p) (upd H p (.lst (es.map fun e => e.2.1)))) := by
  intro pins s σ H xs us Q I r h
  obtain ⟨d, es, rfl, e, q⟩ := h
  obtain ⟨u, rfl, ru⟩ := vals1 r
  cases (show u = Value.ref d from ru)
  obtain ⟨hs, hl, hle, ar, ⟨ob, ep, ho, hx, hdt⟩, hz, al⟩ := dx_rd I.hok e
  rw [List.length_map] at hz hle
  refine PySem.W.kdl_call (kdl_raw hs hx hdt) (I.ok.hd hc) ho (by omega) fun h' tk acc c kp oL it => ?_
  have la : acc.toList.length = es.length := by rw [Array.length_toList, it.1, hz]
  have rel : Vals (es.map fun e => e.2.1) acc.toList := vals_of_at (by rw [List.length_map, la]) fun j x z ex ez => by
    rw [List.getElem?_map] at ex
    obtain ⟨en, ee, rfl⟩ := Option.map_eq_some_iff.mp ex
    obtain ⟨de, hde, rfl⟩ := it.2 j z (by rw [← Array.getElem?_toList]; exact ez)
    exact (al j de en.1 en.2 hde (by rw [List.getElem?_map, ee]; rfl) (by rw [List.getElem?_map, ee]; rfl)).2.1
  exact ⟨.ref s.heap.objs.size, _, I.laid (t' := tk) (o := .lst (es.map fun e => e.2.1)) kp (Nat.le_refl _) ⟨by rw [List.length_map]; exact hle, acc.toList, c, rel, by rw [Array.toArray_toList]; exact oL⟩, rfl, q _ (I.hok.fresh (Nat.le_refl _))⟩
end
end L2.MK
/-! joint_of, of one reader: what its lists hold -/
namespace L2.TB
open PySem PySem.Spec PyProof.Rows
def stepM (r : RdT) (s c : Str) : Option Str := (lk r.2.l s).bind fun st => lk st.2.l c
structure RowOk (L : Str) (r : RdT) (spots : List Str) (s : Str) (n : Nat) (row : List Int) : Prop where
  len : row.length = n
  at_ : ∀ j c, j < n → L.cps.toList[j]? = some c → ∃ (k : Nat) (s2 : Str), row[j]? = some (k : Int) ∧ spots[k]? = some s2 ∧ stepM r s (one1 c) = some s2
theorem RowOk.grow {L : Str} {r : RdT} {spots more : List Str} {s : Str} {n : Nat} {row : List Int} (h : RowOk L r spots s n row) : RowOk L r (spots ++ more) s n row :=
  ⟨h.len, fun j c lt e => by
    obtain ⟨k, s2, h1, h2, h3⟩ := h.at_ j c lt e
    exact ⟨k, s2, h1, by rw [List.getElem?_append_left (List.getElem?_eq_some_iff.mp h2).1]; exact h2, h3⟩⟩
theorem RowOk.add {L : Str} {r : RdT} {spots : List Str} {s s2 : Str} {n k : Nat} {row : List Int} (h : RowOk L r spots s n row) {c : Nat} (ec : L.cps.toList[n]? = some c) (ek : spots[k]? = some s2) (st : stepM r s (one1 c) = some s2) : RowOk L r spots s (n + 1) (row ++ [(k : Int)]) :=
  ⟨by rw [List.length_append, h.len]; rfl, fun j d lt e => by
    by_cases hj : j < n
    · obtain ⟨k', s', h1, h2, h3⟩ := h.at_ j d hj e
      exact ⟨k', s', by rw [List.getElem?_append_left (by rw [h.len]; exact hj)]; exact h1, h2, h3⟩
    · obtain rfl : j = n := by omega
      rw [ec] at e
      obtain rfl := Option.some.inj e
      exact ⟨k, s2, by rw [List.getElem?_append_right (by rw [h.len]; exact Nat.le_refl _), h.len, Nat.sub_self]; rfl, ek, st⟩⟩
structure JS (w : World) (H Hc : Hp) (SP NU NX : Addr) (spots : List Str) (ps : List Addr) (rows : List (List Int)) : Prop where
  a1 : H SP = none
  a2 : H NU = none
  a3 : H NX = none
  d1 : SP ≠ NU
  d2 : SP ≠ NX
  d3 : NU ≠ NX
  sp : ∃ ts : List Addr, Hc SP = some (.lst (ts.map V.ref)) ∧ Paired (fun t s => Hc t = some (.tup [.str s])) ts spots
  nu : ∃ es : List MK.En, Hc NU = some (MK.DE w NU es) ∧ MK.MixE Hc es ∧ es.length = spots.length ∧ ∀ i s, spots[i]? = some s → ∃ y : V, es[i]? = some ((NestedKey.tup [NestedKey.text s], y, V.int (i : Nat)) : MK.En)
  nx : Hc NX = some (.lst (ps.map V.ref))
  rw_ : Paired (fun p row => Hc p = some (.lst (row.map V.int)) ∧ H p = none ∧ p ≠ SP ∧ p ≠ NU ∧ p ≠ NX) ps rows
  pn : ps.Nodup
  fr : Same H Hc
section
variable {w : World} {H Hc : Hp} {SP NU NX : Addr} {spots : List Str} {ps : List Addr} {rows : List (List Int)}
theorem JS.same {H' : Hp} (h : JS w H Hc SP NU NX spots ps rows) (s : Same Hc H') : JS w H H' SP NU NX spots ps rows := by
  obtain ⟨ts, h1, h2⟩ := h.sp
  obtain ⟨es, g1, g2, g3, g4⟩ := h.nu
  exact ⟨h.a1, h.a2, h.a3, h.d1, h.d2, h.d3, ⟨ts, s _ _ h1, Paired.mapP h2 fun t x e => s _ _ e⟩, ⟨es, s _ _ g1, g2.mono fun a vs e => s _ _ e, g3, g4⟩, s _ _ h.nx, Paired.mapP h.rw_ fun p r e => ⟨s _ _ e.1, e.2⟩, h.pn, h.fr.trans s⟩
theorem JS.tupne (h : JS w H Hc SP NU NX spots ps rows) {t : Addr} {vs : List V} (e : Hc t = some (.tup vs)) : t ≠ SP ∧ t ≠ NU ∧ t ≠ NX := by
  obtain ⟨ts, h1, h2⟩ := h.sp
  obtain ⟨es, g1, g2, g3, g4⟩ := h.nu
  refine ⟨fun z => ?_, fun z => ?_, fun z => ?_⟩
  · rw [z, h1] at e; cases e
  · rw [z, g1] at e; cases e
  · rw [z, h.nx] at e; cases e
/-- a new row -/
theorem JS.row {p : Addr} (h : JS w H Hc SP NU NX spots ps rows) (np : Hc p = none) : JS w H (upd (upd Hc p (.lst [])) NX (.lst ((ps.map V.ref) ++ [.ref p]))) SP NU NX spots (ps ++ [p]) (rows ++ [[]]) := by
  obtain ⟨ts, h1, h2⟩ := h.sp
  obtain ⟨es, g1, g2, g3, g4⟩ := h.nu
  have up : ∀ b o, b ≠ NX → Hc b = some o → upd (upd Hc p (.lst [])) NX (.lst ((ps.map V.ref) ++ [.ref p])) b = some o := fun b o nb e => by rw [upd_ne nb, upd_ne (ne_of_none e np)]; exact e
  have pX : p ≠ NX := fun z => by rw [z, h.nx] at np; cases np
  have pS : p ≠ SP := fun z => by rw [z, h1] at np; cases np
  have pU : p ≠ NU := fun z => by rw [z, g1] at np; cases np
  refine ⟨h.a1, h.a2, h.a3, h.d1, h.d2, h.d3, ⟨ts, up _ _ h.d2 h1, Paired.mapP h2 fun t x e => up _ _ (h.tupne e).2.2 e⟩, ⟨es, up _ _ h.d3 g1, g2.mono fun a vs e => up _ _ (h.tupne e).2.2 e, g3, g4⟩, ?_, ?_, ?_, fun b o e => up b o (fun z => by rw [z, h.a3] at e; cases e) (h.fr _ _ e)⟩
  · rw [upd_same, List.map_append]; rfl
  · refine paired_join (Paired.mapP h.rw_ fun q r e => ⟨up _ _ e.2.2.2.2 e.1, e.2⟩) ⟨by rw [upd_ne pX, upd_same]; rfl, h.fr.free np, pS, pU, pX⟩
  · rw [List.nodup_append]
    refine ⟨h.pn, by simp, fun a ha b hb z => ?_⟩
    obtain rfl : b = p := by simpa using hb
    obtain ⟨r, _, e, _⟩ := paired_mem h.rw_ ha
    rw [z, np] at e
    cases e
theorem dep1 (s : Str) : (NestedKey.tup [NestedKey.text s]).depth ≤ 8 := by simp [NestedKey.depth, NestedKey.depthAll]
/-- a new spot -/
theorem JS.spot {t : Addr} {s : Str} {es : List MK.En} {ts : List Addr} (h : JS w H Hc SP NU NX spots ps rows) (h1 : Hc SP = some (.lst (ts.map V.ref))) (h2 : Paired (fun t s => Hc t = some (.tup [.str s])) ts spots) (g1 : Hc NU = some (MK.DE w NU es)) (g2 : MK.MixE Hc es) (g3 : es.length = spots.length)
    (g4 : ∀ i s, spots[i]? = some s → ∃ y : V, es[i]? = some ((NestedKey.tup [NestedKey.text s], y, V.int (i : Nat)) : MK.En)) (ot : Hc t = some (.tup [.str s])) (hk : MK.KeyH Hc (.tup [.text s]) (.ref t)) (out : (NestedKey.tup [.text s]) ∉ es.map (·.1)) :
    JS w H (upd (upd Hc NU (MK.DE w NU (MK.putE es (.tup [.text s]) (.ref t) (.int (spots.length : Nat))))) SP (.lst (ts.map V.ref ++ [.ref t]))) SP NU NX (spots ++ [s]) ps rows := by
  have up : ∀ b o, b ≠ SP → b ≠ NU → Hc b = some o → upd (upd Hc NU (MK.DE w NU (MK.putE es (.tup [.text s]) (.ref t) (.int (spots.length : Nat))))) SP (.lst (ts.map V.ref ++ [.ref t])) b = some o := fun b o n1 n2 e => by rw [upd_ne n1, upd_ne n2]; exact e
  have tk : ∀ a vs, Hc a = some (.tup vs) → upd (upd Hc NU (MK.DE w NU (MK.putE es (.tup [.text s]) (.ref t) (.int (spots.length : Nat))))) SP (.lst (ts.map V.ref ++ [.ref t])) a = some (.tup vs) := fun a vs e => up _ _ (h.tupne e).1 (h.tupne e).2.1 e
  refine ⟨h.a1, h.a2, h.a3, h.d1, h.d2, h.d3, ⟨ts ++ [t], by rw [upd_same, List.map_append]; rfl, paired_join (Paired.mapP h2 fun t x e => tk _ _ e) (tk _ _ ot)⟩, ⟨MK.putE es (.tup [.text s]) (.ref t) (.int (spots.length : Nat)), by rw [upd_ne (Ne.symm h.d1), upd_same], (g2.put hk (dep1 s)).mono tk, ?_, ?_⟩, up _ _ (Ne.symm h.d2) (Ne.symm h.d3) h.nx, Paired.mapP h.rw_ fun q r e => ⟨up _ _ e.2.2.1 e.2.2.2.1 e.1, e.2⟩, h.pn, fun b o e => up b o (fun z => by rw [z, h.a1] at e; cases e) (fun z => by rw [z, h.a2] at e; cases e) (h.fr _ _ e)⟩
  · rw [MK.putE_new out, List.length_append, List.length_append, g3]; rfl
  · intro i x e
    rw [MK.putE_new out]
    by_cases hi : i < spots.length
    · rw [List.getElem?_append_left hi] at e
      obtain ⟨y, ey⟩ := g4 i x e
      exact ⟨y, by rw [List.getElem?_append_left (by omega)]; exact ey⟩
    · rw [List.getElem?_append_right (by omega)] at e
      have : i - spots.length = 0 := by
        rcases Nat.eq_zero_or_pos (i - spots.length) with z | z
        · exact z
        · rw [List.getElem?_eq_none (by simp; omega)] at e; cases e
      rw [this] at e
      cases e
      obtain rfl : i = spots.length := by omega
      exact ⟨.ref t, by rw [List.getElem?_append_right (by omega), g3, Nat.sub_self]; rfl⟩
theorem paired_set {α β : Type} {F : α → β → Prop} {as : List α} {bs : List β} {i : Nat} {b : β} (h : Paired F as bs) (k : ∀ a, as[i]? = some a → F a b) : Paired F as (bs.set i b) := by
  induction h generalizing i with
  | nil => exact .nil
  | @cons x y as bs h t ih =>
    cases i with
    | zero => exact .cons (k x rfl) t
    | succ i => exact .cons h (ih fun a e => k a e)
theorem paired_idx {α β : Type} {F G : α → β → Prop} : ∀ {as : List α} {bs : List β}, Paired F as bs → (∀ (i : Nat) a b, as[i]? = some a → bs[i]? = some b → F a b → G a b) → Paired G as bs
  | _, _, .nil, _ => .nil
  | _, _, .cons h t, k => .cons (k 0 _ _ rfl rfl h) (paired_idx t fun i a b e1 e2 f => k (i + 1) a b e1 e2 f)
/-- a number at a row's end -/
theorem JS.num {i : Nat} {p : Addr} {row : List Int} {k : Int} (h : JS w H Hc SP NU NX spots ps rows) (ep : ps[i]? = some p) (er : rows[i]? = some row) : JS w H (upd Hc p (.lst (row.map V.int ++ [.int k]))) SP NU NX spots ps (rows.set i (row ++ [k])) := by
  obtain ⟨ts, h1, h2⟩ := h.sp
  obtain ⟨es, g1, g2, g3, g4⟩ := h.nu
  obtain ⟨row', er', o, n0, n1, n2, n3⟩ := paired_get h.rw_ ep
  rw [er] at er'
  obtain rfl := Option.some.inj er'
  have up : ∀ b o, b ≠ p → Hc b = some o → upd Hc p (.lst (row.map V.int ++ [.int k])) b = some o := fun b o nb e => by rw [upd_ne nb]; exact e
  have tk : ∀ a vs, Hc a = some (.tup vs) → upd Hc p (.lst (row.map V.int ++ [.int k])) a = some (.tup vs) := fun a vs e => up _ _ (fun z => by rw [z, o] at e; cases e) e
  refine ⟨h.a1, h.a2, h.a3, h.d1, h.d2, h.d3, ⟨ts, up _ _ (Ne.symm n1) h1, Paired.mapP h2 fun t x e => tk _ _ e⟩, ⟨es, up _ _ (Ne.symm n2) g1, g2.mono tk, g3, g4⟩, up _ _ (Ne.symm n3) h.nx, ?_, h.pn, fun b o' e => up b o' (fun z => by rw [z, n0] at e; cases e) (h.fr _ _ e)⟩
  refine paired_of _ _ (by rw [List.length_set]; exact Paired.length h.rw_) fun j q r eq er2 => ?_
  by_cases hj : j = i
  · subst hj
    rw [ep] at eq
    obtain rfl := Option.some.inj eq
    rw [List.getElem?_set_self (List.getElem?_eq_some_iff.mp er).1] at er2
    obtain rfl := Option.some.inj er2
    exact ⟨by rw [upd_same, List.map_append]; rfl, n0, n1, n2, n3⟩
  · rw [List.getElem?_set_ne (Ne.symm hj)] at er2
    obtain ⟨r', e', f⟩ := paired_get h.rw_ eq
    rw [er2] at e'
    obtain rfl := Option.some.inj e'
    refine ⟨up _ _ (fun z => ?_) f.1, f.2⟩
    rw [z] at eq
    exact hj ((List.getElem?_inj (List.getElem?_eq_some_iff.mp eq).1 h.pn).mp (eq.trans ep.symm))
end
end L2.TB
/-! joint_of, of one reader -/
namespace L2.TB
open PySem PySem.Spec PyProof.Rows
theorem hu_dx {k : Nat} {A : Around} (hr : Room k A) : A.units + 8 < cLine := by
  have := hr.units
  omega
theorem hu_dy {k : Nat} {A : Around} (hr : Room k A) : A.in1.units + 8 < cLine := by
  have := hr.units
  simp only [Around.in1_units]
  omega
abbrev NJo : List Str := ["letters", "readers", "spots", "at", "numbers", "nexts", "letter", "spot", "tells", "begin", "_", "states", "state"]
theorem scJo : FnScope NJo ["letters", "readers"] (defScope sJoint) := ⟨rfl, rfl, rfl, by decide +kernel, rfl, by decide +kernel, by decide +kernel⟩
abbrev scJt : Scope := { kind := ScopeKind.function, names := [(Str.ofString ".0", NameKind.local), (Str.ofString "spot", NameKind.local), (Str.ofString "zip", NameKind.globalImplicit), (Str.ofString "readers", NameKind.cell)], isGenerator := false, isCoroutine := false }
abbrev gJo (K : PySem.W.Frag) : TG := gTup K 2 (gCons (gTup K 2 (gCons (gName 10) (gCons (gName 11) gNil))) (gCons (gName 12) gNil))
abbrev teJt (K : PySem.W.Frag) : TE := tCB (fun xs H Q => ∃ i, xs = [V.int i] ∧ i.natAbs.log2 < 1920 ∧ Q (.str (toString i)) H) (tCons (tOp (rIx K) (tDGet (tVar 11) (tVar 12)) (tC (.int 0))) tNil)
abbrev rJoi (K : PySem.W.Frag) : V → List V → Hp → VK → Prop := fun x xs H Q => ∃ a p, ∃ ys : List Str, x = .str a ∧ xs = [.ref p] ∧ (SqL K H p (ys.map V.str) ∨ SqT K H p (ys.map V.str)) ∧ (ys.map (·.length)).sum + ys.length * a.length ≤ 16777216 ∧ Q (.str (Txt.join a ys)) H
abbrev teJo (K : PySem.W.Frag) : TE := tM1 (rJoi K) (tC (.str (Str.ofString ""))) (tLc (iZipM K (tCons (tVar 1) (tCons (tVar 7) tNil))) (gJo K) tYes (teJt K) [10, 11, 12])
def digM (r : RdT) (s : Str) : Int := ((lk r.2.l s).map (·.1)).getD 0
def strI (i : Int) : Str := toString i
/-- a joint, of one reader -/
structure JointAt (H : Hp) (L : Str) (r : RdT) (J : Addr) (spots : List Str) (rows : List (List Int)) : Prop where
  o : ∃ (nx tl : Addr) (ps : List Addr), H J = some (.tup [.ref nx, .ref tl]) ∧ H nx = some (.lst (ps.map V.ref)) ∧ Paired (fun p row => H p = some (.lst (row.map V.int))) ps rows ∧ H tl = some (.lst ((spots.map fun s => strI (digM r s)).map V.str))
  s0 : spots[0]? = some r.1
  sub : ∀ s ∈ spots, s ∈ r.2.l.map (·.1)
  len : rows.length = spots.length
  row : ∀ (i : Nat) (s : Str) (ro : List Int), spots[i]? = some s → rows[i]? = some ro → RowOk L r spots s L.length ro
def spJoint : Sp := fun vs H Q _ => ∃ (L : Str) (a : Addr) (v : V) (r : RdT) (A : Addr → Prop), vs = [.str L, .ref a] ∧ H a = some (.lst [v]) ∧ PyD.at_ A H v r ∧ LetOk L ∧ RdOk L r ∧ ∀ H' J spots rows, Same H H' → JointAt H' L r J spots rows → Q (.ref J) H'
theorem key1 {H : Hp} {t : Addr} {s : Str} (h : H t = some (.tup [.str s])) : MK.KeyH H (.tup [.text s]) (.ref t) := .tup h rfl fun i v k e1 e2 => by
  match i with
  | 0 =>
    obtain rfl := Option.some.inj e1
    obtain rfl := Option.some.inj e2
    exact .str s
  | i + 1 => simp at e1
theorem mix1 {H : Hp} {t : Addr} {s : Str} (h : H t = some (.tup [.str s])) : MK.MixE H [(.tup [.text s], .ref t, .int 0)] := by
  refine ⟨fun i k p e1 e2 => ?_, by simp, fun k hk => ?_⟩
  · match i with
    | 0 =>
      obtain rfl := Option.some.inj e1
      obtain rfl := Option.some.inj e2
      exact key1 h
    | i + 1 => simp at e1
  · rw [List.mem_singleton.mp hk]
    exact dep1 _
theorem dig_len {i : Int} (h0 : 0 ≤ i) (h9 : i ≤ 9) : (strI i).length = 1 ∧ Txt.join (Str.ofString "") [strI i] = strI i := by
  have : i = 0 ∨ i = 1 ∨ i = 2 ∨ i = 3 ∨ i = 4 ∨ i = 5 ∨ i = 6 ∨ i = 7 ∨ i = 8 ∨ i = 9 := by omega
  rcases this with h | h | h | h | h | h | h | h | h | h <;> subst h <;> decide +kernel
abbrev sW (L : Str) (a SP : Addr) (i : Int) (NU NX : Addr) (s6 s7 : Option V) : L2.St := [some (.str L), some (.ref a), some (.ref SP), some (.int i), some (.ref NU), some (.ref NX), s6, s7, none, none, none, none, none]
/-- how far the walk is -/
structure WI (L : Str) (r : RdT) (spots : List Str) (rows : List (List Int)) (i : Nat) : Prop where
  nd : spots.Nodup
  sub : ∀ s ∈ spots, s ∈ r.2.l.map (·.1)
  s0 : spots[0]? = some r.1
  row : ∀ (j : Nat) (s : Str) (ro : List Int), j < i → spots[j]? = some s → rows[j]? = some ro → RowOk L r spots s L.length ro
theorem sub_len {a b : List Str} (nd : a.Nodup) (sub : ∀ x ∈ a, x ∈ b) : a.length ≤ b.length := by
  induction a generalizing b with
  | nil => exact Nat.zero_le _
  | cons x a ih =>
    rw [List.nodup_cons] at nd
    have xb := sub x List.mem_cons_self
    have z := ih (b := b.erase x) nd.2 fun y hy => (List.mem_erase_of_ne (fun z : y = x => nd.1 (by rw [← z]; exact hy))).mpr (sub y (List.mem_cons_of_mem _ hy))
    rw [List.length_erase_of_mem xb] at z
    have := List.length_pos_of_mem xb
    rw [List.length_cons]
    omega
section
variable {P : Program} {w : World} {K : PySem.W.Frag} {mg : Str → Option Value} {base : Heap} {f : Addr} {fd : FuncData}
theorem ok_joint (F : Fun K "joint_of" "joint_of" sJoint f fd) (nT : mg "tuple" = none) (nN : mg "len" = none) (nZ : mg "zip" = none) (nS : mg "str" = none) (nW : (0 : Nat) = 0) : FnOk P w K mg base CX0 1 f fd ["letters", "readers"] spJoint := by
  refine F.ok scJo (fun vs H Q E h => by obtain ⟨L, a, v, r, A, e, _⟩ := h; rw [e]; rfl) fun cdv A outer s H vs Q E hr hsp => ?_
  have nd := scJo.nd
  have hu := hu_of hr
  have hu8 := hu_dy hr
  refine ⟨_, pss_cons (ps_par (i := 2) (j := 3) rfl nd rfl rfl (by decide) rfl rfl (pa_cons (pe_lst (pa_cons (pe_callTy call_tuple_of rfl nT boot_tuple' (pa_cons (pe_lc (own := [("begin", 9), ("_", 10)]) (tt := tYes) (g := gTup K 2 (gCons (gName 9) (gCons (gName 10) gNil))) rfl nd (pi_list (pv 1)) (blkOk_by (N := NJo) (sc := defScope sJoint) (by decide +kernel)) (fun _ _ _ _ _ => pg_tup rfl (pgs_cons (pg_name (i := 9) nd rfl (Or.inl rfl)) (pgs_cons (pg_name (i := 10) nd rfl (Or.inl rfl)) pgs_nil))) (fun _ _ _ _ _ => pts_nil) (fun _ _ _ _ _ => pv 9)) pa_nil)) pa_nil)) (pa_cons pe_int pa_nil)) (by rfl))
    (pss_cons (ps_par (i := 4) (j := 5) rfl nd rfl rfl (by decide) rfl rfl (pa_cons (MK.pe_dispX (hu_dx hr) (pps_cons (pe_ix (r := rIxL K) ix_list (pv 2) pe_int (fun _ _ => rfl)) pe_int pps_nil) rfl rfl (by decide) (by decide)) (pa_cons (pe_lst pa_nil) pa_nil)) (by rfl))
    (pss_cons (ps_while PassesOwn.never (pt_cmpR op_lt (pv 3) (pe_callB call_len rfl nN boot_len (pa_cons (pv 2) pa_nil)) (nomark _))
      (pss_cons (ps_expr (pe_bm PySem.F.plainAttrs_list PySem.F.slot_list_append PySem.F.type_list_append mt_append (pv 5) (pa_cons (pe_lst pa_nil) pa_nil)))
      (pss_cons (ps_for PassesOwn.never rfl (pi_str (pv 0)) (pg_name (i := 6) nd rfl (Or.inr rfl))
        (pss_cons (ps_set (i := 7) nd rfl (Or.inl rfl) (pe_callTy call_tuple_of rfl nT boot_tuple' (pa_cons (pe_lc (own := [("_", 10), ("states", 11), ("state", 12)]) (tt := tYes) (g := gJo K) rfl nd (pi_zipM rfl nZ (pa_cons (pv 1) (pa_cons (pe_ix (r := rIxL K) ix_list (pv 2) (pv 3) (fun _ _ => rfl)) pa_nil))) (blkOk_by (N := NJo) (sc := defScope sJoint) (by decide +kernel)) (fun _ _ _ _ _ => pg_tup rfl (pgs_cons (pg_tup rfl (pgs_cons (pg_name (i := 10) nd rfl (Or.inl rfl)) (pgs_cons (pg_name (i := 11) nd rfl (Or.inl rfl)) pgs_nil))) (pgs_cons (pg_name (i := 12) nd rfl (Or.inl rfl)) pgs_nil))) (fun _ _ _ _ _ => pts_nil)
            (fun _ _ _ _ _ => pe_dget hu (pe_ix (r := rIx K) ix_seq (pe_dget hu (pv 11) (pv 12) (fun _ _ => rfl)) pe_int (fun _ _ => rfl)) (pv 6) (fun _ _ => rfl))) pa_nil)))
        (pss_cons (ps_if (pt_cmp (MK.pc_dnotinX (w := w) rfl hu8 (pv 7) (pv 4)))
          (pss_cons (MK.ps_dputX (w := w) rfl hu8 (pv 4) (pv 7) (pe_callB call_len rfl nN boot_len (pa_cons (pv 2) pa_nil)) rfl)
          (pss_one (ps_expr (pe_bm PySem.F.plainAttrs_list PySem.F.slot_list_append PySem.F.type_list_append mt_append (pv 2) (pa_cons (pv 7) pa_nil)))))
          pss_nil)
        (pss_one (ps_expr (pe_bm PySem.F.plainAttrs_list PySem.F.slot_list_append PySem.F.type_list_append mt_append (pe_ix (r := rIxL K) ix_list (pv 5) (pv 3) (fun _ _ => rfl)) (pa_cons (MK.pe_dgetX (X := (cxOf CX0 P w K mg base NJo "joint_of" (defScope sJoint) f cdv A outer s H E).nox) hu8 (pv 4) (pv 7) (fun _ _ => rfl)) pa_nil)))))))
      (pss_one (ps_aug (i := 3) nd rfl (Or.inl rfl) pe_int ip_add)))))
    (pss_cons (ps_setLc (i := 8) (own := [("spot", 7)]) (g := gName 7) (tt := tYes) (te := teJo K) rfl nd rfl rfl (sw_true rfl rfl rfl rfl) (pi_list (pv 2)) (blkOk_by (N := NJo) (sc := defScope sJoint) (by decide +kernel)) (fun _ _ _ _ _ => pg_name (i := 7) nd rfl (Or.inl rfl)) (fun _ _ _ _ _ => pts_nil)
      (fun _ _ _ _ _ => pe_join pe_str (pe_lc (own := [("_", 10), ("states", 11), ("state", 12)]) (tt := tYes) (g := gJo K) (wi := iZipM K (tCons (tVar 1) (tCons (tVar 7) tNil))) (te := teJt K) rfl nd (pi_zipM rfl nZ (pa_cons (pv 1) (pa_cons (pv 7) pa_nil))) (blkOk_by (N := NJo) (sc := scJt) (by decide +kernel)) (fun _ _ _ _ _ => pg_tup rfl (pgs_cons (pg_tup rfl (pgs_cons (pg_name (i := 10) nd rfl (Or.inl rfl)) (pgs_cons (pg_name (i := 11) nd rfl (Or.inl rfl)) pgs_nil))) (pgs_cons (pg_name (i := 12) nd rfl (Or.inl rfl)) pgs_nil))) (fun _ _ _ _ _ => pts_nil)
        (fun _ _ _ _ _ => pe_callTy call_str_int rfl nS boot_str' (pa_cons (pe_ix (r := rIx K) ix_seq (pe_dget hu (pv 11) (pv 12) (fun _ _ => rfl)) pe_int (fun _ _ => rfl)) pa_nil)))))
    (pss_one (ps_ret (pe_tup (pa_cons (pv 5) (pa_cons (pv 8) pa_nil)))))))), ?_⟩
  obtain ⟨L, a, v, r, A0, rfl, oa, at_, lok, ok, hq⟩ := hsp
  obtain ⟨b, x, y, rfl, _, ob, hx, d, es, hy, _, od, ndn, pr⟩ := at_
  have hx : x = .str r.1 := hx
  have hy : y = .ref d := hy
  subst hx hy
  have pst : Paired (StG K A0 H) es r.2.l := Paired.mapP pr fun e q h => at_stG h
  refine ⟨_, rfl, a, rfl, ⟨_, SqL.of oa⟩, lc_gen [V.str r.1] (by show 1 < _; decide) (fun i H' s lt => ⟨[.ref b], .ref b, SqL.of (s _ _ oa), by rw [show i = 0 by have : i < 1 := lt; omega]; rfl⟩) (fun H' s => ⟨[.ref b], SqL.of (s _ _ oa), Nat.le_refl _⟩) ?_ ?_⟩
  · rintro i x y H2 H3 Cn Nn ey s2 ⟨rfl, ex⟩ yes
    have ex := ex _ (SqL.of (s2 _ _ oa))
    have i0 : i = 0 := by
      have := (List.getElem?_eq_some_iff.mp ey).1
      simp at this
      exact this
    subst i0
    obtain rfl := Option.some.inj ex
    obtain rfl := Option.some.inj ey
    exact ⟨b, _, rfl, SqT.of (s2 _ _ ob), rfl, _, _, rfl, _, _, rfl, rfl, rfl, _, rfl, yes _ (Same.refl _)⟩
  intro H1 D nD oD k1
  refine ⟨D, _, rfl, .inl ⟨SqL.of oD, fun t nt => ?_⟩⟩
  have kt := same_new (o := .tup [.str r.1]) nt
  have ot : upd H1 t (.tup [.str r.1]) t = some (.tup [.str r.1]) := upd_same
  have k2 := k1.trans kt
  generalize upd H1 t (.tup [.str r.1]) = H2 at kt ot k2
  refine ⟨by show 1 ≤ sizeLine; decide, fun SP nSP => ⟨_, _, rfl, ?_⟩⟩
  have kS := same_new (o := .lst [.ref t]) nSP
  have oS : upd H2 SP (.lst [.ref t]) SP = some (.lst [.ref t]) := upd_same
  have nS0 := k2.free nSP
  have k3 := k2.trans kS
  have ot3 := kS _ _ ot
  generalize upd H2 SP (.lst [.ref t]) = H3 at kS oS k3 ot3
  refine fun NU nNU => ?_
  have kU := same_new (o := MK.DX w NU [] []) nNU
  refine ⟨_, rfl, SP, _, 0, .ref t, rfl, rfl, SqL.of (kU _ _ oS), rfl, ?_⟩
  refine ⟨upd_same, [.tup [.text r.1]], rfl, ⟨fun i k p e1 e2 => ?_, by simp, fun k hk => ?_⟩, ?_⟩
  · match i with
    | 0 =>
      obtain rfl := Option.some.inj e1
      obtain rfl := Option.some.inj e2
      exact key1 (kU _ _ ot3)
    | i + 1 => simp at e1
  · rw [List.mem_singleton.mp hk]
    exact dep1 _
  have k4 : Same H3 (upd (upd H3 NU (MK.DX w NU [] [])) NU (MK.DX w NU [.tup [.text r.1]] [(.ref t, .int 0)])) := same_upd2 nNU
  have oU : (upd (upd H3 NU (MK.DX w NU [] [])) NU (MK.DX w NU [.tup [.text r.1]] [(.ref t, .int 0)])) NU = some (MK.DE w NU [(.tup [.text r.1], .ref t, .int 0)]) := upd_same
  show tLst tNil _ (upd (upd H3 NU (MK.DX w NU [] [])) NU (MK.DX w NU [.tup [.text r.1]] [(.ref t, .int 0)])) _
  generalize upd (upd H3 NU (MK.DX w NU [] [])) NU (MK.DX w NU [.tup [.text r.1]] [(.ref t, .int 0)]) = H4 at k4 oU
  refine ⟨Nat.zero_le _, fun NX nNX => ⟨_, _, rfl, ?_⟩⟩
  have kX := same_new (o := .lst []) nNX
  have oX : upd H4 NX (.lst []) NX = some (.lst []) := upd_same
  have k04 := k3.trans k4
  have ot5 := kX _ _ (k4 _ _ ot3)
  have oS5 := kX _ _ (k4 _ _ oS)
  have oU5 := kX _ _ oU
  have J0 : JS w H (upd H4 NX (.lst [])) SP NU NX [r.1] [] [] :=
    ⟨nS0, k3.free nNU, k04.free nNX, (fun z => by rw [z, nNU] at oS; cases oS), (fun z => by rw [z] at oS; rw [k4 _ _ oS] at nNX; cases nNX), (fun z => by rw [z, nNX] at oU; cases oU), ⟨[t], oS5, .cons ot5 .nil⟩,
      ⟨[(.tup [.text r.1], .ref t, .int 0)], oU5, mix1 ot5, rfl, fun i s e => by
        match i with
        | 0 =>
          obtain rfl := Option.some.inj e
          exact ⟨_, rfl⟩
        | i + 1 => simp at e⟩, oX, .nil, .nil, k04.trans kX⟩
  generalize upd H4 NX (.lst []) = H5 at J0
  clear kX oX ot5 oS5 oU5 k4 oU nNX k04 nNU kU oS ot3 k3 kS nSP nS0 ot kt k2 k1 oD nD nt
  have n6 := ok.n6
  have nlen : (r.2.l.map (·.1)).length = r.2.l.length := List.length_map _
  refine ⟨fun m σ Hc => ∃ (i : Nat) (spots : List Str) (ps : List Addr) (rows : List (List Int)) (s6 s7 : Option V), σ = sW L a SP (i : Nat) NU NX s6 s7 ∧ JS w H Hc SP NU NX spots ps rows ∧ i ≤ spots.length ∧ rows.length = i ∧ WI L r spots rows i ∧ m = 7 - i,
    ⟨_, 0, [r.1], [], [], none, none, rfl, J0, Nat.zero_le _, rfl, ⟨by simp, fun s hs => by rw [List.mem_singleton.mp hs]; exact ok.bg, rfl, fun j s ro lt => absurd lt (Nat.not_lt_zero _)⟩, rfl⟩, ?_⟩
  rintro m σ Hc ⟨i, spots, ps, rows, s6, s7, rfl, J, il, rl, wi, rfl⟩
  obtain ⟨ts, osp, pts⟩ := J.sp
  have lts : ts.length = spots.length := Paired.length pts
  have lsp : spots.length ≤ 6 := by
    have := sub_len wi.nd wi.sub
    omega
  refine ⟨_, rfl, _, rfl, _, (ts.map V.ref).length, rfl, .inl ⟨_, SqL.of osp, rfl⟩, _, _, rfl, rfl, _, rfl, ?_⟩
  rw [List.length_map, lts]
  by_cases more : i < spots.length
  · rw [decide_eq_true (by omega : ((i : Nat) : Int) < ((spots.length : Nat) : Int))]
    refine iteT ⟨fun σ' H' => ∃ m', m' < 7 - i ∧ ∃ (i : Nat) (spots : List Str) (ps : List Addr) (rows : List (List Int)) (s6 s7 : Option V), σ' = sW L a SP (i : Nat) NU NX s6 s7 ∧ JS w H H' SP NU NX spots ps rows ∧ i ≤ spots.length ∧ rows.length = i ∧ WI L r spots rows i ∧ m' = 7 - i, fun σ' H' h => h, ?_⟩
    have lps : ps.length = rows.length := Paired.length J.rw_
    refine ⟨_, rfl, .inl ⟨rfl, _, SqL.of J.nx⟩, Nat.zero_le _, fun p np => ⟨NX, _, _, rfl, rfl, (by rw [upd_ne (fun z => by rw [← z, J.nx] at np; cases np)]; exact J.nx), by rw [sizeLine_eq, List.length_map]; omega, ?_⟩⟩
    have J1 := J.row np
    generalize upd (upd Hc p (.lst [])) NX (.lst (ps.map V.ref ++ [.ref p])) = H6 at J1
    obtain ⟨si, esi⟩ : ∃ s, spots[i]? = some s := ⟨_, List.getElem?_eq_getElem more⟩
    refine ⟨_, rfl, L, rfl, for_it walk_str (fun n σ' H' => ∃ (spots' : List Str) (ro : List Int) (s6 s7 : Option V), σ' = sW L a SP (i : Nat) NU NX s6 s7 ∧ JS w H H' SP NU NX spots' (ps ++ [p]) (rows ++ [ro]) ∧ WI L r spots' (rows ++ [ro]) i ∧ spots'[i]? = some si ∧ RowOk L r spots' si n ro)
      ⟨spots, [], s6, s7, rfl, J1, ⟨wi.nd, wi.sub, wi.s0, fun j s ro lt e1 e2 => wi.row j s ro lt e1 (by rw [List.getElem?_append_left (by omega)] at e2; exact e2)⟩, esi, ⟨rfl, fun j c lt => absurd lt (Nat.not_lt_zero _)⟩⟩ (fun _ _ _ _ _ => trivial) ?_ ?_⟩
    · rintro n y σ H7 H8 lt ⟨spots', ro, s6, s7, rfl, J7, wi7, esi7, rok⟩ ⟨rfl, c, ec, rfl⟩
      have ecl : L.cps.toList[n]? = some c := by rw [Array.getElem?_toList]; exact ec
      obtain ⟨ts7, osp7, pts7⟩ := J7.sp
      obtain ⟨es7, onu7, mix7, len7, at7⟩ := J7.nu
      have lts7 : ts7.length = spots'.length := Paired.length pts7
      have lsp7 : spots'.length ≤ 6 := by
        have := sub_len wi7.nd wi7.sub
        omega
      have oa7 := J7.fr _ _ oa
      have ob7 := J7.fr _ _ ob
      have od7 := J7.fr _ _ od
      obtain ⟨ti, eti, oti⟩ : ∃ ti, ts7[i]? = some ti ∧ H8 ti = some (.tup [.str si]) := by
        have lt7 : i < ts7.length := by rw [lts7]; exact (List.getElem?_eq_some_iff.mp esi7).1
        obtain ⟨s', es', o'⟩ := paired_get pts7 (List.getElem?_eq_getElem lt7)
        rw [esi7] at es'
        obtain rfl := Option.some.inj es'
        exact ⟨_, List.getElem?_eq_getElem lt7, o'⟩
      -- the state, and the next one
      have sin : si ∈ r.2.l.map (·.1) := wi7.sub _ (List.mem_of_getElem? esi7)
      obtain ⟨st, est, sin2⟩ := lk_in sin
      have cin : one1 c ∈ st.2.l.map (·.1) := (ok.mp _ sin2).mem_iff.mpr (List.mem_map_of_mem (List.mem_of_getElem? ecl))
      obtain ⟨s2, es2, in2⟩ := lk_in cin
      have s2in : s2 ∈ r.2.l.map (·.1) := ok.mv _ sin2 _ in2
      have step : stepM r si (one1 c) = some s2 := by
        unfold stepM
        rw [est]
        exact es2
      obtain ⟨vs, evs, stg⟩ := st_val pst est
      obtain ⟨_, pp, mm, rfl, _, _, opp, omm⟩ := stg
      have opp7 := opp.same J7.fr
      have omm7 := J7.fr _ _ omm
      refine ⟨_, rfl, _, rfl, _, rfl, SP, _, (i : Nat), .ref ti, rfl, rfl, SqL.of osp7, atI_nat (by rw [List.getElem?_map, eti]; rfl), a, ti, [.ref b], [.str si], rfl, SqL.of oa7, SqT.of oti, ?_⟩
      refine lc_gen [V.str s2] (by show 1 < _; decide) (fun i H' s lt => ⟨[.ref b], [.str si], .ref b, .str si, SqL.of (s _ _ oa7), SqT.of (s _ _ oti), by rw [show i = 0 by have : i < 1 := lt; omega]; exact ⟨rfl, rfl⟩⟩) (fun H' s => ⟨[.ref b], [.str si], SqL.of (s _ _ oa7), SqT.of (s _ _ oti), Nat.le_refl _, Nat.le_refl _, .inl rfl⟩) ?_ ?_
      · rintro i' x y H9 H10 Cn Nn ey s9 ⟨T, u1, u2, rfl, nT9, rfl, e1, e2⟩ yes
        have e1 := e1 _ (SqL.of (s9 _ _ oa7))
        have e2 := e2 _ (SqT.of (s9 _ _ oti))
        have i0 : i' = 0 := by
          have : i' < 1 := (List.getElem?_eq_some_iff.mp ey).1
          omega
        subst i0
        obtain rfl := Option.some.inj e1
        obtain rfl := Option.some.inj e2
        obtain rfl := Option.some.inj ey
        have kT := same_new (o := .tup [.ref b, .str si]) nT9
        have k9 := s9.trans kT
        refine ⟨T, _, rfl, SqT.of upd_same, rfl, _, _, rfl, ⟨b, _, rfl, SqT.of (k9 _ _ ob7), rfl, _, _, rfl, _, _, rfl, rfl, _, _, rfl, rfl, ?_⟩⟩
        refine ⟨rfl, _, rfl, _, rfl, d, _, rfl, .inl ⟨es, Sum.inr si, .inl (k9 _ _ od7), rfl, evs.symm⟩, rIx_sq (opp7.same k9) rfl ⟨_, rfl, mm, V.str s2, rfl, .inl ⟨_, Sum.inr (one1 c), .inl (k9 _ _ omm7), rfl, (by rw [val_dkT, es2]; rfl)⟩, yes _ kT⟩⟩
      intro H9 D9 nD9 oD9 k9
      refine ⟨D9, _, rfl, .inl ⟨SqL.of oD9, fun t2 nt2 => ?_⟩⟩
      have kt2 := same_new (o := .tup [.str s2]) nt2
      have ot2 : upd H9 t2 (.tup [.str s2]) t2 = some (.tup [.str s2]) := upd_same
      have J9 := J7.same (k9.trans kt2)
      generalize upd H9 t2 (.tup [.str s2]) = Hd at ot2 J9
      obtain ⟨ts9, osp9, pts9⟩ := J9.sp
      obtain ⟨es9, onu9, mix9, len9, at9⟩ := J9.nu
      have lts9 : ts9.length = spots'.length := Paired.length pts9
      have inkeys : (NestedKey.tup [.text s2]) ∈ es9.map (·.1) ↔ s2 ∈ spots' := by
        constructor
        · intro h
          obtain ⟨e, he, ee⟩ := List.mem_map.mp h
          obtain ⟨j, hj⟩ := List.getElem?_of_mem he
          have lj : j < spots'.length := by rw [← len9]; exact (List.getElem?_eq_some_iff.mp hj).1
          obtain ⟨y, ey⟩ := at9 j _ (List.getElem?_eq_getElem lj)
          rw [hj] at ey
          obtain rfl := Option.some.inj ey
          have z : NestedKey.tup [NestedKey.text spots'[j]] = NestedKey.tup [NestedKey.text s2] := ee
          injection z with z
          injection z with z
          injection z with z
          rw [← z]
          exact List.getElem_mem _
        · intro h
          obtain ⟨j, hj⟩ := List.getElem?_of_mem h
          obtain ⟨y, ey⟩ := at9 j _ hj
          exact List.mem_map.mpr ⟨_, List.mem_of_getElem? ey, rfl⟩
      -- what is told of the spot, once it is there
      have tail : ∀ (spots2 : List Str) (Hz : Hp), JS w H Hz SP NU NX spots2 (ps ++ [p]) (rows ++ [ro]) → WI L r spots2 (rows ++ [ro]) i → spots2[i]? = some si → RowOk L r spots2 si n ro → s2 ∈ spots2 → Hz t2 = some (.tup [.str s2]) → spots2.length ≤ 6 → ∀ (Cn : V → Hp → Prop),
          (∀ H', (∃ (spots' : List Str) (ro : List Int), JS w H H' SP NU NX spots' (ps ++ [p]) (rows ++ [ro]) ∧ WI L r spots' (rows ++ [ro]) i ∧ spots'[i]? = some si ∧ RowOk L r spots' si (n + 1) ro) → Cn .non H') →
          tBM K "list" rAppend (tOp (rIxL K) (tVar 5) (tVar 3)) (tCons (MK.tDGetX w (tVar 4) (tVar 7)) tNil) (sW L a SP (i : Nat) NU NX (some (.str (one1 c))) (some (.ref t2))) Hz Cn := by
        intro spots2 Hz Jz wiz esz rz sz otz lz Cn fin
        obtain ⟨k, hk⟩ := List.getElem?_of_mem sz
        obtain ⟨esz', onz, mixz, lenz, atz⟩ := Jz.nu
        obtain ⟨y, ey⟩ := atz k _ hk
        have epz : (ps ++ [p])[i]? = some p := by rw [List.getElem?_append_right (by omega), show i - ps.length = 0 by omega]; rfl
        have erz : (rows ++ [ro])[i]? = some ro := by rw [List.getElem?_append_right (by omega), show i - rows.length = 0 by omega]; rfl
        obtain ⟨ro', er', oro, _⟩ := paired_get Jz.rw_ epz
        rw [erz] at er'
        obtain rfl := Option.some.inj er'
        have lro : ro.length = n := rz.len
        have l3 := lok.l3
        refine ⟨_, rfl, _, rfl, NX, _, (i : Nat), .ref p, rfl, rfl, SqL.of Jz.nx, atI_nat (by rw [List.getElem?_map, epz]; rfl), .inl ⟨rfl, _, SqL.of oro⟩, _, rfl, _, rfl, NU, _, _, .tup [.text s2], k, (y, .int (k : Nat)), rfl, .inl onz, mixz, key1 otz, (by rw [List.getElem?_map, ey]; rfl), (by rw [List.getElem?_map, ey]; rfl), p, _, _, rfl, rfl, oro, (by rw [sizeLine_eq, List.length_map, lro]; have : n < L.cps.size := lt; have e : L.cps.size = L.length := rfl; omega), ?_⟩
        have Jn := Jz.num (k := (k : Nat)) epz erz
        have es : (rows ++ [ro]).set i (ro ++ [((k : Nat) : Int)]) = rows ++ [ro ++ [((k : Nat) : Int)]] := by
          rw [List.set_append_right _ _ (by omega), show i - rows.length = 0 by omega]
          rfl
        rw [es] at Jn
        refine fin _ ⟨spots2, _, Jn, ⟨wiz.nd, wiz.sub, wiz.s0, fun j s ro' ltj e1 e2 => wiz.row j s ro' ltj e1 (by rw [List.getElem?_append_left (by omega)] at e2 ⊢; exact e2)⟩, esz, rz.add ecl hk step⟩
      refine ⟨_, rfl, _, rfl, NU, es9, .tup [.text s2], rfl, .inl onu9, mix9, key1 ot2, dep1 _, _, rfl, ?_⟩
      rw [MK.valE_mem]
      by_cases has : s2 ∈ spots'
      · rw [decide_eq_true (inkeys.mpr has)]
        refine iteF (tail spots' Hd J9 wi7 esi7 rok has ot2 lsp7 _ ?_)
        rintro H' ⟨sp2, ro2, j1, j2, j3, j4⟩
        exact ⟨sp2, ro2, _, _, rfl, j1, j2, j3, j4⟩
      · have out : (NestedKey.tup [.text s2]) ∉ es9.map (·.1) := fun h => has (inkeys.mp h)
        rw [decide_eq_false out]
        refine iteT ⟨_, rfl, _, (ts9.map V.ref).length, rfl, .inl ⟨_, SqL.of osp9, rfl⟩, _, rfl, _, rfl, NU, es9, .tup [.text s2], rfl, onu9, mix9, key1 ot2, dep1 _, by rw [sizeLine_eq]; omega, ?_⟩
        rw [List.length_map, lts9]
        refine ⟨_, rfl, .inl ⟨rfl, _, SqL.of (by rw [upd_ne J9.d1]; exact osp9)⟩, _, rfl, SP, _, _, rfl, rfl, (by rw [upd_ne J9.d1]; exact osp9), by rw [sizeLine_eq, List.length_map]; omega, ?_⟩
        have Jn := J9.spot osp9 pts9 onu9 mix9 len9 at9 ot2 (key1 ot2) out
        have nd2 : (spots' ++ [s2]).Nodup := by
          rw [List.nodup_append]
          exact ⟨wi7.nd, by simp, fun x hx y hy z => has (by rw [List.mem_singleton.mp hy] at z; rw [← z]; exact hx)⟩
        have sub2 : ∀ s ∈ spots' ++ [s2], s ∈ r.2.l.map (·.1) := fun s hs => by
          rcases List.mem_append.mp hs with h | h
          · exact wi7.sub s h
          · rw [List.mem_singleton.mp h]; exact s2in
        have ot2' := (J9.tupne ot2)
        refine tail (spots' ++ [s2]) _ Jn ⟨nd2, sub2, by rw [List.getElem?_append_left (List.getElem?_eq_some_iff.mp wi7.s0).1]; exact wi7.s0, fun j s ro' ltj e1 e2 => ?_⟩ (by rw [List.getElem?_append_left (List.getElem?_eq_some_iff.mp esi7).1]; exact esi7) rok.grow (List.mem_append_right _ (by simp)) (by rw [upd_ne ot2'.1, upd_ne ot2'.2.1]; exact ot2) (by have := sub_len nd2 sub2; omega) _ ?_
        · rw [List.getElem?_append_left (by have := (List.getElem?_eq_some_iff.mp esi7).1; omega)] at e1
          exact (wi7.row j s ro' ltj e1 e2).grow
        · rintro H' ⟨sp2, ro2, j1, j2, j3, j4⟩
          exact ⟨sp2, ro2, _, _, rfl, j1, j2, j3, j4⟩
    · rintro σ H7 ⟨spots', ro, s6, s7, rfl, J7, wi7, esi7, rok⟩
      have ez : ((i : Nat) : Int) + 1 = ((i + 1 : Nat) : Int) := by omega
      refine ⟨_, rfl, _, _, rfl, rfl, 7 - (i + 1), by omega, i + 1, spots', _, _, s6, s7, (by show List.set (sW L a SP ((i : Nat) : Int) NU NX s6 s7) 3 (some (V.int (((i : Nat) : Int) + 1))) = _; rw [ez]; rfl), J7, (List.getElem?_eq_some_iff.mp esi7).1, by rw [List.length_append, rl]; rfl, ⟨wi7.nd, wi7.sub, wi7.s0, fun j s ro' lt e1 e2 => ?_⟩, rfl⟩
      by_cases hj : j < i
      · exact wi7.row j s ro' hj e1 e2
      · obtain rfl : j = i := by omega
        rw [esi7] at e1
        obtain rfl := Option.some.inj e1
        rw [List.getElem?_append_right (by omega), show j - rows.length = 0 by omega] at e2
        obtain rfl := Option.some.inj e2
        exact rok
  · rw [decide_eq_false (by omega : ¬ ((i : Nat) : Int) < ((spots.length : Nat) : Int))]
    refine iteF ?_
    obtain rfl : i = spots.length := by omega
    have oa7 := J.fr _ _ oa
    have ob7 := J.fr _ _ ob
    have od7 := J.fr _ _ od
    let yl : List V := (spots.map fun s => strI (digM r s)).map V.str
    have yll : yl.length = spots.length := by show ((spots.map _).map _).length = _; rw [List.length_map, List.length_map]
    refine ⟨_, rfl, SP, rfl, ⟨_, SqL.of osp⟩, lc_gen yl (by omega) (fun i H' s lt => ⟨_, _, SqL.of (s _ _ osp), List.getElem?_eq_getElem (by rw [List.length_map]; omega)⟩) (fun H' s => ⟨_, SqL.of (s _ _ osp), by rw [List.length_map]; omega⟩) ?_ ?_⟩
    · rintro i x y H9 H10 Cn Nn ey s9 ⟨rfl, ex⟩ yes
      have ex := ex _ (SqL.of (s9 _ _ osp))
      rw [List.getElem?_map] at ex
      obtain ⟨ti, eti, rfl⟩ := Option.map_eq_some_iff.mp ex
      obtain ⟨si, esi, oti⟩ := paired_get pts eti
      have ey2 : yl[i]? = some (.str (strI (digM r si))) := by
        show ((spots.map _).map V.str)[i]? = _
        rw [List.getElem?_map, List.getElem?_map, esi]
        rfl
      rw [ey] at ey2
      obtain rfl := Option.some.inj ey2
      obtain ⟨st, est, sin2⟩ := lk_in (wi.sub _ (List.mem_of_getElem? esi))
      obtain ⟨vs, evs, stg⟩ := st_val pst est
      obtain ⟨_, pp, mm, rfl, _, _, opp, omm⟩ := stg
      have dg : digM r si = st.1 := by
        unfold digM
        rw [est]
        rfl
      refine ⟨rfl, ?_⟩
      obtain ⟨g0, g9⟩ := ok.d0 _ sin2
      have g0 : 0 ≤ st.1 := g0
      have g9 : st.1 ≤ 9 := g9
      obtain ⟨l1, j1⟩ := dig_len g0 g9
      have oa9 := s9 _ _ oa7
      have oti9 := s9 _ _ oti
      refine ⟨⟨_, rfl⟩, _, rfl, _, rfl, a, ti, [.ref b], [.str si], rfl, SqL.of oa9, SqT.of oti9, ?_⟩
      refine lc_gen [V.str (strI st.1)] (by show 1 < _; decide) (fun i H' s lt => ⟨[.ref b], [.str si], .ref b, .str si, SqL.of (s _ _ oa9), SqT.of (s _ _ oti9), by rw [show i = 0 by have : i < 1 := lt; omega]; exact ⟨rfl, rfl⟩⟩) (fun H' s => ⟨[.ref b], [.str si], SqL.of (s _ _ oa9), SqT.of (s _ _ oti9), Nat.le_refl _, Nat.le_refl _, .inl rfl⟩) ?_ ?_
      · rintro i' x y H11 H12 Cn2 Nn2 ey3 s11 ⟨T, u1, u2, rfl, nT9, rfl, e1, e2⟩ yes2
        have e1 := e1 _ (SqL.of (s11 _ _ oa9))
        have e2 := e2 _ (SqT.of (s11 _ _ oti9))
        have i0 : i' = 0 := by
          have : i' < 1 := (List.getElem?_eq_some_iff.mp ey3).1
          omega
        subst i0
        obtain rfl := Option.some.inj e1
        obtain rfl := Option.some.inj e2
        obtain rfl := Option.some.inj ey3
        have kT := same_new (o := .tup [.ref b, .str si]) nT9
        have k9 := (s9.trans s11).trans kT
        refine ⟨T, _, rfl, SqT.of upd_same, rfl, _, _, rfl, ⟨b, _, rfl, SqT.of (k9 _ _ ob7), rfl, _, _, rfl, _, _, rfl, rfl, _, _, rfl, rfl, ?_⟩⟩
        refine ⟨rfl, _, rfl, _, rfl, d, _, rfl, .inl ⟨es, Sum.inr si, .inl (k9 _ _ od7), rfl, evs.symm⟩, rIx_sq ((opp.same J.fr).same k9) rfl ⟨st.1, rfl, Nat.lt_of_le_of_lt (Nat.log2_le_self _) (by omega), yes2 _ kT⟩⟩
      · intro H11 D nD oD k11
        refine ⟨Str.ofString "", D, [strI st.1], rfl, rfl, .inl (SqL.of oD), by rw [List.map_cons, List.map_nil, List.sum_cons, l1]; show 1 + 0 + 1 * 0 ≤ 16777216; decide, ?_⟩
        rw [j1, ← dg]
        exact yes _ k11
    · intro H9 TL nTL oTL k9
      refine ⟨_, rfl, _, rfl, by show 2 ≤ sizeLine; decide, fun JT nJT => ?_⟩
      have kJ := same_new (o := .tup [.ref NX, .ref TL]) nJT
      have k := k9.trans kJ
      exact hq _ JT spots rows (J.fr.trans k) ⟨⟨NX, TL, ps, upd_same, k _ _ J.nx, Paired.mapP J.rw_ fun p ro e => k _ _ e.1, kJ _ _ oTL⟩, wi.s0, wi.sub, rl, fun j s ro e1 e2 => wi.row j s ro (List.getElem?_eq_some_iff.mp e1).1 e1 e2⟩
end
end L2.TB
/-! told_along, Machines._joint, answers -/
namespace L2.TB
open PySem PySem.Spec PyProof.Rows
def toldG (r : RdT) : Str → List Nat → Str → Str
  | _, [], acc => acc
  | s, c :: cs, acc => toldG r ((stepM r s (one1 c)).getD s) cs (acc ++ strI (digM r ((stepM r s (one1 c)).getD s)))
def toldM (r : RdT) (wd : Str) : Str := toldG r r.1 wd.cps.toList (strI (digM r r.1))
def LetIx (L : Str) : Prop := ∀ c ∈ L.cps.toList, ∃ (i : Nat) (more : List Nat), Builtin.Str.occurrences L (one1 c) 0 L.length 1 = i :: more ∧ L.cps.toList[i]? = some c
/-- the places of a word's letters -/
def PlacesOk (L : Str) (cs : List Nat) (js : List Int) : Prop := Paired (fun (j : Int) c => ∃ n : Nat, j = (n : Int) ∧ n < L.length ∧ L.cps.toList[n]? = some c) js cs
def spAlong : Sp := fun vs H Q _ => ∃ (J pl : Addr) (L : Str) (r : RdT) (spots : List Str) (rows : List (List Int)) (js : List Int) (wd : Str), vs = [.ref J, .ref pl] ∧ JointAt H L r J spots rows ∧ RdOk L r ∧ H pl = some (.lst (js.map V.int)) ∧ PlacesOk L wd.cps.toList js ∧ wd.length < 1000 ∧ Q (.str (toldM r wd)) H
abbrev NAl : List Str := ["joint", "places", "nexts", "tells", "state", "out", "place"]
theorem scAl : FnScope NAl ["joint", "places"] (defScope sAlong) := ⟨rfl, rfl, rfl, by decide +kernel, rfl, by decide +kernel, by decide +kernel⟩
theorem toldG_snoc (r : RdT) : ∀ (cs : List Nat) (s : Str) (acc : Str) (c : Nat), ∃ s2, toldG r s (cs ++ [c]) acc = toldG r s cs acc ++ strI (digM r s2)
  | [], s, acc, c => ⟨_, rfl⟩
  | d :: cs, s, acc, c => toldG_snoc r cs _ _ c
/-- the state behind some letters -/
def walkM (r : RdT) : Str → List Nat → Str
  | s, [] => s
  | s, c :: cs => walkM r ((stepM r s (one1 c)).getD s) cs
theorem walkM_snoc (r : RdT) : ∀ (cs : List Nat) (s : Str) (c : Nat), walkM r s (cs ++ [c]) = (stepM r (walkM r s cs) (one1 c)).getD (walkM r s cs)
  | [], _, _ => rfl
  | _ :: cs, _, c => walkM_snoc r cs _ c
theorem toldG_walk (r : RdT) : ∀ (cs : List Nat) (s : Str) (acc : Str) (c : Nat), toldG r s (cs ++ [c]) acc = toldG r s cs acc ++ strI (digM r (walkM r s (cs ++ [c])))
  | [], _, _, _ => rfl
  | _ :: cs, _, _, c => toldG_walk r cs _ _ c
theorem told_len {L : Str} {r : RdT} (ok : RdOk L r) : ∀ (cs : List Nat) (s acc : Str), s ∈ r.2.l.map (·.1) → (∀ c ∈ cs, c ∈ L.cps.toList) → (toldG r s cs acc).length ≤ acc.length + cs.length ∧ walkM r s cs ∈ r.2.l.map (·.1)
  | [], s, acc, h, _ => ⟨Nat.le_refl _, h⟩
  | c :: cs, s, acc, h, sub => by
    obtain ⟨st, est, sin⟩ := lk_in h
    have cin : one1 c ∈ st.2.l.map (·.1) := (ok.mp _ sin).mem_iff.mpr (List.mem_map_of_mem (sub c List.mem_cons_self))
    obtain ⟨s2, es2, in2⟩ := lk_in cin
    have e : stepM r s (one1 c) = some s2 := by unfold stepM; rw [est]; exact es2
    have s2in : s2 ∈ r.2.l.map (·.1) := ok.mv _ sin _ in2
    obtain ⟨st2, est2, sin2⟩ := lk_in s2in
    have d : digM r s2 = st2.1 := by unfold digM; rw [est2]; rfl
    have dl := (dig_len (ok.d0 _ sin2).1 (ok.d0 _ sin2).2).1
    obtain ⟨z1, z2⟩ := told_len ok cs s2 (acc ++ strI (digM r s2)) s2in fun c hc => sub c (List.mem_cons_of_mem _ hc)
    show (toldG r ((stepM r s (one1 c)).getD s) cs (acc ++ strI (digM r ((stepM r s (one1 c)).getD s)))).length ≤ _ ∧ walkM r ((stepM r s (one1 c)).getD s) cs ∈ _
    rw [e]
    refine ⟨?_, z2⟩
    show (toldG r s2 cs (acc ++ strI (digM r s2))).length ≤ _
    have la : (acc ++ strI (digM r s2)).length = acc.length + (strI (digM r s2)).length := PySem.Str.length_append _ _
    rw [la, d, dl] at z1
    rw [List.length_cons]
    rw [d]
    omega
section
variable {P : Program} {w : World} {K : PySem.W.Frag} {mg : Str → Option Value} {base : Heap} {f C fJ fS fA : Addr} {fd fdJ fdS fdA : FuncData}
theorem ok_along (F : Fun K "told_along" "told_along" sAlong f fd) : FnOk P w K mg base CX0 1 f fd ["joint", "places"] spAlong := by
  refine F.ok scAl (fun vs H Q E h => by obtain ⟨J, pl, L, r, spots, rows, js, wd, e, _⟩ := h; rw [e]; rfl) fun cdv A outer s H vs Q E hr hsp => ?_
  obtain ⟨J, pl, L, r, spots, rows, js, wd, rfl, jt, ok, opl, plok, wsh, hq⟩ := hsp
  obtain ⟨nx, tl, ps, oJ, onx, prw, otl⟩ := jt.o
  have nd := scAl.nd
  refine ⟨_, pss_cons (ps_asg (pv 0) (pg_tup (n := 2) rfl (pgs_cons (pg_name (i := 2) nd rfl (Or.inl rfl)) (pgs_cons (pg_name (i := 3) nd rfl (Or.inl rfl)) pgs_nil))))
    (pss_cons (ps_par (i := 4) (j := 5) rfl nd rfl rfl (by decide) rfl rfl (pa_cons pe_int (pa_cons (pe_ix (r := rIxL K) ix_list (pv 3) pe_int (fun _ _ => rfl)) pa_nil)) (by rfl))
    (pss_cons (ps_for PassesOwn.never rfl (pi_list (pv 1)) (pg_name (i := 6) nd rfl (Or.inl rfl))
      (pss_cons (ps_set (i := 4) nd rfl (Or.inl rfl) (pe_ix (r := rIxL K) ix_list (pe_ix (r := rIxL K) ix_list (pv 2) (pv 4) (fun _ _ => rfl)) (pv 6) (fun _ _ => rfl)))
      (pss_one (ps_aug (i := 5) nd rfl (Or.inl rfl) (pe_ix (r := rIxL K) ix_list (pv 3) (pv 4) (fun _ _ => rfl)) iop_add_str))))
    (pss_one (ps_ret (pv 5))))), ?_⟩
  have tl0 : atI ((spots.map fun s => strI (digM r s)).map V.str) 0 = some (.str (strI (digM r r.1))) := by
    have z := atI_nat (xs := (spots.map fun s => strI (digM r s)).map V.str) (j := 0) (v := .str (strI (digM r r.1))) (by rw [List.getElem?_map, List.getElem?_map, jt.s0]; rfl)
    exact z
  refine ⟨_, rfl, J, _, rfl, SqT.of oJ, rfl, _, _, rfl, _, _, rfl, rfl, ?_⟩
  refine ⟨_, rfl, tl, _, 0, .str (strI (digM r r.1)), rfl, rfl, SqL.of otl, tl0, _, _, rfl, ?_⟩
  let cs := wd.cps.toList
  have lcs : cs.length = wd.length := len_cps wd
  have ljs : js.length = cs.length := Paired.length plok
  have csub : ∀ c ∈ cs, c ∈ L.cps.toList := fun c hc => by
    obtain ⟨k, hk⟩ := List.getElem?_of_mem hc
    have lk' : k < js.length := by rw [ljs]; exact (List.getElem?_eq_some_iff.mp hk).1
    obtain ⟨c', e', n, _, _, h3⟩ := paired_get plok (List.getElem?_eq_getElem lk')
    rw [show wd.cps.toList[k]? = some c from hk] at e'
    obtain rfl := Option.some.inj e'
    exact List.mem_of_getElem? h3
  have d0 : (strI (digM r r.1)).length = 1 := by
    obtain ⟨st, est, sin⟩ := lk_in ok.bg
    have d : digM r r.1 = st.1 := by unfold digM; rw [est]; rfl
    rw [d]
    exact (dig_len (ok.d0 _ sin).1 (ok.d0 _ sin).2).1
  refine ⟨_, rfl, pl, rfl, ⟨_, SqL.of opl⟩, for_list (xs := js.map V.int) (fun k σ H' => H' = H ∧ ∃ (n : Nat) (s6 : Option V), spots[n]? = some (walkM r r.1 (cs.take k)) ∧ σ = [some (.ref J), some (.ref pl), some (.ref nx), some (.ref tl), some (.int (n : Nat)), some (.str (toldG r r.1 (cs.take k) (strI (digM r r.1)))), s6])
    ⟨rfl, 0, none, jt.s0, rfl⟩ (fun k σ H' _ h => by rw [h.1]; exact SqL.of opl) ?_ ?_⟩
  · rintro k x σ H' ex ⟨rfl, n, s6, en, rfl⟩
    rw [List.getElem?_map] at ex
    obtain ⟨j, ej, rfl⟩ := Option.map_eq_some_iff.mp ex
    obtain ⟨c, ec, n', rfl, ln', en'⟩ := paired_get plok ej
    have ec : cs[k]? = some c := ec
    have ln : n < rows.length := by rw [jt.len]; exact (List.getElem?_eq_some_iff.mp en).1
    have ero : rows[n]? = some rows[n] := List.getElem?_eq_getElem ln
    have rok := jt.row n _ _ en ero
    obtain ⟨k2, s2, e1, e2, e3⟩ := rok.at_ n' c ln' en'
    have lps : ps.length = rows.length := Paired.length prw
    obtain ⟨ro, ero2, opn⟩ := paired_get prw (List.getElem?_eq_getElem (by omega : n < ps.length))
    rw [ero] at ero2
    obtain rfl := Option.some.inj ero2
    have et : cs.take (k + 1) = cs.take k ++ [c] := by rw [List.take_succ, ec]; rfl
    have w2 : walkM r r.1 (cs.take (k + 1)) = s2 := by rw [et, walkM_snoc, e3]; rfl
    refine ⟨_, rfl, _, rfl, nx, _, (n : Nat), .ref (ps[n]'(by omega)), rfl, rfl, SqL.of onx, atI_nat (by rw [List.getElem?_map, List.getElem?_eq_getElem (by omega)]; rfl), _, rfl, _, _, (n' : Nat), .int (k2 : Nat), rfl, rfl, SqL.of opn, atI_nat (by rw [List.getElem?_map, e1]; rfl), ?_⟩
    refine ⟨_, rfl, _, rfl, _, rfl, tl, _, (k2 : Nat), .str (strI (digM r s2)), rfl, rfl, SqL.of otl, atI_nat (by rw [List.getElem?_map, List.getElem?_map, e2]; rfl), _, _, rfl, rfl, ?_, ?_⟩
    · have tk := (told_len ok (cs.take k) r.1 (strI (digM r r.1)) ok.bg fun c hc => csub c (List.mem_of_mem_take hc)).1
      have tk2 := List.length_take_le k cs
      have kl := (List.getElem?_eq_some_iff.mp ec).1
      obtain ⟨st, est, sin⟩ := lk_in (jt.sub _ (List.mem_of_getElem? e2))
      have d : digM r s2 = st.1 := by unfold digM; rw [est]; rfl
      have dl := (dig_len (ok.d0 _ sin).1 (ok.d0 _ sin).2).1
      rw [d, dl, sizeLine_eq]
      omega
    · refine ⟨rfl, k2, some (.int (n' : Nat)), by rw [w2]; exact e2, ?_⟩
      have e5 : toldG r r.1 (cs.take (k + 1)) (strI (digM r r.1)) = toldG r r.1 (cs.take k) (strI (digM r r.1)) ++ strI (digM r s2) := by
        rw [et, toldG_walk, ← et, w2]
      rw [e5]
      rfl
  · rintro σ H' ⟨rfl, n, s6, en, rfl⟩
    have e : cs.take (js.map V.int).length = cs := List.take_of_length_le (by rw [List.length_map]; omega)
    rw [e]
    exact ⟨_, rfl, hq⟩
end
end L2.TB
/-! Machines._joint, answers -/
namespace L2.TB
open PySem PySem.Spec PyProof.Rows
theorem at_far {A B : Addr → Prop} {H : Hp} {g : Addr} {es : List (Key × V)} {rs : RsT} {v : V} {r : RdT} (og : H g = some (.dK es)) (h : Paired (DcE B H) es rs) (ne : rs ≠ []) (at_ : PyD.at_ A H v r) : PyD.at_ (fun b => A b ∧ b ≠ g) H v r := by
  obtain ⟨a, x, y, h1, a1, oa, hx, d, fs, hy, a2, od, nd, pr⟩ := at_
  obtain ⟨e0, q0, es', rs', ee, er, h0⟩ : ∃ e0 q0 es' rs', es = e0 :: es' ∧ rs = q0 :: rs' ∧ DcE B H e0 q0 := by
    cases h with
    | nil => exact absurd rfl ne
    | cons h _ => exact ⟨_, _, _, _, rfl, rfl, h⟩
  obtain ⟨_, a0, x0, y0, v0, _, oa0, hx0, _⟩ := h0
  have hx0 : x0 = .str q0.2.1 := hx0
  have tne : ∀ {b : Addr} {l : List V}, H b = some (.tup l) → b ≠ g := fun e z => by rw [z, og] at e; cases e
  have dg : d ≠ g := fun z => by
    rw [z, og] at od
    have e := HO.dK.inj (Option.some.inj od)
    rw [ee] at e
    generalize r.2.l = l0 at pr
    cases pr with
    | nil => cases e
    | @cons x q xs l hx _ =>
      obtain ⟨_, p, u1, u2, v1, _, op, hu1, _⟩ := hx
      have hu1 : u1 = .int q.2.1 := hu1
      have e1 := (List.cons.inj e).1
      rw [← e1, v0] at v1
      obtain rfl := V.ref.inj v1
      rw [op] at oa0
      have z2 := (List.cons.inj (HO.tup.inj (Option.some.inj oa0))).1
      rw [hu1, hx0] at z2
      cases z2
  refine ⟨a, x, y, h1, ⟨a1, tne oa⟩, oa, hx, d, fs, hy, ⟨a2, dg⟩, od, nd, Paired.mapP pr fun e q hx => ?_⟩
  obtain ⟨g1, p, u1, u2, v1, b1, op, hu1, m, ms, hu2, b2, om, ndm, prm⟩ := hx
  refine ⟨g1, p, u1, u2, v1, ⟨b1, tne op⟩, op, hu1, m, ms, hu2, ⟨b2, fun z => ?_⟩, om, ndm, prm⟩
  have em := dk_txt prm
  rw [z, og, ee, em] at om
  have e := HO.dK.inj (Option.some.inj om)
  cases c : q.2.2.l with
  | nil => rw [c] at e; cases e
  | cons y ys =>
    rw [c] at e
    have e3 := (List.cons.inj e).1
    rw [e3] at v0
    cases v0
def spMJoint (C : Addr) : Sp := fun vs H Q _ => ∃ (x a dx D : Addr) (L : Str) (es : List (Key × V)) (v : V) (n : Str) (r : RdT) (A : Addr → Prop), vs = [.ref x, .ref a] ∧ H x = some (.ins C dx (maF L D)) ∧ Rd H D (.dK es) ∧ valV es (Sum.inr n) = some v ∧ PyD.at_ A H v r ∧ H a = some (.lst [.str n]) ∧ LetOk L ∧ RdOk L r ∧ ∀ H' J spots rows, Same H H' → JointAt H' L r J spots rows → Q (.ref J) H'
abbrev NMj : List Str := ["self", "names", "name"]
theorem scMJ : FnScope NMj ["self", "names"] (defScope sJointM) := ⟨rfl, rfl, rfl, by decide +kernel, rfl, by decide +kernel, by decide +kernel⟩
def spMAns (C : Addr) : Sp := fun vs H Q _ => ∃ (x : Addr) (L wd : Str) (rs : RsT) (A : Addr → Prop), vs = [.ref x, .str wd] ∧ MachA A H C x L rs ∧ LetOk L ∧ LetIx L ∧ RsOk L rs ∧ (∀ c ∈ wd.cps.toList, c ∈ L.cps.toList) ∧ wd.length < 1000 ∧
  ∀ H' q, H q = none → H' q = some (.dK (dkT (rs.map fun e => (e.1, toldM e.2 wd)))) → Same H H' → Q (.ref q) H'
abbrev NMa : List Str := ["self", "world", "places", "letter", "name"]
theorem scMAns : FnScope NMa ["self", "world"] (defScope sAnswers) := ⟨rfl, rfl, rfl, by decide +kernel, rfl, by decide +kernel, by decide +kernel⟩
abbrev tvAn (C : Addr) : TE := tCall spAlong [] E0 (tCons (tMeth C "_joint" (spMJoint C) [] E0 (tVar 0) (tCons (tLst (tCons (tVar 4) tNil)) tNil)) (tCons (tVar 2) tNil))
abbrev rIxO : V → List V → Hp → VK → Prop := fun x xs H Q => ∃ a b i rest, x = .str a ∧ xs = [.str b] ∧ Builtin.Str.occurrences a b 0 a.length 1 = i :: rest ∧ Q (.int (i : Nat)) H
def idxN (L : Str) (c : Nat) : Nat := (Builtin.Str.occurrences L (one1 c) 0 L.length 1).headD 0
theorem idx_ok {L : Str} (lix : LetIx L) {c : Nat} (h : c ∈ L.cps.toList) : ∃ more, Builtin.Str.occurrences L (one1 c) 0 L.length 1 = idxN L c :: more ∧ L.cps.toList[idxN L c]? = some c := by
  obtain ⟨i, more, e1, e2⟩ := lix c h
  have e : idxN L c = i := by unfold idxN; rw [e1]; rfl
  rw [e]
  exact ⟨more, e1, e2⟩
theorem paired_mapL {α β : Type} {F : β → α → Prop} (g : α → β) : ∀ l : List α, (∀ x ∈ l, F (g x) x) → Paired F (l.map g) l
  | [], _ => .nil
  | x :: l, h => .cons (h x List.mem_cons_self) (paired_mapL g l fun y hy => h y (List.mem_cons_of_mem _ hy))
section
variable {P : Program} {w : World} {K : PySem.W.Frag} {mg : Str → Option Value} {base : Heap} {f C fJ fS fA : Addr} {fd fdJ fdS fdA : FuncData}
theorem ok_mJoint (F : Fun K "_joint" "Machines._joint" sJointM f fd) (S : MaC K C) (FJ : Fun K "joint_of" "joint_of" sJoint fJ fdJ) (gJ : mg "joint_of" = some (.ref fJ)) (GJ : FnOk P w K mg base CX0 1 fJ fdJ ["letters", "readers"] spJoint) : FnOk P w K mg base CX0 2 f fd ["self", "names"] (spMJoint C) := by
  have bJ := FJ.binds (ps := ["letters", "readers"]) fun _ _ _ _ _ _ us hl => match us, hl with | [_, _], _ => rfl
  refine F.ok scMJ (fun vs H Q E h => by obtain ⟨x, a, dx, D, L, es, v, n, r, A, e, _⟩ := h; rw [e]; rfl) fun cdv A outer s H vs Q E hr hsp => ?_
  obtain ⟨x, a, dx, D, L, es, v, n, r, A0, rfl, hx, hD, ev, at_, oa, lok, ok, hq⟩ := hsp
  have nd := scMJ.nd
  have hu := hu_of hr
  refine ⟨_, pss_one (ps_ret (pe_call GJ hr rfl gJ FJ.kp bJ .nil pass0 (pa_cons (pe_fld (pv 0) rfl) (pa_cons (pe_lc (own := [("name", 2)]) (tt := tYes) (g := gName 2) (te := tDGet (tFld K (tVar 0) "_readers") (tVar 2)) rfl nd (pi_list (pv 1)) (blkOk_by (N := NMj) (sc := defScope sJointM) (by decide +kernel)) (fun _ _ _ _ _ => pg_name (i := 2) nd rfl (Or.inl rfl)) (fun _ _ _ _ _ => pts_nil) (fun _ _ _ _ _ => pe_dget hu (pe_fld (pv 0) rfl) (pv 2) (fun _ _ => rfl))) pa_nil)))), ?_⟩
  have rd_same : ∀ {H' : Hp}, Same H H' → Rd H' D (.dK es) := fun s => hD.imp (fun h => s _ _ h) (fun ⟨o, h⟩ => ⟨o, s _ _ h⟩)
  refine ⟨_, rfl, x, C, dx, _, _, rfl, hx, S.cl, S.nL, rfl, _, rfl, a, rfl, ⟨_, SqL.of oa⟩, lc_gen [v] (by show 1 < _; decide) (fun i H' s lt => ⟨[.str n], .str n, SqL.of (s _ _ oa), by rw [show i = 0 by have : i < 1 := lt; omega]; rfl⟩) (fun H' s => ⟨[.str n], SqL.of (s _ _ oa), Nat.le_refl _⟩) ?_ ?_⟩
  · rintro i y z H2 H3 Cn Nn ey s2 ⟨rfl, ex⟩ yes
    have ex := ex _ (SqL.of (s2 _ _ oa))
    have i0 : i = 0 := by
      have : i < 1 := (List.getElem?_eq_some_iff.mp ey).1
      omega
    subst i0
    obtain rfl := Option.some.inj ex
    obtain rfl := Option.some.inj ey
    exact ⟨rfl, _, rfl, x, C, dx, _, _, rfl, s2 _ _ hx, S.cl, S.nR, rfl, _, rfl, D, _, rfl, .inl ⟨es, Sum.inr n, rd_same s2, rfl, ev.symm⟩, yes _ (Same.refl _)⟩
  · intro H1 D1 nD oD k1
    exact ⟨L, D1, v, r, A0, rfl, oD, PyD.kp at_ fun b o a e => ⟨a, k1 _ _ e⟩, lok, ok, fun H' J spots rows k2 jt => hq H' J spots rows (k1.trans k2) jt⟩
theorem ok_mAns (F : Fun K "answers" "Machines.answers" sAnswers f fd) (S : MaC K C) (FS : Fun K "is_string_of" "is_string_of" sIsStr fS fdS) (gS : mg "is_string_of" = some (.ref fS)) (GS : FnOk P w K mg base CX0 1 fS fdS ["letters", "thing"] spIsStr) (FA : Fun K "told_along" "told_along" sAlong fA fdA) (gA : mg "told_along" = some (.ref fA))
    (mJ : Meth K C "_joint" fJ) (GJ : FnOk P w K mg base CX0 2 fJ fdJ ["self", "names"] (spMJoint C)) (bJ : Binds K fdJ ["self", "names"] []) : FnOk P w K mg base CX0 3 f fd ["self", "world"] (spMAns C) := by
  have GA : FnOk P w K mg base CX0 1 fA fdA ["joint", "places"] spAlong := ok_along FA
  have bA := FA.binds (ps := ["joint", "places"]) fun _ _ _ _ _ _ us hl => match us, hl with | [_, _], _ => rfl
  have bS := FS.binds (ps := ["letters", "thing"]) fun _ _ _ _ _ _ us hl => match us, hl with | [_, _], _ => rfl
  refine F.ok scMAns (fun vs H Q E h => by obtain ⟨x, L, wd, rs, A, e, _⟩ := h; rw [e]; rfl) fun cdv A outer s H vs Q E hr hsp => ?_
  obtain ⟨x, L, wd, rs, A0, rfl, hx, lok, lix, ok, sub, wsh, hq⟩ := hsp
  obtain ⟨dx, D, h1, D', es, e1, _, oD, nD, pr⟩ := hx.ex
  obtain rfl := V.ref.inj e1
  have nd := scMAns.nd
  refine ⟨_, pss_cons (ps_if (pt_not (pt_val (pe_call GS (hr.mono (by decide)) rfl gS FS.kp bS .nil pass0 (pa_cons (pe_fld (pv 0) rfl) (pa_cons (pv 1) pa_nil))))) (pss_one ps_never) pss_nil)
    (pss_cons (ps_set (i := 2) nd rfl (Or.inr rfl) (pe_lc (own := [("letter", 3)]) (tt := tYes) (g := gName 3) (te := tBM K "str" rIxO (tFld K (tVar 0) "_letters") (tCons (tVar 3) tNil)) rfl nd (pi_str (pv 1)) (blkOk_by (N := NMa) (sc := defScope sAnswers) (by decide +kernel)) (fun _ _ _ _ _ => pg_name (i := 3) nd rfl (Or.inl rfl)) (fun _ _ _ _ _ => pts_nil)
      (fun _ _ _ _ _ => pe_bm PySem.F.plainAttrs_str PySem.F.slot_str_index PySem.F.type_str_index mt_sindex (pe_fld (pv 0) rfl) (pa_cons (pv 3) pa_nil))))
    (pss_one (ps_ret (pe_lock (pe_dc (own := [("name", 4)]) (tt := tYes) (g := gName 4) (tk := tVar 4) (tv := tvAn C) rfl nd (pi_keys (pe_fld (pv 0) rfl)) (blkOk_by (N := NMa) (sc := defScope sAnswers) (by decide +kernel)) (fun _ _ _ _ _ => pg_name (i := 4) nd rfl (Or.inl rfl)) (fun _ _ _ _ _ => pts_nil) (fun _ _ _ _ _ => pv 4)
      (fun _ _ _ _ _ => pe_call GA (hr.mono (by decide)) rfl gA FA.kp bA .nil pass0 (pa_cons (pe_meth (pv 0) S.cl mJ GJ hr bJ .nil pass0 (pa_cons (pe_lst (pa_cons (pv 4) pa_nil)) pa_nil)) (pa_cons (pv 2) pa_nil)))))))), ?_⟩
  let cs := wd.cps.toList
  have lcs : cs.length = wd.length := len_cps wd
  let js : List Int := cs.map fun c => (idxN L c : Int)
  have ljs : (js.map V.int).length = wd.length := by show ((cs.map _).map V.int).length = _; rw [List.length_map, List.length_map, lcs]
  have jsok : PlacesOk L cs js := paired_mapL (fun c => (idxN L c : Int)) cs fun c hc => by
    obtain ⟨more, _, e2⟩ := idx_ok lix (sub c hc)
    exact ⟨idxN L c, rfl, by have z := (List.getElem?_eq_some_iff.mp e2).1; rw [len_cps] at z; exact z, e2⟩
  refine ⟨_, rfl, x, C, dx, _, _, rfl, h1, S.cl, S.nL, rfl, _, rfl, L, wd, rfl, sub, wsh, fun H1 k1 => ⟨_, rfl, iteF ?_⟩⟩
  have lw : wd.cps.size = wd.length := rfl
  refine ⟨_, rfl, wd, rfl, lc_gen (js.map V.int) (by omega) (fun i H' _ lt => ?_) (fun H' _ => ?_) ?_ ?_⟩
  · rw [ljs] at lt; exact lt
  · rw [ljs]; exact Nat.le_refl _
  · rintro i v y H2 H3 Cn Nn ey s2 ⟨rfl, c, ec, rfl⟩ yes
    have ecl : cs[i]? = some c := by show wd.cps.toList[i]? = _; rw [Array.getElem?_toList]; exact ec
    have ej : (js.map V.int)[i]? = some (.int (idxN L c : Int)) := by
      show ((cs.map _).map V.int)[i]? = _
      rw [List.getElem?_map, List.getElem?_map, ecl]
      rfl
    rw [ej] at ey
    obtain rfl := Option.some.inj ey
    obtain ⟨more, e1, _⟩ := idx_ok lix (sub c (List.mem_of_getElem? ecl))
    refine ⟨rfl, ?_⟩
    refine ⟨_, rfl, x, C, dx, _, _, rfl, s2 _ _ (k1 _ _ h1), S.cl, S.nL, rfl, rfl, _, rfl, L, one1 c, idxN L c, more, rfl, rfl, e1, yes H3 (Same.refl _)⟩
  intro H2 PL nPL oPL k2
  have k02 := k1.trans k2
  have oD2 := k02 _ _ oD
  have h12 := k02 _ _ h1
  have les : es.length = rs.length := Paired.length pr
  have kes := dc_keys pr
  have kes : es.map (·.1) = (rs.map (·.1)).map Sum.inr := kes
  have ndes : (es.map (·.1)).Nodup := by rw [kes]; exact nd_inr nD
  have n0 := ok.n0
  have n1 := ok.n1
  have ne : rs ≠ [] := fun z => by rw [z] at n0; exact absurd n0 (by decide)
  have xD : x ≠ D := fun z => by rw [z, oD] at h1; cases h1
  have PD : PL ≠ D := fun z => by rw [z, oD2] at oPL; cases oPL
  refine ⟨D, _, oD2, trivial, fun od => ⟨_, rfl, x, C, dx, _, _, rfl, (by rw [upd_ne xD]; exact h12), S.cl, S.nR, rfl, D, od, rfl, .inl ⟨es, upd_same, ?_⟩⟩⟩
  have oL : upd H2 D (.frz od (.dK es)) D = some (.frz od (.dK es)) := upd_same
  have up : ∀ b o, b ≠ D → H2 b = some o → upd H2 D (.frz od (.dK es)) b = some o := fun b o nb e => by rw [upd_ne nb]; exact e
  refine dc_madeN (es.map (·.1)) (by rw [List.length_map]; omega) ndes (fun i H' s lt => ⟨s _ _ oL, by rw [List.length_map] at lt; exact lt⟩) (fun H' s => ⟨s _ _ oL, by rw [List.length_map]; exact Nat.le_refl _⟩)
    (fun i y _ => ∃ q, rs[i]? = some q ∧ y = .str (toldM q.2 wd)) (fun i y H6 H7 D l h _ _ => h) ?_ ?_
  · rintro i y k H6 H7 Cn Nn ek s6 ⟨rfl, k2', v0, ek2, rfl⟩ yes
    rw [List.getElem?_map, ek2] at ek
    obtain rfl : k2' = k := Option.some.inj ek
    obtain ⟨q, eq, hk, at1⟩ := paired_get pr ek2
    have hk : k2' = Sum.inr q.1 := hk
    subst hk
    have ev := valV_atN ndes ek2
    have qin := List.mem_of_getElem? eq
    have atf := at_far oD pr ne at1
    refine ⟨rfl, ?_⟩
    refine ⟨_, rfl, _, rfl, x, dx, _, rfl, s6 _ _ (up _ _ xD h12), rfl, _, rfl, by show 1 ≤ sizeLine; decide, fun ls nls => ?_⟩
    have kl := same_new (o := .lst [.str q.1]) nls
    refine ⟨x, ls, dx, D, L, es, v0, q.1, q.2, _, rfl, kl _ _ (s6 _ _ (up _ _ xD h12)), .inr ⟨od, kl _ _ (s6 _ _ oL)⟩, ev, PyD.kp atf fun b o a e => ⟨a, kl _ _ (s6 _ _ (up _ _ a.2 (k02 _ _ e)))⟩, upd_same, lok, ok.rd q qin, fun H8 J spots rows k8 jt => ?_⟩
    refine ⟨_, rfl, J, PL, L, q.2, spots, rows, js, wd, rfl, jt, ok.rd q qin, k8 _ _ (kl _ _ (s6 _ _ (up _ _ PD oPL))), jsok, wsh, yes _ _ ⟨q, eq, rfl⟩ (kl.trans k8)⟩
  · intro H6 D2 kvs nD2 oD6 ek2 hR s6
    obtain ⟨b1, s26⟩ := lock_offN oD2 s6
    have Dn : D2 ≠ D := fun z => by rw [z, oL] at nD2; cases nD2
    have nD22 : H2 D2 = none := by rw [upd_ne Dn] at nD2; exact nD2
    refine ⟨b1, hq _ D2 (k02.free nD22) ?_ (k02.trans s26)⟩
    rw [upd_ne Dn, oD6]
    congr 2
    refine dkT_at (by rw [dkT_keys, ek2, kes, List.map_map, List.map_map, List.map_map]; rfl) fun j k y e => ?_
    obtain ⟨q, eq, rfl⟩ := hR j k y e
    exact ⟨(q.1, toldM q.2 wd), by rw [List.getElem?_map, eq]; rfl, rfl⟩
end
end L2.TB
/-! _law_m_told, _law_m_word, _law_with, _law_part -/
namespace L2.TB
open PySem PySem.Spec PyProof.Rows
def spToldL : Sp := fun vs H Q _ => ∃ (v : V) (L wd : Str) (r : RdT) (A : Addr → Prop), vs = [v, .str wd] ∧ PyD.at_ A H v r ∧ RdOk L r ∧ (∀ c ∈ wd.cps.toList, c ∈ L.cps.toList) ∧ wd.length < 1000 ∧ Q (.str (toldM r wd)) H
abbrev NTl : List Str := ["reader", "word", "state", "text", "letter"]
theorem scTl : FnScope NTl ["reader", "word"] (defScope sToldL) := ⟨rfl, rfl, rfl, by decide +kernel, rfl, by decide +kernel, by decide +kernel⟩
def spWordL : Sp := fun vs H Q _ => ∃ (l ls : Addr) (L : Str) (most N : Int), vs = [.ref l, .str L, .int most] ∧ Strm H l ls N ∧ N ≤ 900000 ∧ 0 < L.length ∧ L.length ≤ 3 ∧ 0 ≤ most ∧ most ≤ 20 ∧
  ∀ H' wd, (∀ c ∈ wd.cps.toList, c ∈ L.cps.toList) → wd.length ≤ 20 → Strm H' l ls (N + 22) → But l ls H H' → Q (.str wd) H'
abbrev NWd : List Str := ["stream", "letters", "most", "k"]
theorem scWd : FnScope NWd ["stream", "letters", "most"] (defScope sWordL) := ⟨rfl, rfl, rfl, by decide +kernel, rfl, by decide +kernel, by decide +kernel⟩
section
variable {P : Program} {w : World} {K : PySem.W.Frag} {mg : Str → Option Value} {base : Heap} {f fD fP : Addr} {fd fdD fdP : FuncData}
theorem ok_toldL (F : Fun K "_law_m_told" "_law_m_told" sToldL f fd) (nS : mg "str" = none) : FnOk P w K mg base CX0 1 f fd ["reader", "word"] spToldL := by
  refine F.ok scTl (fun vs H Q E h => by obtain ⟨v, L, wd, r, A, e, _⟩ := h; rw [e]; rfl) fun cdv A outer s H vs Q E hr hsp => ?_
  obtain ⟨v, L, wd, r, A0, rfl, at_, ok, sub, wsh, hq⟩ := hsp
  obtain ⟨b, x, y, rfl, _, ob, hx, d, es, hy, _, od, ndn, pr⟩ := at_
  have hx : x = .str r.1 := hx
  have hy : y = .ref d := hy
  subst hx hy
  have pst : Paired (StG K A0 H) es r.2.l := Paired.mapP pr fun e q h => at_stG h
  have nd := scTl.nd
  have hu := hu_of hr
  refine ⟨_, pss_cons (ps_par (i := 2) (j := 3) rfl nd rfl rfl (by decide) rfl rfl (pa_cons (pe_ix (r := rIx K) ix_seq (pv 0) pe_int (fun _ _ => rfl)) (pa_cons (pe_callTy call_str_int rfl nS boot_str' (pa_cons (pe_ix (r := rIx K) ix_seq (pe_dget hu (pe_ix (r := rIx K) ix_seq (pv 0) pe_int (fun _ _ => rfl)) (pe_ix (r := rIx K) ix_seq (pv 0) pe_int (fun _ _ => rfl)) (fun _ _ => rfl)) pe_int (fun _ _ => rfl)) pa_nil)) pa_nil)) (by rfl))
    (pss_cons (ps_for PassesOwn.never rfl (pi_str (pv 1)) (pg_name (i := 4) nd rfl (Or.inl rfl))
      (pss_cons (ps_set (i := 2) nd rfl (Or.inl rfl) (pe_dget hu (pe_ix (r := rIx K) ix_seq (pe_dget hu (pe_ix (r := rIx K) ix_seq (pv 0) pe_int (fun _ _ => rfl)) (pv 2) (fun _ _ => rfl)) pe_int (fun _ _ => rfl)) (pv 4) (fun _ _ => rfl)))
      (pss_one (ps_set (i := 3) nd rfl (Or.inl rfl) (pe_op op_add_str (pv 3) (pe_callTy call_str_int rfl nS boot_str' (pa_cons (pe_ix (r := rIx K) ix_seq (pe_dget hu (pe_ix (r := rIx K) ix_seq (pv 0) pe_int (fun _ _ => rfl)) (pv 2) (fun _ _ => rfl)) pe_int (fun _ _ => rfl)) pa_nil)))))))
    (pss_one (ps_ret (pv 3)))), ?_⟩
  have ixb : ∀ {i : Int} {v : V} {R : VK}, atI [V.str r.1, .ref d] i = some v → R v H → rIx K (.ref b) (.int i) H R := fun e q => rIx_sq (.inr ob) e q
  have dig : ∀ s, s ∈ r.2.l.map (·.1) → ∃ p m st, lk r.2.l s = some st ∧ (s, st) ∈ r.2.l ∧ DGet H d (.str s) (some (.ref p)) ∧ SqA K H p [.int st.1, .ref m] ∧ H m = some (.dK (dkT st.2.l)) ∧ digM r s = st.1 ∧ 0 ≤ st.1 ∧ st.1 ≤ 9 := fun s hs => by
    obtain ⟨st, est, sin⟩ := lk_in hs
    obtain ⟨vs, evs, _, p, m, rfl, _, _, op, om⟩ := st_val pst est
    exact ⟨p, m, st, est, sin, .inl ⟨es, Sum.inr s, .inl od, rfl, evs.symm⟩, op, om, by unfold digM; rw [est]; rfl, (ok.d0 _ sin).1, (ok.d0 _ sin).2⟩
  let cs := wd.cps.toList
  have lcs : cs.length = wd.length := len_cps wd
  obtain ⟨p0, m0, st0, est0, sin0, dg0, op0, om0, e0, z0, z9⟩ := dig _ ok.bg
  refine ⟨_, rfl, ixb rfl ⟨_, rfl, ixb rfl ⟨_, rfl, ixb rfl ⟨d, _, rfl, dg0, rIx_sq op0 rfl ⟨st0.1, rfl, Nat.lt_of_le_of_lt (Nat.log2_le_self _) (by omega), _, _, rfl, ?_⟩⟩⟩⟩⟩
  have lw : wd.cps.size = wd.length := rfl
  rw [← e0]
  refine ⟨_, rfl, wd, rfl, for_it walk_str (fun k σ H' => H' = H ∧ ∃ s4, σ = [some (.ref b), some (.str wd), some (.str (walkM r r.1 (cs.take k))), some (.str (toldG r r.1 (cs.take k) (strI (digM r r.1)))), s4]) ⟨rfl, none, rfl⟩ (fun _ _ _ _ _ => trivial) ?_ ?_⟩
  · rintro k y σ H2 H3 lt ⟨rfl, s4, rfl⟩ ⟨rfl, c, ec, rfl⟩
    have ecl : cs[k]? = some c := by show wd.cps.toList[k]? = _; rw [Array.getElem?_toList]; exact ec
    have et : cs.take (k + 1) = cs.take k ++ [c] := by rw [List.take_succ, ecl]; rfl
    have kl := (List.getElem?_eq_some_iff.mp ecl).1
    obtain ⟨tk, win⟩ := told_len ok (cs.take k) r.1 (strI (digM r r.1)) ok.bg fun c hc => sub c (List.mem_of_mem_take hc)
    obtain ⟨p1, m1, st1, est1, sin1, dg1, op1, om1, e1, _, _⟩ := dig _ win
    have cin : one1 c ∈ st1.2.l.map (·.1) := (ok.mp _ sin1).mem_iff.mpr (List.mem_map_of_mem (sub c (List.mem_of_getElem? ecl)))
    obtain ⟨s2, es2, in2⟩ := lk_in cin
    have step : stepM r (walkM r r.1 (cs.take k)) (one1 c) = some s2 := by unfold stepM; rw [est1]; exact es2
    have w2 : walkM r r.1 (cs.take (k + 1)) = s2 := by rw [et, walkM_snoc, step]; rfl
    obtain ⟨p2, m2, st2, est2, sin2, dg2, op2, om2, e2, g0, g9⟩ := dig _ (ok.mv _ sin1 _ in2)
    refine ⟨_, rfl, ixb rfl ⟨_, rfl, d, _, rfl, dg1, rIx_sq op1 rfl ⟨_, rfl, m1, V.str s2, rfl, .inl ⟨_, Sum.inr (one1 c), .inl om1, rfl, (by rw [val_dkT, es2]; rfl)⟩, ?_⟩⟩⟩
    refine ⟨_, rfl, _, rfl, ixb rfl ⟨_, rfl, d, _, rfl, dg2, rIx_sq op2 rfl ⟨st2.1, rfl, Nat.lt_of_le_of_lt (Nat.log2_le_self _) (by omega), _, _, rfl, rfl, ?_, ?_⟩⟩⟩
    · have dl := (dig_len g0 g9).1
      have d0 : (strI (digM r r.1)).length = 1 := by rw [e0]; exact (dig_len z0 z9).1
      have tl := List.length_take_le k cs
      show _ + (strI st2.1).length ≤ _
      rw [dl, sizeLine_eq]
      omega
    · refine ⟨rfl, some (.str (one1 c)), ?_⟩
      rw [w2, et, toldG_walk, ← et, w2, e2]
      rfl
  · rintro σ H2 ⟨rfl, s4, rfl⟩
    have e : cs.take wd.cps.size = cs := List.take_of_length_le (by omega)
    rw [e]
    exact ⟨_, rfl, hq⟩
theorem ok_wordL (F : Fun K "_law_m_word" "_law_m_word" sWordL f fd) (FD : Fun K "_law_draw" "_law_draw" sDraw fD fdD) (gD : mg "_law_draw" = some (.ref fD)) (FP : Fun K "_law_pick" "_law_pick" sPick fP fdP) (gP : mg "_law_pick" = some (.ref fP)) (gI : mg "int" = none) (gN : mg "len" = none) (gR : mg "range" = none) : FnOk P w K mg base CX0 3 f fd ["stream", "letters", "most"] spWordL := by
  have GD : FnOk P w K mg base CX0 1 fD fdD ["stream", "many"] spDraw := ok_draw FD gI
  have bD := FD.binds (ps := ["stream", "many"]) fun _ _ _ _ _ _ us hl => match us, hl with | [_, _], _ => rfl
  have GP : FnOk P w K mg base CX0 2 fP fdP ["stream", "some"] spPickS := ok_pickS FP FD gD gI gN
  have bP := FP.binds (ps := ["stream", "some"]) fun _ _ _ _ _ _ us hl => match us, hl with | [_, _], _ => rfl
  refine F.ok scWd (fun vs H Q E h => by obtain ⟨l, ls, L, most, N, e, _⟩ := h; rw [e]; rfl) fun cdv A outer s H vs Q E hr hsp => ?_
  obtain ⟨l, ls, L, most, N, rfl, S, hN, L0, L3, m0, m20, hq⟩ := hsp
  have nd := scWd.nd
  refine ⟨_, pss_one (ps_ret (pe_join pe_str (pe_lc (own := [("k", 3)]) (tt := tYes) rfl nd (pi_range1 rfl gR (pa_cons (pe_call GD (hr.mono (by decide)) rfl gD FD.kp bD .nil pass0 (pa_cons (pv 0) (pa_cons (pe_op op_add (pv 2) pe_int) pa_nil))) pa_nil)) (blkOk_by (N := NWd) (sc := defScope sWordL) (by decide +kernel)) (fun _ _ _ _ _ => pg_name (i := 3) nd rfl (Or.inl rfl)) (fun _ _ _ _ _ => pts_nil) (fun _ _ _ _ _ => pe_call GP hr rfl gP FP.kp bP .nil pass0 (pa_cons (pv 0) (pa_cons (pv 1) pa_nil)))))), ?_⟩
  refine ⟨⟨_, rfl⟩, _, rfl, _, rfl, _, _, rfl, rfl, l, ls, most + 1, N, rfl, S, by omega, by omega, by omega, fun H2 wd r0 r1 S2 B2 => ?_⟩
  refine ⟨wd, rfl, by omega, by omega, fun D nD => ?_⟩
  have aD := S2.apart (Same.refl _) nD
  have lL : L.cps.size = L.length := rfl
  refine lc_range (n := wd.toNat) (fun j H' => ∃ cs : List Nat, H' D = some (.lst (cs.map fun c => V.str ⟨#[c]⟩)) ∧ cs.length = j ∧ (∀ c ∈ cs, c ∈ L.cps.toList) ∧ Strm H' l ls (N + 1 + j) ∧ But l ls H2 H')
    ⟨[], upd_same, rfl, fun c hc => by simp at hc, by simpa using S2.same (same_new nD), But.of (same_new nD)⟩ ?_ ?_
  · rintro j H3 hj ⟨cs, oD, lc, cok, S3, B3⟩
    refine ⟨rfl, ?_⟩
    refine ⟨_, rfl, _, rfl, l, ls, _, _, rfl, S3, by omega, by omega, by omega, fun H4 c hc S4 B4 => ?_⟩
    have oD4 := B4 _ _ aD.1 aD.2 oD
    refine ⟨_, oD4, (by rw [sizeLine_eq, List.length_map]; omega), cs ++ [c], by rw [upd_same]; simp, by simp [lc], ?_, ?_, ?_⟩
    · intro d hd
      rcases List.mem_append.mp hd with h | h
      · exact cok d h
      · obtain rfl : d = c := by simpa using h
        exact hc
    · exact Strm.mono (strm_upd S4 aD) (by omega)
    · intro b o h1 h2 e
      have nb : b ≠ D := ne_of_none e nD
      rw [upd_ne nb]
      exact B4 _ _ h1 h2 (B3 _ _ h1 h2 e)
  · rintro H3 ⟨cs, oD, lc, cok, S3, B3⟩
    have em : (cs.map fun c => V.str ⟨#[c]⟩) = (cs.map fun c => (⟨#[c]⟩ : Str)).map V.str := by rw [List.map_map]; rfl
    rw [em] at oD
    have sums : ∀ l : List Nat, ((l.map fun c => (⟨#[c]⟩ : Str)).map (·.length)).sum = l.length := fun l => by
      induction l with
      | nil => rfl
      | cons a l ih => rw [List.map_cons, List.map_cons, List.sum_cons, ih, List.length_cons]; show 1 + _ = _; omega
    refine ⟨_, D, _, rfl, rfl, .inl (SqL.of oD), ?_, ?_⟩
    · rw [sums, List.length_map]; show cs.length + cs.length * 0 ≤ _; omega
    have hw : (Txt.join (Str.ofString "") (cs.map fun c => (⟨#[c]⟩ : Str))).cps.toList = cs := join_cps cs
    generalize Txt.join (Str.ofString "") (cs.map fun c => (⟨#[c]⟩ : Str)) = x at hw
    refine hq H3 x (fun c hc => cok c (by rw [← hw]; exact hc)) (by rw [← len_cps, hw]; omega) (S3.mono (by omega)) (B2.trans B3)
end
end L2.TB
/-! _law_with, _law_part, _law_in_order -/
namespace L2.TB
open PySem PySem.Spec PyProof.Rows
def putR (rs : RsT) (n : Str) (r : RdT) : RsT := if n ∈ rs.map (·.1) then rs.map fun q => if q.1 = n then (q.1, r) else q else rs ++ [(n, r)]
theorem putR_keys (rs : RsT) (n : Str) (r : RdT) : (putR rs n r).map (·.1) = if n ∈ rs.map (·.1) then rs.map (·.1) else rs.map (·.1) ++ [n] := by
  unfold putR
  by_cases h : n ∈ rs.map (·.1)
  · rw [if_pos h, if_pos h, List.map_map]
    refine List.map_congr_left fun q _ => ?_
    show (if q.1 = n then (q.1, r) else q).1 = q.1
    by_cases c : q.1 = n
    · rw [if_pos c]
    · rw [if_neg c]
  · rw [if_neg h, if_neg h, List.map_append]
    rfl
theorem putR_nd {rs : RsT} {n : Str} {r : RdT} (nd : (rs.map (·.1)).Nodup) : ((putR rs n r).map (·.1)).Nodup := by
  rw [putR_keys]
  by_cases h : n ∈ rs.map (·.1)
  · rw [if_pos h]; exact nd
  · rw [if_neg h, List.nodup_append]
    exact ⟨nd, by simp, fun x hx y hy z => h (by rw [List.mem_singleton.mp hy] at z; rw [← z]; exact hx)⟩
theorem paired_map2 {α β : Type} {F G : α → β → Prop} {f : α → α} {g : β → β} {as : List α} {bs : List β} (h : Paired F as bs) (k : ∀ a b, F a b → G (f a) (g b)) : Paired G (as.map f) (bs.map g) := by
  induction h with
  | nil => exact .nil
  | cons h _ ih => exact .cons (k _ _ h) ih
theorem dc_put {A B : Addr → Prop} {H H' : Hp} {es : List (Key × V)} {rs : RsT} {n : Str} {v : V} {r : RdT} (h : Paired (DcE A H) es rs) (hv : PyD.at_ B H' v r) (k : ∀ b o, A b → H b = some o → B b ∧ H' b = some o) : Paired (DcE B H') (putK es (Sum.inr n) v) (putR rs n r) := by
  have ke := dc_keys h
  have ke : es.map (·.1) = (rs.map (·.1)).map Sum.inr := ke
  by_cases c : n ∈ rs.map (·.1)
  · have c2 : (Sum.inr n : Key) ∈ es.map (·.1) := by rw [ke]; exact List.mem_map_of_mem c
    rw [put_has c2]
    unfold putR
    rw [if_pos c]
    refine paired_map2 h fun e q hq => ?_
    by_cases z : q.1 = n
    · rw [if_pos z, if_pos (by rw [hq.1, z])]
      exact ⟨hq.1, hv⟩
    · rw [if_neg z, if_neg (fun y => z (by rw [hq.1] at y; exact Sum.inr.inj y))]
      exact ⟨hq.1, PyD.kp hq.2 k⟩
  · have c2 : (Sum.inr n : Key) ∉ es.map (·.1) := fun z => c (by
      rw [ke] at z
      obtain ⟨x, hx, e⟩ := List.mem_map.mp z
      obtain rfl := Sum.inr.inj e
      exact hx)
    rw [put_last c2]
    unfold putR
    rw [if_neg c]
    exact paired_join (Paired.mapP h fun e q hq => ⟨hq.1, PyD.kp hq.2 k⟩) ⟨rfl, hv⟩
def spWith : Sp := fun vs H Q _ => ∃ (D : Addr) (n : Str) (v : V) (rs : RsT) (r : RdT) (A : Addr → Prop), vs = [.ref D, .str n, v] ∧ PyD.at_ A H (.ref D) (Dc.mk rs) ∧ PyD.at_ A H v r ∧ rs.length < 1000 ∧ ∀ H' q, H q = none → PyD.at_ (fun b => b = q ∨ A b) H' (.ref q) (Dc.mk (putR rs n r)) → Same H H' → Q (.ref q) H'
theorem scWith : FnScope ["readers", "name", "reader", "found"] ["readers", "name", "reader"] (defScope sWith) := ⟨rfl, rfl, rfl, by decide +kernel, rfl, by decide +kernel, by decide +kernel⟩
def spPart : Sp := fun vs H Q _ => ∃ (D a : Addr) (rs sub : RsT) (A : Addr → Prop), vs = [.ref D, .ref a] ∧ PyD.at_ A H (.ref D) (Dc.mk rs) ∧ H a = some (.lst ((sub.map (·.1)).map V.str)) ∧ (∀ q ∈ sub, q ∈ rs) ∧ (sub.map (·.1)).Nodup ∧ sub.length < 1000 ∧ ∀ H' q, H q = none → PyD.at_ (fun b => b = q ∨ A b) H' (.ref q) (Dc.mk sub) → Same H H' → Q (.ref q) H'
abbrev NPt : List Str := ["readers", "names", "name"]
theorem scPart : FnScope NPt ["readers", "names"] (defScope sPart) := ⟨rfl, rfl, rfl, by decide +kernel, rfl, by decide +kernel, by decide +kernel⟩
def spInOrd : Sp := fun vs H Q _ => ∃ (d1 d2 : Addr) (st : List (Str × StT)) (A1 A2 : Addr → Prop), vs = [.ref d1, .ref d2] ∧ PyD.at_ A1 H (.ref d1) (Dc.mk st) ∧ PyD.at_ A2 H (.ref d2) (Dc.mk st) ∧ (∀ b, A1 b → b ≠ d2) ∧ st ≠ [] ∧ st.length < 1000 ∧ (∀ s ∈ st, s.2.2.l.length < 1000) ∧ ∀ H', Same H H' → Q (.bl true) H'
abbrev rLs : List V → Hp → VK → Prop := fun xs H Q => ∃ (a : Addr) (kvs : List (Key × V)), xs = [.ref a] ∧ Rd H a (.dK kvs) ∧ ∀ p, H p = none → Q (.ref p) (upd H p (.lst (kvs.map fun kv => kV kv.1)))
abbrev tMv (K : PySem.W.Frag) (i : Nat) : TE := tCB rLs (tCons (tOp (rIx K) (tDGet (tVar i) (tVar 2)) (tC (.int 1))) tNil)
abbrev NIo : List Str := ["states", "due", "name"]
theorem scInOrd : FnScope NIo ["states", "due"] (defScope sInOrder) := ⟨rfl, rfl, rfl, by decide +kernel, rfl, by decide +kernel, by decide +kernel⟩
section
variable {P : Program} {w : World} {K : PySem.W.Frag} {mg : Str → Option Value} {base : Heap} {f : Addr} {fd : FuncData}
theorem ok_with (F : Fun K "_law_with" "_law_with" sWith f fd) (nD : mg "dict" = none) : FnOk P w K mg base CX0 1 f fd ["readers", "name", "reader"] spWith := by
  refine F.ok scWith (fun vs H Q E h => by obtain ⟨D, n, v, rs, r, A, e, _⟩ := h; rw [e]; rfl) fun cdv A outer s H vs Q E hr hsp => ?_
  obtain ⟨D, n, v, rs, r, A0, rfl, at1, at2, sh, hq⟩ := hsp
  obtain ⟨D', es, e1, aD, oD, ndr, pr⟩ := at1
  obtain rfl := V.ref.inj e1
  have nd := scWith.nd
  have hu := hu_of hr
  refine ⟨_, pss_cons (ps_set (i := 3) nd rfl (Or.inl rfl) (pe_callTy call_dictD rfl nD boot_dict' (pa_cons (pv 0) pa_nil))) (pss_cons (ps_dput hu (pv 3) (pv 1) (pv 2) rfl) (pss_one (ps_ret (pv 3)))), ?_⟩
  refine ⟨_, rfl, D, es, rfl, .inl oD, fun q nq => ?_⟩
  have kq := same_new (o := .dK es) nq
  have les : es.length = rs.length := Paired.length pr
  refine ⟨_, rfl, _, rfl, _, rfl, q, _, rfl, DPut.k (k := Sum.inr n) upd_same (by rw [sizeLine_eq]; omega), ?_⟩
  have k2 : Same H (upd (upd H q (.dK es)) q (.dK (putK es (Sum.inr n) v))) := same_upd2 nq
  have kk : ∀ b o, A0 b → H b = some o → (b = q ∨ A0 b) ∧ (upd (upd H q (.dK es)) q (.dK (putK es (Sum.inr n) v))) b = some o := fun b o a e => ⟨.inr a, k2 _ _ e⟩
  exact ⟨_, rfl, hq _ q nq ⟨q, _, rfl, .inl rfl, upd_same, putR_nd ndr, dc_put pr (PyD.kp at2 kk) kk⟩ k2⟩
theorem ok_part (F : Fun K "_law_part" "_law_part" sPart f fd) (nD : mg "dict" = none) : FnOk P w K mg base CX0 1 f fd ["readers", "names"] spPart := by
  refine F.ok scPart (fun vs H Q E h => by obtain ⟨D, a, rs, sub, A, e, _⟩ := h; rw [e]; rfl) fun cdv A outer s H vs Q E hr hsp => ?_
  obtain ⟨D, a, rs, sub, A0, rfl, at1, oa, sin, snd, sh, hq⟩ := hsp
  obtain ⟨D', es, e1, aD, oD, ndr, pr⟩ := at1
  obtain rfl := V.ref.inj e1
  have nd := scPart.nd
  have hu := hu_of hr
  refine ⟨_, pss_one (ps_ret (pe_callTy (r := rDk K) (call_dk rfl) rfl nD boot_dict' (pa_cons (pe_lc (own := [("name", 2)]) (tt := tYes) (g := gName 2) (te := tTup (tCons (tVar 2) (tCons (tDGet (tVar 0) (tVar 2)) tNil))) rfl nd (pi_list (pv 1)) (blkOk_by (N := NPt) (sc := defScope sPart) (by decide +kernel)) (fun _ _ _ _ _ => pg_name (i := 2) nd rfl (Or.inl rfl)) (fun _ _ _ _ _ => pts_nil)
    (fun _ _ _ _ _ => pe_tup (pa_cons (pv 2) (pa_cons (pe_dget hu (pv 0) (pv 2) (fun _ _ => rfl)) pa_nil)))) pa_nil))), ?_⟩
  have vin : ∀ q ∈ sub, ∃ v, valV es (Sum.inr q.1) = some v ∧ PyD.at_ A0 H v q.2 := fun q hq => rs_val pr ndr (sin q hq)
  let ff : Str × RdT → Option (Key × V) := fun q => (valV es (Sum.inr q.1)).map fun v => ((Sum.inr q.1 : Key), v)
  refine ⟨_, rfl, a, rfl, ⟨_, SqL.of oa⟩, opt_lc sub ff sh (fun i H' s lt => ⟨_, _, SqL.of (s _ _ oa), List.getElem?_eq_getElem (by rw [List.length_map, List.length_map]; exact lt)⟩) (fun H' s => ⟨_, SqL.of (s _ _ oa), by rw [List.length_map, List.length_map]; exact Nat.le_refl _⟩) ?_ ?_⟩
  · rintro i y q H2 H3 Cn Nn eq s2 ⟨rfl, ex⟩ yes no
    have ex := ex _ (SqL.of (s2 _ _ oa))
    rw [List.getElem?_map, List.getElem?_map, eq] at ex
    obtain rfl := Option.some.inj ex
    obtain ⟨v, ev, _⟩ := vin q (List.mem_of_getElem? eq)
    refine ⟨rfl, ?_⟩
    refine ⟨_, rfl, _, rfl, _, rfl, D, _, rfl, .inl ⟨es, Sum.inr q.1, .inl (s2 _ _ oD), rfl, ev.symm⟩, (by show 2 ≤ sizeLine; decide), fun t nt => ?_⟩
    exact yes (Sum.inr q.1) v (by show (valV es (Sum.inr q.1)).map _ = _; rw [ev]; rfl) t _ upd_same (same_new nt)
  · intro H2 LT ps nLT oLT pp k2
    have fm : ∀ l : RsT, (∀ q ∈ l, q ∈ sub) → Paired (DcE A0 H) (l.filterMap ff) l := fun l hl => by
      induction l with
      | nil => exact .nil
      | cons q l ih =>
        obtain ⟨v, ev, at2⟩ := vin q (hl q List.mem_cons_self)
        have e : ff q = some (Sum.inr q.1, v) := by show (valV es (Sum.inr q.1)).map _ = _; rw [ev]; rfl
        rw [List.filterMap_cons_some e]
        exact .cons ⟨rfl, at2⟩ (ih fun q hq => hl q (List.mem_cons_of_mem _ hq))
    have pm := fm sub fun q hq => hq
    have km := dc_keys pm
    have km : (sub.filterMap ff).map (·.1) = (sub.map (·.1)).map Sum.inr := km
    have mm : mergeK [] (sub.filterMap ff) = sub.filterMap ff := by
      have z := merge_new (sub.filterMap ff) [] (by rw [List.nil_append, km]; exact nd_inr snd)
      rw [List.nil_append] at z
      exact z
    refine ⟨LT, ps, _, rfl, SqL.of oLT, Paired.mapP pp fun p kv h => SqT.of h, fun d nd2 => ?_⟩
    rw [mm]
    have kd := same_new (o := .dK (sub.filterMap ff)) nd2
    have k := k2.trans kd
    exact hq _ d (k2.free nd2) ⟨d, _, rfl, .inl rfl, upd_same, snd, Paired.mapP pm fun e q h => ⟨h.1, PyD.kp h.2 fun b o a e => ⟨.inr a, k _ _ e⟩⟩⟩ k
theorem keys_L {A : Addr → Prop} {H : Hp} {α : Type} [PyD α] {es : List (Key × V)} {l : List (Str × α)} (h : Paired (DcE A H) es l) : (es.map fun kv => kV kv.1) = (l.map (·.1)).map V.str := by
  have z2 := congrArg (List.map kV) (dc_keys h)
  rw [List.map_map, List.map_map] at z2
  exact z2
theorem ok_inOrd (F : Fun K "_law_in_order" "_law_in_order" sInOrder f fd) (nL : mg "list" = none) (nA : mg "all" = none) : FnOk P w K mg base CX0 1 f fd ["states", "due"] spInOrd := by
  refine F.ok scInOrd (fun vs H Q E h => by obtain ⟨d1, d2, st, A1, A2, e, _⟩ := h; rw [e]; rfl) fun cdv A outer s H vs Q E hr hsp => ?_
  obtain ⟨d1, d2, st, A1, A2, rfl, at1, at2, far, ne, sh, shm, hq⟩ := hsp
  obtain ⟨d1', es1, e1, a1, o1, nd1, p1⟩ := at1
  obtain rfl := V.ref.inj e1
  obtain ⟨d2', es2, e2, a2, o2, nd2, p2⟩ := at2
  obtain rfl := V.ref.inj e2
  have nd := scInOrd.nd
  have hu := hu_of hr
  have hu64 := hr.units
  refine ⟨_, pss_cons (ps_if (pt_cmpR (op_neT (α := List Str) (by decide) hu64) (pe_callTy (call_listD rfl) rfl nL boot_list' (pa_cons (pv 0) pa_nil)) (pe_callTy (call_listD rfl) rfl nL boot_list' (pa_cons (pv 1) pa_nil)) (nomark _)) (pss_one (ps_ret pe_bl)) pss_nil)
    (pss_one (ps_ret (pe_callB (cr_all rfl) rfl nA boot_allN (pa_cons (pe_lock (pe_lc (own := [("name", 2)]) (g := gName 2) (tt := tYes) (te := tOp (rEqT (List Str) K id) (tMv K 0) (tMv K 1)) rfl nd (pi_keys (pv 1)) (blkOk_by (N := NIo) (sc := defScope sInOrder) (by decide +kernel)) (fun _ _ _ _ _ => pg_name (i := 2) nd rfl (Or.inl rfl)) (fun _ _ _ _ _ => pts_nil)
      (fun _ _ _ _ _ => pe_cmpR (op_eqT (α := List Str) (by decide) hu64) (pe_callTy (call_listD rfl) rfl nL boot_list' (pa_cons (pe_ix (r := rIx K) ix_seq (pe_dget hu (pv 0) (pv 2) (fun _ _ => rfl)) pe_int (fun _ _ => rfl)) pa_nil)) (pe_callTy (call_listD rfl) rfl nL boot_list' (pa_cons (pe_ix (r := rIx K) ix_seq (pe_dget hu (pv 1) (pv 2) (fun _ _ => rfl)) pe_int (fun _ _ => rfl)) pa_nil)) (nomark _)))) pa_nil)))), ?_⟩
  have l1 : es1.length = st.length := Paired.length p1
  have l2 : es2.length = st.length := Paired.length p2
  have ke2 : es2.map (·.1) = (st.map (·.1)).map Sum.inr := dc_keys p2
  have nde2 : (es2.map (·.1)).Nodup := by rw [ke2]; exact nd_inr nd2
  have k1 : (es1.map fun kv => kV kv.1) = (st.map (·.1)).map V.str := keys_L p1
  have k2 : (es2.map fun kv => kV kv.1) = (st.map (·.1)).map V.str := keys_L p2
  have d12 : d1 ≠ d2 := far _ a1
  refine ⟨_, rfl, d1, es1, rfl, .inl o1, fun q1 nq1 => ?_⟩
  have kq1 := same_new (o := .lst (es1.map fun kv => kV kv.1)) nq1
  refine ⟨_, rfl, d2, es2, rfl, .inl (kq1 _ _ o2), fun q2 nq2 => ?_⟩
  have kq2 := same_new (o := .lst (es2.map fun kv => kV kv.1)) nq2
  refine ⟨st.map (·.1), st.map (·.1), dp_strL (by rw [← k1]; exact kq2 _ _ upd_same), dp_strL (by rw [← k2]; exact upd_same), false, by rw [decide_eq_true rfl]; rfl, iteF ?_⟩
  have k02 := kq1.trans kq2
  generalize upd (upd H q1 (.lst (es1.map fun kv => kV kv.1))) q2 (.lst (es2.map fun kv => kV kv.1)) = H2 at k02
  have o1' := k02 _ _ o1
  have o2' := k02 _ _ o2
  refine ⟨d2, _, o2', trivial, fun oo => ⟨_, rfl, d2, oo, rfl, .inl ⟨_, upd_same, lc_gen (bools es2.length) (by rw [bools_len]; omega) (fun j H' s lt => ⟨s _ _ upd_same, by rw [bools_len] at lt; exact lt⟩) (fun H' s => ⟨s _ _ upd_same, by rw [bools_len]; exact Nat.le_refl _⟩) ?_ ?_⟩⟩⟩
  · rintro j y b H4 H5 Cn Nn ey s4 ⟨rfl, k, w', ek, rfl⟩ yes
    obtain ⟨rfl, lt⟩ := bools_at ey
    obtain ⟨q, eq, hk, at2⟩ := paired_get p2 ek
    have hk : k = Sum.inr q.1 := hk
    subst hk
    have qin := List.mem_of_getElem? eq
    have up : ∀ {H' : Hp}, Same H5 H' → ∀ b o, b ≠ d2 → H b = some o → H' b = some o := fun s b o nb e => s _ _ (s4 _ _ (by rw [upd_ne nb]; exact k02 _ _ e))
    obtain ⟨_, p2', m2, rfl, _, _, op2, om2⟩ := at_stG (K := K) (e := (Sum.inr q.1, w')) (q := q) ⟨rfl, at2⟩
    have elk : lk st q.1 = some q.2 := lk_mem nd1 qin
    obtain ⟨v1, ev1, stg1⟩ := st_val (Paired.mapP p1 fun e q h => at_stG (K := K) h) elk
    obtain ⟨_, p1', m1, rfl, b1, b2, op1, om1⟩ := stg1
    have pn2 : p2' ≠ d2 := fun z => by
      rw [z] at op2
      rcases op2 with h | h
      · rw [o2] at h; cases h
      · rw [o2] at h; cases h
    have mn2 : m2 ≠ d2 := fun z => by
      rw [z, o2] at om2
      have e := HO.dK.inj (Option.some.inj om2)
      rw [e] at ek
      obtain ⟨x, _, _, ey2⟩ := dkT_back ek
      cases ey2
    refine ⟨rfl, ?_⟩
    refine ⟨_, rfl, _, rfl, d1, _, rfl, .inl ⟨es1, Sum.inr q.1, .inl (up (Same.refl _) _ _ d12 o1), rfl, ev1.symm⟩, rIx_sq (op1.kp fun o e => up (Same.refl _) _ _ (far _ b1) e) rfl ⟨m1, _, rfl, .inl (up (Same.refl _) _ _ (far _ b2) om1), fun x1 nx1 => ?_⟩⟩
    have kx1 := same_new (o := .lst ((dkT q.2.2.l).map fun kv => kV kv.1)) nx1
    refine ⟨_, rfl, _, rfl, d2, _, rfl, .inl ⟨es2, Sum.inr q.1, .inr ⟨oo, kx1 _ _ (s4 _ _ upd_same)⟩, rfl, (valV_atN nde2 ek).symm⟩, rIx_sq (op2.kp fun o e => up kx1 _ _ pn2 e) rfl ⟨m2, _, rfl, .inl (up kx1 _ _ mn2 om2), fun x2 nx2 => ?_⟩⟩
    have kx2 := same_new (o := .lst ((dkT q.2.2.l).map fun kv => kV kv.1)) nx2
    have kk : ((dkT q.2.2.l).map fun kv => kV kv.1) = (q.2.2.l.map (·.1)).map V.str := keys_L (A := fun _ => True) (H := H) (txt_dk q.2.2.l)
    refine ⟨q.2.2.l.map (·.1), q.2.2.l.map (·.1), dp_strL (by rw [← kk]; exact kx2 _ _ upd_same), dp_strL (by rw [← kk]; exact upd_same), ?_⟩
    rw [decide_eq_true rfl]
    exact yes _ (kx1.trans kx2)
  · intro H4 D nD oD s4
    obtain ⟨b1, s34⟩ := lock_offN o2' s4
    have Da : D ≠ d2 := fun z => by rw [z, upd_same] at nD; cases nD
    rw [bools_map] at oD
    refine ⟨b1, D, _, rfl, SqL.of (by rw [upd_ne Da]; exact oD), ?_⟩
    rw [all_true]
    exact hq _ (k02.trans s34)
end
end L2.TB
/-! _law_m_reader -/
namespace L2.TB
open PySem PySem.Spec PyProof.Rows
def spReaderL : Sp := fun vs H Q _ => ∃ (l ls : Addr) (L : Str) (most N : Int), vs = [.ref l, .str L, .int most, .int 10] ∧ Strm H l ls N ∧ N ≤ 600000 ∧ LetOk L ∧ 1 ≤ most ∧ most ≤ 6 ∧
  ∀ H' v r, RdOk L r → PyD.at_ (fun b => H b = none ∧ b ≠ l ∧ b ≠ ls) H' v r → Strm H' l ls (N + 100) → But l ls H H' → Q v H'
abbrev NRl : List Str := ["stream", "letters", "most", "digits", "names", "states", "name", "moves", "letter"]
theorem scRl : FnScope NRl ["stream", "letters", "most", "digits"] (defScope sReaderL) := ⟨rfl, rfl, rfl, by decide +kernel, rfl, by decide +kernel, by decide +kernel⟩
theorem paired_mapR {α β γ : Type} {F : α → β → Prop} {G : α → γ → Prop} {g : β → γ} {as : List α} {bs : List β} (h : Paired F as bs) (k : ∀ a b, F a b → G a (g b)) : Paired G as (bs.map g) := by
  induction h with
  | nil => exact .nil
  | cons h _ ih => exact .cons (k _ _ h) ih
theorem Strm.low {H H' : Hp} {l ls b : Addr} {N : Int} (S : Strm H' l ls N) (B : But l ls H H') (n : H' b = none) : H b = none ∧ b ≠ l ∧ b ≠ ls := by
  have a := S.apart (Same.refl _) n
  exact ⟨B.free a n, a⟩
section
variable {P : Program} {w : World} {K : PySem.W.Frag} {mg : Str → Option Value} {base : Heap} {f fD fP fN : Addr} {fd fdD fdP fdN : FuncData}
theorem ok_readerL (F : Fun K "_law_m_reader" "_law_m_reader" sReaderL f fd) (FD : Fun K "_law_draw" "_law_draw" sDraw fD fdD) (gD : mg "_law_draw" = some (.ref fD)) (FP : Fun K "_law_pick" "_law_pick" sPick fP fdP) (gP : mg "_law_pick" = some (.ref fP)) (FN : Fun K "_law_names" "_law_names" sNamesL fN fdN) (gNm : mg "_law_names" = some (.ref fN)) (GN : FnOk P w K mg base CX0 4 fN fdN ["stream", "many"] spNames)
    (gI : mg "int" = none) (gN : mg "len" = none) (gDi : mg "dict" = none) : FnOk P w K mg base CX0 5 f fd ["stream", "letters", "most", "digits"] spReaderL := by
  have GD : FnOk P w K mg base CX0 1 fD fdD ["stream", "many"] spDraw := ok_draw FD gI
  have bD := FD.binds (ps := ["stream", "many"]) fun _ _ _ _ _ _ us hl => match us, hl with | [_, _], _ => rfl
  have GP : FnOk P w K mg base CX0 2 fP fdP ["stream", "some"] (spPick K) := ok_pick FP FD gD gI gN
  have bP := FP.binds (ps := ["stream", "some"]) fun _ _ _ _ _ _ us hl => match us, hl with | [_, _], _ => rfl
  have bN := FN.binds (ps := ["stream", "many"]) fun _ _ _ _ _ _ us hl => match us, hl with | [_, _], _ => rfl
  refine F.ok scRl (fun vs H Q E h => by obtain ⟨l, ls, L, most, N, e, _⟩ := h; rw [e]; rfl) fun cdv A outer s H vs Q E hr hsp => ?_
  obtain ⟨l, ls, L, most, N, rfl, S, hN, lok, m1, m6, hq⟩ := hsp
  have nd := scRl.nd
  have hu := hu_of (hr.mono (show 1 ≤ 4 by decide))
  refine ⟨_, pss_cons (ps_set (i := 4) nd rfl (Or.inr rfl) (pe_call GN hr rfl gNm FN.kp bN .nil pass0 (pa_cons (pv 0) (pa_cons (pe_op op_add pe_int (pe_call GD (hr.mono (by decide)) rfl gD FD.kp bD .nil pass0 (pa_cons (pv 0) (pa_cons (pv 2) pa_nil)))) pa_nil))))
    (pss_cons (ps_set (i := 5) nd rfl (Or.inl rfl) pe_dnewK)
    (pss_cons (ps_for PassesOwn.never rfl (pi_list (pv 4)) (pg_name (i := 6) nd rfl (Or.inl rfl))
      (pss_cons (ps_set (i := 7) nd rfl (Or.inl rfl) (pe_callTy (r := rDk K) (call_dk rfl) rfl gDi boot_dict' (pa_cons (pe_lc (own := [("letter", 8)]) (tt := tYes) (g := gName 8) (te := tTup (tCons (tVar 8) (tCons (tCall (spPick K) [] E0 (tCons (tVar 0) (tCons (tVar 4) tNil))) tNil))) rfl nd (pi_str (pv 1)) (blkOk_by (N := NRl) (sc := defScope sReaderL) (by decide +kernel)) (fun _ _ _ _ _ => pg_name (i := 8) nd rfl (Or.inl rfl)) (fun _ _ _ _ _ => pts_nil)
          (fun _ _ _ _ _ => pe_tup (pa_cons (pv 8) (pa_cons (pe_call GP (hr.mono (by decide)) rfl gP FP.kp bP .nil pass0 (pa_cons (pv 0) (pa_cons (pv 4) pa_nil))) pa_nil)))) pa_nil)))
      (pss_one (ps_dput hu (pv 5) (pv 6) (pe_tup (pa_cons (pe_call GD (hr.mono (by decide)) rfl gD FD.kp bD .nil pass0 (pa_cons (pv 0) (pa_cons (pv 3) pa_nil))) (pa_cons (pv 7) pa_nil))) rfl))))
    (pss_one (ps_ret (pe_tup (pa_cons (pe_call GP (hr.mono (by decide)) rfl gP FP.kp bP .nil pass0 (pa_cons (pv 0) (pa_cons (pv 4) pa_nil))) (pa_cons (pv 5) pa_nil))))))), ?_⟩
  have l3 := lok.l3
  have lL : L.cps.size = L.length := rfl
  refine ⟨_, rfl, _, rfl, _, rfl, l, ls, most, N, rfl, S, by omega, by omega, by omega, fun H1 d0 z0 z1 S1 B1 => ?_⟩
  refine ⟨_, _, rfl, rfl, l, ls, _, _, rfl, S1, by omega, by omega, by omega, fun H2 nm ns nsl nsn nso nnm onm S2 B2 => ?_⟩
  have anm := S1.apart (Same.refl _) nnm
  have B02 := B1.trans B2
  intro SD nSD
  have aSD := S2.apart (Same.refl _) nSD
  have kS := same_new (o := .dK []) nSD
  have oSD : upd H2 SD (.dK []) SD = some (.dK []) := upd_same
  have S3 := S2.same kS
  have onm3 := kS _ _ onm
  have B03 := B02.trans (.of kS)
  have nmS : nm ≠ SD := fun z => by rw [z, nSD] at onm; cases onm
  have lowSD : H SD = none := (S2.low B02 nSD).1
  generalize upd H2 SD (.dK []) = H3 at kS oSD S3 onm3 B03
  have l7 : ns.length ≤ 7 := by omega
  have l1 : 1 ≤ ns.length := by omega
  refine ⟨_, rfl, nm, rfl, ⟨_, SqL.of onm3⟩, for_list (xs := ns.map V.str) (fun i σ H' => (∃ (es : List (Key × V)) (sts : List (Str × StT)), H' SD = some (.dK es) ∧ Paired (DcE (fun b => (H b = none ∧ b ≠ l ∧ b ≠ ls) ∧ b ≠ SD) H') es sts ∧ sts.map (·.1) = ns.take i ∧
      ∀ s ∈ sts, (0 ≤ s.2.1 ∧ s.2.1 ≤ 9) ∧ s.2.2.l.map (·.1) = lets L ∧ ∀ m ∈ s.2.2.l, m.2 ∈ ns) ∧ Strm H' l ls (N + 70 + 4 * i) ∧ But l ls H H' ∧ H' nm = some (.lst (ns.map V.str)) ∧ ∃ s6 s7, σ = [some (.ref l), some (.str L), some (.int most), some (.int 10), some (.ref nm), some (.ref SD), s6, s7, none])
    ⟨⟨[], [], oSD, .nil, by simp, fun s hs => by cases hs⟩, S3.mono (by omega), B03, onm3, _, _, rfl⟩ (fun i σ H' _ h => SqL.of h.2.2.2.1) ?_ ?_⟩
  · rintro i x σ H4 ex ⟨⟨es, sts, oS4, pr4, ek4, ok4⟩, S4, B4, onm4, s6, s7, rfl⟩
    rw [List.getElem?_map] at ex
    obtain ⟨n, en, rfl⟩ := Option.map_eq_some_iff.mp ex
    have li : i < ns.length := (List.getElem?_eq_some_iff.mp en).1
    have lts : (lets L).length = L.length := by unfold lets; rw [List.length_map, len_cps]
    refine ⟨_, rfl, L, rfl, fun LT nLT => ?_⟩
    have aLT := S4.apart (Same.refl _) nLT
    refine lc_it walk_str (fun j H' => (∃ (ts : List Addr) (kvs : List (Str × Str)), H' LT = some (.lst (ts.map V.ref)) ∧ Paired (fun t (e : Str × Str) => H' t = some (.tup [.str e.1, .str e.2]) ∧ t ≠ l ∧ t ≠ ls ∧ t ≠ LT) ts kvs ∧ kvs.map (·.1) = (lets L).take j ∧ ∀ e ∈ kvs, e.2 ∈ ns) ∧ Strm H' l ls (N + 70 + 4 * i + j) ∧ But l ls H4 H')
      ⟨⟨[], [], upd_same, .nil, by simp, fun e he => by cases he⟩, (S4.same (same_new nLT)).mono (by omega), .of (same_new nLT)⟩ (fun _ _ _ _ => trivial) ?_ ?_
    · rintro j y H5 H6 lj ⟨⟨ts, kvs, oLT, pt, ek, kn⟩, S5, B5⟩ ⟨rfl, c, ec, rfl⟩
      have ecl : (lets L)[j]? = some (one1 c) := by
        unfold lets
        rw [List.getElem?_map, Array.getElem?_toList, ec]
        rfl
      have lts2 : ts.length = j := by
        have e1 := Paired.length pt
        have e2 := congrArg List.length ek
        rw [List.length_map, List.length_take] at e2
        omega
      refine ⟨rfl, ?_⟩
      refine ⟨_, rfl, _, rfl, _, rfl, l, ls, nm, _, _, rfl, S5, by omega, anm.1, anm.2, B5 _ _ anm.1 anm.2 onm4, by rw [List.length_map]; omega, by rw [List.length_map]; omega, fun H7 v hv S7 B7 => ?_⟩
      obtain ⟨n2, hn2, rfl⟩ := List.mem_map.mp hv
      refine ⟨(by show 2 ≤ sizeLine; decide), fun t nt => ?_⟩
      have kt := same_new (o := .tup [.str (one1 c), .str n2]) nt
      have at_ := S7.apart (Same.refl _) nt
      have oLT7 := B7 _ _ aLT.1 aLT.2 oLT
      have tD : t ≠ LT := fun z => by rw [z, oLT7] at nt; cases nt
      refine ⟨_, kt _ _ oLT7, by rw [sizeLine_eq, List.length_map]; omega, ⟨ts ++ [t], kvs ++ [(one1 c, n2)], by rw [upd_same, List.map_append]; rfl, ?_, ?_, ?_⟩, (strm_upd (S7.same kt) aLT).mono (by omega), ?_⟩
      · refine paired_join (Paired.mapP pt fun t e h => ⟨?_, h.2⟩) ⟨by rw [upd_ne tD, upd_same], at_.1, at_.2, tD⟩
        rw [upd_ne h.2.2.2]
        exact kt _ _ (B7 _ _ h.2.1 h.2.2.1 h.1)
      · rw [List.map_append, ek, List.take_succ, ecl]
        rfl
      · intro e he
        rcases List.mem_append.mp he with h | h
        · exact kn e h
        · rw [List.mem_singleton.mp h]; exact hn2
      · intro b o h1 h2 e
        have nb : b ≠ LT := ne_of_none e nLT
        rw [upd_ne nb]
        exact kt _ _ (B7 _ _ h1 h2 (B5 _ _ h1 h2 e))
    · rintro H5 ⟨⟨ts, kvs, oLT, pt, ek, kn⟩, S5, B5⟩
      have ek : kvs.map (·.1) = lets L := by
        rw [ek]
        exact List.take_of_length_le (by rw [lts]; exact Nat.le_refl _)
      have pt2 : Paired (fun t (e : Key × V) => SqT K H5 t [kV e.1, e.2]) ts (dkT kvs) := by
        unfold dkT
        exact paired_mapR pt fun t e h => SqT.of h.1
      have ndk : ((dkT kvs).map (·.1)).Nodup := by rw [dkT_keys, ek]; exact nd_inr lok.lnd
      have mm : mergeK [] (dkT kvs) = dkT kvs := by
        have z := merge_new (dkT kvs) [] (by rw [List.nil_append]; exact ndk)
        rw [List.nil_append] at z
        exact z
      refine ⟨LT, ts, dkT kvs, rfl, SqL.of oLT, pt2, fun d nd2 => ?_⟩
      rw [mm]
      have kd := same_new (o := .dK (dkT kvs)) nd2
      have odd : upd H5 d (.dK (dkT kvs)) d = some (.dK (dkT kvs)) := upd_same
      have S6 := S5.same kd
      have B46 := B5.trans (.of kd)
      have lowd := S5.low (B4.trans B5) nd2
      generalize upd H5 d (.dK (dkT kvs)) = H6 at kd odd S6 B46
      have dSD : d ≠ SD := fun z => by rw [z, B5 _ _ aSD.1 aSD.2 oS4] at nd2; cases nd2
      refine ⟨_, rfl, _, rfl, l, ls, 10, _, rfl, S6, by omega, by decide, by decide, fun H7 dg g0 g1 S7 B7 => ?_⟩
      have B47 := B46.trans B7
      refine ⟨_, rfl, (by show 2 ≤ sizeLine; decide), fun t nt => ?_⟩
      have kt := same_new (o := .tup [.int dg, .ref d]) nt
      have lowt := S7.low (B4.trans B47) nt
      have oS7 := B47 _ _ aSD.1 aSD.2 oS4
      have tSD : t ≠ SD := fun z => by rw [z, oS7] at nt; cases nt
      have odd7 := B7 _ _ lowd.2.1 lowd.2.2 odd
      have ll := congrArg List.length ek4
      rw [List.length_map, List.length_take] at ll
      have les : es.length = sts.length := Paired.length pr4
      have nout : (Sum.inr n : Key) ∉ es.map (·.1) := fun hx => by
        have ke : es.map (·.1) = (sts.map (·.1)).map Sum.inr := dc_keys pr4
        rw [ke, ek4] at hx
        obtain ⟨y, hy, e1⟩ := List.mem_map.mp hx
        obtain rfl := Sum.inr.inj e1
        have et : ns.take (i + 1) = ns.take i ++ [y] := by rw [List.take_succ, en]; rfl
        have z2 : (ns.take (i + 1)).Nodup := nsn.sublist (List.take_sublist _ _)
        rw [et, List.nodup_append] at z2
        exact z2.2.2 _ hy _ (by simp) rfl
      refine ⟨_, rfl, _, rfl, SD, _, rfl, DPut.k (k := Sum.inr n) (kt _ _ oS7) (by rw [sizeLine_eq]; omega), ?_⟩
      have up : ∀ {o' : HO} (b : Addr) (o : HO), b ≠ SD → upd H7 t (.tup [.int dg, .ref d]) b = some o → upd (upd H7 t (.tup [.int dg, .ref d])) SD o' b = some o := fun b o nb e => by rw [upd_ne nb]; exact e
      refine ⟨⟨es ++ [(Sum.inr n, .ref t)], sts ++ [(n, (dg, Dc.mk kvs))], by rw [upd_same, put_last nout], ?_, ?_, ?_⟩, (strm_upd (S7.same kt) aSD).mono (by omega), ?_, up _ _ nmS (kt _ _ (B47 _ _ anm.1 anm.2 onm4)), _, _, rfl⟩
      · refine paired_join (Paired.mapP pr4 fun e q h => ⟨h.1, PyD.kp h.2 fun b o a e => ⟨a, up _ _ a.2 (kt _ _ (B47 _ _ a.1.2.1 a.1.2.2 e))⟩⟩) ⟨rfl, t, _, _, rfl, ⟨lowt, tSD⟩, up _ _ tSD upd_same, rfl, d, _, rfl, ⟨lowd, dSD⟩, up _ _ dSD (kt _ _ odd7), by show (kvs.map (·.1)).Nodup; rw [ek]; exact lok.lnd, txt_dk kvs⟩
      · rw [List.map_append, ek4, List.take_succ, en]
        rfl
      · intro s hs
        rcases List.mem_append.mp hs with h | h
        · exact ok4 s h
        · rw [List.mem_singleton.mp h]
          exact ⟨⟨g0, by show dg ≤ 9; omega⟩, ek, kn⟩
      · intro b o h1 h2 e
        have nb : b ≠ SD := ne_of_none e lowSD
        exact up _ _ nb (kt _ _ (B47 _ _ h1 h2 (B4 _ _ h1 h2 e)))
  · rintro σ H4 ⟨⟨es, sts, oS4, pr4, ek4, ok4⟩, S4, B4, onm4, s6, s7, rfl⟩
    rw [List.length_map] at S4 ek4
    rw [List.take_length] at ek4
    refine ⟨_, rfl, _, rfl, l, ls, nm, _, _, rfl, S4, by omega, anm.1, anm.2, onm4, by rw [List.length_map]; omega, by rw [List.length_map]; omega, fun H5 v hv S5 B5 => ?_⟩
    obtain ⟨n, hn, rfl⟩ := List.mem_map.mp hv
    refine ⟨_, rfl, (by show 2 ≤ sizeLine; decide), fun t nt => ?_⟩
    have kt := same_new (o := .tup [.str n, .ref SD]) nt
    have B45 := B5.trans (.of kt)
    have ll := congrArg List.length ek4
    rw [List.length_map] at ll
    have oS5 := B45 _ _ aSD.1 aSD.2 oS4
    refine hq _ _ (n, Dc.mk sts) ⟨by show 0 < sts.length; omega, by show sts.length ≤ 6; omega, by show (sts.map (·.1)).Nodup; rw [ek4]; exact nsn, fun s hs => (nso _ (by rw [← ek4]; exact List.mem_map_of_mem hs)).1, by show n ∈ sts.map (·.1); rw [ek4]; exact hn, fun s hs => (ok4 s hs).1, fun s hs => by rw [(ok4 s hs).2.1], fun s hs m hm => by show m.2 ∈ sts.map (·.1); rw [ek4]; exact (ok4 s hs).2.2 m hm⟩
      ⟨t, _, _, rfl, S5.low (B4.trans B5) nt, upd_same, rfl, SD, es, rfl, ⟨lowSD, aSD⟩, oS5, by show (sts.map (·.1)).Nodup; rw [ek4]; exact nsn, Paired.mapP pr4 fun e q h => ⟨h.1, PyD.kp h.2 fun b o a e => ⟨a.1, B45 _ _ a.1.2.1 a.1.2.2 e⟩⟩⟩ ((S5.same kt).mono (by omega)) (B4.trans B45)
end
end L2.TB
/-! _law_spoil -/
namespace L2.TB
open PySem PySem.Spec PyProof.Rows
/-- a handed reader, with the place of its states' dict -/
def RdP (K : PySem.W.Frag) (A : Addr → Prop) (H : Hp) (v : V) (d : Addr) (r : RdT) : Prop := ∃ a es, v = .ref a ∧ A a ∧ A d ∧ SqA K H a [.str r.1, .ref d] ∧ H d = some (.dK es) ∧ Paired (StG K A H) es r.2.l
theorem RdP.g {K : PySem.W.Frag} {A : Addr → Prop} {H : Hp} {v : V} {d : Addr} {r : RdT} (h : RdP K A H v d r) : RdG K A H v r := by
  obtain ⟨a, es, h1, a1, a2, oa, od, pr⟩ := h
  exact ⟨a, d, es, h1, a1, a2, oa, od, pr⟩
def HandP (K : PySem.W.Frag) (A : Addr → Prop) (H : Hp) (e : Key × V) (q : Addr × (Str × RdT)) : Prop := e.1 = Sum.inr q.2.1 ∧ RdP K A H e.2 q.1 q.2.2
theorem HandP.h {K : PySem.W.Frag} {A : Addr → Prop} {H : Hp} {e : Key × V} {q : Addr × (Str × RdT)} (h : HandP K A H e q) : HandR K A H e q.2 := ⟨h.1, h.2.g⟩
theorem hp_hr {K : PySem.W.Frag} {A : Addr → Prop} {H : Hp} {es : List (Key × V)} {qs : List (Addr × (Str × RdT))} (h : Paired (HandP K A H) es qs) : Paired (HandR K A H) es (qs.map (·.2)) := paired_mapR h fun a b h => h.h
def spSpoil (K : PySem.W.Frag) : Sp := fun vs H Q _ => ∃ (g : Addr) (es : List (Key × V)) (qs : List (Addr × (Str × RdT))) (B : Addr → Prop), vs = [.ref g] ∧ B g ∧ H g = some (.dK es) ∧ Paired (HandP K B H) es qs ∧ (qs.map (·.1)).Nodup ∧ ((qs.map (·.2)).map (·.1)).Nodup ∧ qs ≠ [] ∧ qs.length < 1000 ∧ (∀ q ∈ qs, RdS q.2.2) ∧
  ∀ H', (∀ b o, ¬ B b → H b = some o → H' b = some o) → Q .non H'
abbrev NSo : List Str := ["handed", "name", "state", "row", "rows"]
theorem scSpoil : FnScope NSo ["handed"] (defScope sSpoil) := ⟨rfl, rfl, rfl, by decide +kernel, rfl, by decide +kernel, by decide +kernel⟩
section
variable {P : Program} {w : World} {K : PySem.W.Frag} {mg : Str → Option Value} {base : Heap} {f : Addr} {fd : FuncData}
theorem ok_spoil (F : Fun K "_law_spoil" "_law_spoil" sSpoil f fd) : FnOk P w K mg base CX0 1 f fd ["handed"] (spSpoil K) := by
  refine F.ok scSpoil (fun vs H Q E h => by obtain ⟨g, es, qs, B, e, _⟩ := h; rw [e]; rfl) fun cdv A outer s H vs Q E hr hsp => ?_
  obtain ⟨g, es, qs, B, rfl, Bg, og, pr, dnd, nnd, ne, sh, rok, hq⟩ := hsp
  have nd := scSpoil.nd
  have hu := hu_of hr
  refine ⟨_, pss_cons (ps_lock (ps_for PassesOwn.never rfl (pi_keys (pv 0)) (pg_name (i := 1) nd rfl (Or.inl rfl))
      (pss_cons (ps_lock (ps_for PassesOwn.never rfl (pi_keys (pe_ix (r := rIx K) ix_seq (pe_dget hu (pv 0) (pv 1) (fun _ _ => rfl)) pe_int (fun _ _ => rfl))) (pg_name (i := 2) nd rfl (Or.inl rfl))
        (pss_cons (ps_set (i := 3) nd rfl (Or.inl rfl) (pe_ix (r := rIx K) ix_seq (pe_dget hu (pe_ix (r := rIx K) ix_seq (pe_dget hu (pv 0) (pv 1) (fun _ _ => rfl)) pe_int (fun _ _ => rfl)) (pv 2) (fun _ _ => rfl)) pe_int (fun _ _ => rfl)))
        (pss_one (ps_expr (pe_bm0 PySem.F.plainAttrs_dict PySem.F.slot_dict_clear PySem.F.type_dict_clear mtd_clear (pv 3)))))))
      (pss_cons (ps_set (i := 4) nd rfl (Or.inl rfl) (pe_ix (r := rIx K) ix_seq (pe_dget hu (pv 0) (pv 1) (fun _ _ => rfl)) pe_int (fun _ _ => rfl)))
      (pss_one (ps_dput hu (pv 4) pe_str pe_non rfl))))))
    (pss_one (ps_dput hu (pv 0) pe_str pe_non rfl)), ?_⟩
  have les : es.length = qs.length := Paired.length pr
  have kes : es.map (·.1) = ((qs.map (·.2)).map (·.1)).map Sum.inr := hr_keys (hp_hr pr)
  have ndes : (es.map (·.1)).Nodup := by rw [kes]; exact nd_inr nnd
  have nem : qs.map (·.2) ≠ [] := fun z => ne (List.map_eq_nil_iff.mp z)
  -- the parts of a handed reader
  have got : ∀ (i : Nat) (k : Key) (v : V), es[i]? = some (k, v) → ∃ q a fs, qs[i]? = some q ∧ k = Sum.inr q.2.1 ∧ v = .ref a ∧ valV es (Sum.inr q.2.1) = some (.ref a) ∧ SqA K H a [.str q.2.2.1, .ref q.1] ∧ H q.1 = some (.dK fs) ∧ Paired (StG K B H) fs q.2.2.2.l ∧ a ≠ g ∧ q.1 ≠ g ∧ B q.1 := fun i k v e => by
    obtain ⟨q, eq, hk, a, fs, hv, b1, b2, oa, od, pf⟩ := paired_get pr e
    have hk : k = Sum.inr q.2.1 := hk
    have hv : v = .ref a := hv
    subst hk hv
    obtain ⟨a', d', fs', e1, c1, c2, oa', od', _⟩ := rd_far og (hp_hr pr) nem (show RdG K B H (.ref a) q.2.2 from ⟨a, q.1, fs, rfl, b1, b2, oa, od, pf⟩)
    obtain rfl := V.ref.inj e1
    have dd : d' = q.1 := by
      rcases oa with h | h
      · rcases oa' with h' | h'
        · rw [h] at h'
          exact (V.ref.inj (List.cons.inj (List.cons.inj (HO.lst.inj (Option.some.inj h'))).2).1).symm
        · rw [h] at h'; cases h'
      · rcases oa' with h' | h'
        · rw [h] at h'; cases h'
        · rw [h] at h'
          exact (V.ref.inj (List.cons.inj (List.cons.inj (HO.tup.inj (Option.some.inj h'))).2).1).symm
    rw [dd] at c2
    exact ⟨q, a, fs, eq, rfl, rfl, valV_atN ndes e, oa, od, pf, c1.2, c2.2, b2⟩
  refine ⟨g, _, og, trivial, fun oo => ⟨_, rfl, g, oo, rfl, .inl ⟨es, upd_same, for_it walk_keys (fun i σ H' => H' g = some (.frz oo (.dK es)) ∧ (∀ b o, ¬ B b → H b = some o → H' b = some o) ∧ (∀ b l, (H b = some (.lst l) → H' b = some (.lst l)) ∧ (H b = some (.tup l) → H' b = some (.tup l))) ∧
      (∀ j q fs, i ≤ j → qs[j]? = some q → H q.1 = some (.dK fs) → H' q.1 = some (.dK fs)) ∧ (∀ m l, m ≠ g → H m = some (.dK (dkT l)) → ∃ kvs, H' m = some (.dK kvs)) ∧ ∃ s1 s2 s3 s4, σ = [some (.ref g), s1, s2, s3, s4]) ⟨upd_same, fun b o n e => ?_, fun b l => ⟨fun e => ?_, fun e => ?_⟩, fun j q fs _ eq e => ?_, fun m l mg' e => ⟨_, by rw [upd_ne mg']; exact e⟩, _, _, _, _, rfl⟩ (fun i σ H' _ h => h.1) ?_ ?_⟩⟩⟩
  · rw [upd_ne (fun z => n (by rw [z]; exact Bg))]; exact e
  · rw [upd_ne (fun z => by rw [z, og] at e; cases e)]; exact e
  · rw [upd_ne (fun z => by rw [z, og] at e; cases e)]; exact e
  · have lj : j < es.length := by rw [les]; exact (List.getElem?_eq_some_iff.mp eq).1
    obtain ⟨q', a, fs', eq', _, _, _, _, _, _, _, qg, _⟩ := got j es[j].1 es[j].2 (List.getElem?_eq_getElem lj)
    rw [eq] at eq'
    obtain rfl := Option.some.inj eq'
    rw [upd_ne qg]; exact e
  · rintro i y σ H2 H3 lt ⟨og2, fr2, sq2, dk2, mk2, s1, s2, s3, s4, rfl⟩ ⟨rfl, k0, v0, ekv, rfl⟩
    obtain ⟨q, a, fs, eq, rfl, rfl, ev, oa, od, pf, ag, dg, Bd⟩ := got i _ _ ekv
    have qin := List.mem_of_getElem? eq
    have rs := rok q qin
    have nS : q.2.2.2.l ≠ [] := fun z => by have := rs.n0; rw [z] at this; exact absurd this (by decide)
    have sqa : ∀ {H' : Hp} {b : Addr} {l : List V}, (∀ b l, (H b = some (.lst l) → H' b = some (.lst l)) ∧ (H b = some (.tup l) → H' b = some (.tup l))) → SqA K H b l → SqA K H' b l := fun s h => h.imp (fun h => (s _ _).1 h) (fun h => (s _ _).2 h)
    have oa2 := sqa sq2 oa
    have od2 := dk2 i q fs (Nat.le_refl _) eq od
    have dgt : ∀ {H' : Hp}, H' g = some (.frz oo (.dK es)) → DGet H' g (.str q.2.1) (some (.ref a)) := fun o => .inl ⟨es, Sum.inr q.2.1, .inr ⟨oo, o⟩, rfl, ev.symm⟩
    have lfs : fs.length = q.2.2.2.l.length := Paired.length pf
    have ndf : (fs.map (·.1)).Nodup := by rw [st_keys pf]; exact nd_inr rs.nd
    have oneq : ∀ {b : Addr} {l : List V}, SqA K H b l → b ≠ q.1 := fun h z => not_dk h od z
    -- the inner walk
    refine ⟨q.1, _, od2, trivial, fun o3 => ?_⟩
    have od3 : upd H3 q.1 (.frz o3 (.dK fs)) q.1 = some (.frz o3 (.dK fs)) := upd_same
    have up3 : ∀ b o, b ≠ q.1 → H3 b = some o → upd H3 q.1 (.frz o3 (.dK fs)) b = some o := fun b o nb e => by rw [upd_ne nb]; exact e
    refine ⟨_, rfl, _, rfl, g, _, rfl, dgt (up3 _ _ (Ne.symm dg) og2), rIx_sq (oa2.kp fun o e => up3 _ _ (oneq oa) e) rfl ⟨q.1, o3, rfl, .inl ⟨fs, od3, ?_⟩⟩⟩
    refine for_it walk_keys (fun j σ H' => H' q.1 = some (.frz o3 (.dK fs)) ∧ H' g = some (.frz oo (.dK es)) ∧ (∀ b o, ¬ B b → H b = some o → H' b = some o) ∧ (∀ b l, (H b = some (.lst l) → H' b = some (.lst l)) ∧ (H b = some (.tup l) → H' b = some (.tup l))) ∧
      (∀ j q fs, i + 1 ≤ j → qs[j]? = some q → H q.1 = some (.dK fs) → H' q.1 = some (.dK fs)) ∧ (∀ m l, m ≠ g → m ≠ q.1 → H m = some (.dK (dkT l)) → ∃ kvs, H' m = some (.dK kvs)) ∧ ∃ s2 s3 s4, σ = [some (.ref g), some (.str q.2.1), s2, s3, s4])
      ⟨od3, up3 _ _ (Ne.symm dg) og2, fun b o n e => up3 _ _ (fun z => n (by rw [z]; exact Bd)) (fr2 b o n e), fun b l => ⟨fun e => up3 _ _ (oneq (.inl e)) ((sq2 b l).1 e), fun e => up3 _ _ (oneq (.inr e)) ((sq2 b l).2 e)⟩, fun j q' fs' le eq' e => up3 _ _ (fun z => ?_) (dk2 j q' fs' (by omega) eq' e), fun m l n1 n2 e => by
        obtain ⟨kvs, h⟩ := mk2 m l n1 e
        exact ⟨kvs, up3 _ _ n2 h⟩, s2, s3, s4, rfl⟩ (fun j σ H' _ h => h.1) ?_ ?_
    · have e1 : (qs.map (·.1))[j]? = some q'.1 := by rw [List.getElem?_map, eq']; rfl
      have e2 : (qs.map (·.1))[i]? = some q.1 := by rw [List.getElem?_map, eq]; rfl
      rw [z] at e1
      have := (List.getElem?_inj (List.getElem?_eq_some_iff.mp e1).1 dnd).mp (e1.trans e2.symm)
      omega
    · rintro j y σ H4 H5 lt2 ⟨od4, og4, fr4, sq4, dk4, mk4, t2, t3, t4, rfl⟩ ⟨rfl, k1, v1, ekv1, rfl⟩
      obtain ⟨st, est, hk, p, m, hv, Bp, Bm, op, om⟩ := paired_get pf ekv1
      have hk : k1 = Sum.inr st.1 := hk
      have hv : v1 = .ref p := hv
      subst hk hv
      have notdk : ∀ {fs' : List (Key × V)} {l : List (Str × StT)} {l2 : List (Str × Str)}, Paired (StG K B H) fs' l → l ≠ [] → fs' = dkT l2 → False := fun {fs' l l2} h n e => by
        cases h with
        | nil => exact n rfl
        | @cons x y xs ys hx _ =>
          obtain ⟨_, p3, m3, e3, _⟩ := hx
          cases l2 with
          | nil => cases e
          | cons z zs =>
            have e4 := (List.cons.inj e).1
            rw [e4] at e3
            cases e3
      have mq : m ≠ q.1 := fun z => by
        rw [z, od] at om
        exact notdk pf nS (HO.dK.inj (Option.some.inj om))
      have mg' : m ≠ g := fun z => by
        rw [z, og] at om
        have e := HO.dK.inj (Option.some.inj om)
        rw [e] at ekv
        obtain ⟨x, _, _, ey⟩ := dkT_back ekv
        cases ey
      obtain ⟨kvs4, om4⟩ := mk4 m _ mg' mq om
      refine ⟨_, rfl, _, rfl, g, _, rfl, dgt og4, rIx_sq (sqa sq4 oa) rfl ⟨_, rfl, q.1, V.ref p, rfl, .inl ⟨fs, Sum.inr st.1, .inr ⟨o3, od4⟩, rfl, (valV_atN ndf ekv1).symm⟩, rIx_sq (sqa sq4 op) rfl ?_⟩⟩
      refine ⟨_, rfl, .inr (.inr (.inl ⟨rfl, .inl ⟨_, om4⟩⟩)), m, _, rfl, rfl, om4, ?_⟩
      have up5 : ∀ b o, b ≠ m → H5 b = some o → upd H5 m (.dK []) b = some o := fun b o nb e => by rw [upd_ne nb]; exact e
      have lne : ∀ {b : Addr} {o : HO}, H b = some o → (∀ l, o ≠ .dK l) → b ≠ m := fun h n z => by
        rw [z, om] at h
        exact n _ (Option.some.inj h).symm
      refine ⟨up5 _ _ (Ne.symm mq) od4, up5 _ _ (Ne.symm mg') og4, fun b o n e => up5 _ _ (fun z => n (by rw [z]; exact Bm)) (fr4 b o n e), fun b l => ⟨fun e => up5 _ _ (lne e (fun _ z => by cases z)) ((sq4 b l).1 e), fun e => up5 _ _ (lne e (fun _ z => by cases z)) ((sq4 b l).2 e)⟩, fun j' q' fs' le eq' e => up5 _ _ (fun z => ?_) (dk4 j' q' fs' le eq' e), fun m2 l n1 n2 e => ?_, _, _, _, rfl⟩
      · have lj' : j' < es.length := by rw [les]; exact (List.getElem?_eq_some_iff.mp eq').1
        obtain ⟨q3, a3, fs3, eq3, _, _, _, _, od3', pf3, _, _, _⟩ := got j' es[j'].1 es[j'].2 (List.getElem?_eq_getElem lj')
        rw [eq'] at eq3
        obtain rfl := Option.some.inj eq3
        rw [z, om] at od3'
        refine notdk pf3 (fun z2 => ?_) (HO.dK.inj (Option.some.inj od3')).symm
        have := (rok q' (List.mem_of_getElem? eq')).n0
        rw [z2] at this
        exact absurd this (by decide)
      · by_cases c : m2 = m
        · rw [c]; exact ⟨_, upd_same⟩
        · obtain ⟨kvs, h⟩ := mk4 m2 l n1 n2 e
          exact ⟨kvs, up5 _ _ c h⟩
    · rintro σ H4 ⟨od4, og4, fr4, sq4, dk4, mk4, t2, t3, t4, rfl⟩
      refine ⟨od4, ?_⟩
      have up4 : ∀ b o, b ≠ q.1 → H4 b = some o → upd H4 q.1 (.dK fs) b = some o := fun b o nb e => by rw [upd_ne nb]; exact e
      refine ⟨_, rfl, _, rfl, g, _, rfl, dgt (up4 _ _ (Ne.symm dg) og4), rIx_sq ((sqa sq4 oa).kp fun o e => up4 _ _ (oneq oa) e) rfl ?_⟩
      refine ⟨_, rfl, q.1, _, rfl, DPut.k (k := Sum.inr (Str.ofString "more")) upd_same (by rw [sizeLine_eq]; have := rs.n6; omega), ?_⟩
      have up5 : ∀ {o' : HO} b o, b ≠ q.1 → H4 b = some o → upd (upd H4 q.1 (.dK fs)) q.1 o' b = some o := fun b o nb e => by rw [upd_ne nb, upd_ne nb]; exact e
      refine ⟨up5 _ _ (Ne.symm dg) og4, fun b o n e => up5 _ _ (fun z => n (by rw [z]; exact Bd)) (fr4 b o n e), fun b l => ⟨fun e => up5 _ _ (oneq (.inl e)) ((sq4 b l).1 e), fun e => up5 _ _ (oneq (.inr e)) ((sq4 b l).2 e)⟩, fun j q' fs' le eq' e => up5 _ _ (fun z => ?_) (dk4 j q' fs' le eq' e), fun m l n1 e => ?_, _, _, _, _, rfl⟩
      · have e1 : (qs.map (·.1))[j]? = some q'.1 := by rw [List.getElem?_map, eq']; rfl
        have e2 : (qs.map (·.1))[i]? = some q.1 := by rw [List.getElem?_map, eq]; rfl
        rw [z] at e1
        have := (List.getElem?_inj (List.getElem?_eq_some_iff.mp e1).1 dnd).mp (e1.trans e2.symm)
        omega
      · by_cases c : m = q.1
        · rw [c]; exact ⟨_, upd_same⟩
        · obtain ⟨kvs, h⟩ := mk4 m l n1 c e
          exact ⟨kvs, up5 _ _ c h⟩
  · rintro σ H2 ⟨e1, fr, _, _, _, s1, s2, s3, s4, rfl⟩
    refine ⟨e1, _, rfl, g, _, rfl, DPut.k (k := Sum.inr (Str.ofString "more")) upd_same (by rw [sizeLine_eq]; omega), ?_⟩
    refine hq _ fun b o n e => ?_
    have bg : b ≠ g := fun z => n (by rw [z]; exact Bg)
    rw [upd_ne bg, upd_ne bg]
    exact fr b o n e
end
end L2.TB
/-! _law_handed -/
namespace L2.TB
open PySem PySem.Spec PyProof.Rows
/-- new, and none of the spring -/
abbrev Frs (H : Hp) (l ls : Addr) : Addr → Prop := fun b => H b = none ∧ b ≠ l ∧ b ≠ ls
theorem HandP.keep {K : PySem.W.Frag} {A A' : Addr → Prop} {H H' : Hp} {e : Key × V} {q : Addr × (Str × RdT)} (h : HandP K A H e q) (k : ∀ b o, A b → H b = some o → A' b ∧ H' b = some o) : HandP K A' H' e q := by
  obtain ⟨g1, a, es, h1, a1, a2, h3, h4, h5⟩ := h
  obtain ⟨o, ho⟩ : ∃ o, H a = some o := h3.elim (fun h => ⟨_, h⟩) (fun h => ⟨_, h⟩)
  exact ⟨g1, a, es, h1, (k _ _ a1 ho).1, (k _ _ a2 h4).1, h3.kp fun o h => (k _ _ a1 h).2, (k _ _ a2 h4).2, Paired.mapP h5 fun e q h => h.keep k⟩
def spHanded (K : PySem.W.Frag) : Sp := fun vs H Q _ => ∃ (l ls D : Addr) (rs : RsT) (A : Addr → Prop) (N : Int), vs = [.ref l, .ref D] ∧ Strm H l ls N ∧ N ≤ 500000 ∧ PyD.at_ A H (.ref D) (Dc.mk rs) ∧ (∀ b, A b → b ≠ l ∧ b ≠ ls) ∧ rs ≠ [] ∧ rs.length ≤ 10 ∧ (∀ q ∈ rs, RdS q.2 ∧ q.2.2.l.length ≤ 6) ∧
  ∀ H' g es qs, H g = none → g ≠ l → g ≠ ls → H' g = some (.dK es) → Paired (HandP K (Frs H l ls) H') es qs → qs.map (·.2) = rs → (qs.map (·.1)).Nodup → Strm H' l ls (N + 80) → But l ls H H' → Q (.ref g) H'
abbrev NHn : List Str := ["stream", "readers", "found", "name", "begin", "states", "rows", "state", "pair"]
theorem scHanded : FnScope NHn ["stream", "readers"] (defScope sHanded) := ⟨rfl, rfl, rfl, by decide +kernel, rfl, by decide +kernel, by decide +kernel⟩
section
variable {P : Program} {w : World} {K : PySem.W.Frag} {mg : Str → Option Value} {base : Heap} {f fD fP : Addr} {fd fdD fdP : FuncData}
theorem ok_handed (F : Fun K "_law_handed" "_law_handed" sHanded f fd) (FD : Fun K "_law_draw" "_law_draw" sDraw fD fdD) (gD : mg "_law_draw" = some (.ref fD)) (FP : Fun K "_law_pick" "_law_pick" sPick fP fdP) (gP : mg "_law_pick" = some (.ref fP)) (gI : mg "int" = none) (gN : mg "len" = none) (gDi : mg "dict" = none) (gL : mg "list" = none) : FnOk P w K mg base CX0 3 f fd ["stream", "readers"] (spHanded K) := by
  have GP : FnOk P w K mg base CX0 2 fP fdP ["stream", "some"] (spPick K) := ok_pick FP FD gD gI gN
  have bP := FP.binds (ps := ["stream", "some"]) fun _ _ _ _ _ _ us hl => match us, hl with | [_, _], _ => rfl
  refine F.ok scHanded (fun vs H Q E h => by obtain ⟨l, ls, D, rs, A, N, e, _⟩ := h; rw [e]; rfl) fun cdv A outer s H vs Q E hr hsp => ?_
  obtain ⟨l, ls, D, rs, A0, N, rfl, S, hN, at_, ap, rne, rl, rok, hq⟩ := hsp
  obtain ⟨D', es0, e1, aD, oD, rnd, pr0⟩ := at_
  obtain rfl := V.ref.inj e1
  have nd := scHanded.nd
  have hu := hu_of (hr.mono (show 1 ≤ 2 by decide))
  refine ⟨_, pss_cons (ps_set (i := 2) nd rfl (Or.inl rfl) pe_dnewK)
    (pss_cons (ps_lock (ps_for PassesOwn.never rfl (pi_keys (pv 1)) (pg_name (i := 3) nd rfl (Or.inl rfl))
      (pss_cons (ps_asg (pe_dget hu (pv 1) (pv 3) (fun _ _ => rfl)) (pg_tup (n := 2) rfl (pgs_cons (pg_name (i := 4) nd rfl (Or.inl rfl)) (pgs_cons (pg_name (i := 5) nd rfl (Or.inl rfl)) pgs_nil))))
      (pss_cons (ps_set (i := 6) nd rfl (Or.inl rfl) pe_dnewK)
      (pss_cons (ps_lock (ps_for PassesOwn.never rfl (pi_keys (pv 5)) (pg_name (i := 7) nd rfl (Or.inl rfl))
        (pss_cons (ps_set (i := 8) nd rfl (Or.inl rfl) (pe_tup (pa_cons (pe_ix (r := rIx K) ix_seq (pe_dget hu (pv 5) (pv 7) (fun _ _ => rfl)) pe_int (fun _ _ => rfl)) (pa_cons (pe_callTy call_dictD rfl gDi boot_dict' (pa_cons (pe_ix (r := rIx K) ix_seq (pe_dget hu (pv 5) (pv 7) (fun _ _ => rfl)) pe_int (fun _ _ => rfl)) pa_nil)) pa_nil))))
        (pss_one (ps_dput hu (pv 6) (pv 7) (pe_call GP hr rfl gP FP.kp bP .nil pass0 (pa_cons (pv 0) (pa_cons (pe_lst (pa_cons (pv 8) (pa_cons (pe_callTy call_list_of rfl gL boot_list' (pa_cons (pv 8) pa_nil)) pa_nil))) pa_nil))) rfl)))))
      (pss_one (ps_dput hu (pv 2) (pv 3) (pe_call GP hr rfl gP FP.kp bP .nil pass0 (pa_cons (pv 0) (pa_cons (pe_lst (pa_cons (pe_tup (pa_cons (pv 4) (pa_cons (pv 6) pa_nil))) (pa_cons (pe_lst (pa_cons (pv 4) (pa_cons (pv 6) pa_nil))) pa_nil))) pa_nil))) rfl)))))))
    (pss_one (ps_ret (pv 2)))), ?_⟩
  intro g ng
  have ag := S.apart (Same.refl _) ng
  have gD' : g ≠ D := fun z => by rw [z, oD] at ng; cases ng
  have kg := same_new (o := .dK []) ng
  have og : upd H g (.dK []) g = some (.dK []) := upd_same
  have S1 := S.same kg
  have oD1 := kg _ _ oD
  generalize upd H g (.dK []) = H1 at kg og S1 oD1
  have les0 : es0.length = rs.length := Paired.length pr0
  have kes0 : es0.map (·.1) = (rs.map (·.1)).map Sum.inr := dc_keys pr0
  have ndes0 : (es0.map (·.1)).Nodup := by rw [kes0]; exact nd_inr rnd
  have hp : ∀ {b : Addr} {o : HO}, H b = some o → b ≠ g := fun e z => by rw [z, ng] at e; cases e
  refine ⟨D, _, oD1, trivial, fun od => ⟨_, rfl, D, od, rfl, .inl ⟨es0, upd_same, ?_⟩⟩⟩
  have oL : upd H1 D (.frz od (.dK es0)) D = some (.frz od (.dK es0)) := upd_same
  have oGL : upd H1 D (.frz od (.dK es0)) g = some (.dK []) := by rw [upd_ne gD']; exact og
  have aDl := ap _ aD
  -- what stood before stands
  have upL : ∀ b o, b ≠ D → H b = some o → upd H1 D (.frz od (.dK es0)) b = some o := fun b o nb e => by rw [upd_ne nb]; exact kg _ _ e
  refine for_it walk_keys (fun i σ H' => Strm H' l ls (N + 8 * i) ∧ H' D = some (.frz od (.dK es0)) ∧ (∀ b o, b ≠ l → b ≠ ls → b ≠ D → H b = some o → H' b = some o) ∧ (∃ (es : List (Key × V)) (qs : List (Addr × (Str × RdT))), H' g = some (.dK es) ∧ Paired (HandP K (fun b => Frs H l ls b ∧ b ≠ g) H') es qs ∧ qs.map (·.2) = rs.take i ∧ (qs.map (·.1)).Nodup) ∧
      ∃ s3 s4 s5 s6 s7 s8, σ = [some (.ref l), some (.ref D), some (.ref g), s3, s4, s5, s6, s7, s8])
    ⟨by simpa using strm_upd S1 aDl, oL, fun b o _ _ nb e => upL b o nb e, ⟨[], [], oGL, .nil, by simp, by simp⟩, _, _, _, _, _, _, rfl⟩ (fun i σ H' _ h => h.2.1) ?_ ?_
  · rintro i y σ H2 H3 lt ⟨S2, oD2, fr2, ⟨es, qs, og2, pq, eqs, dnd⟩, s3, s4, s5, s6, s7, s8, rfl⟩ ⟨rfl, k0, v0, ekv, rfl⟩
    obtain ⟨q, eq, hk, at1⟩ := paired_get pr0 ekv
    have hk : k0 = Sum.inr q.1 := hk
    subst hk
    have qin := List.mem_of_getElem? eq
    have atf := at_far oD pr0 rne at1
    obtain ⟨b, x, y2, rfl, ab, ob, hx, d, fs, hy, ad, odd, ndn, prs⟩ := atf
    have hx : x = .str q.2.1 := hx
    have hy : y2 = .ref d := hy
    subst hx hy
    have abl := ap _ ab.1
    have adl := ap _ ad.1
    have ob3 := fr2 _ _ abl.1 abl.2 ab.2 ob
    have rsq := rok q qin
    refine ⟨_, rfl, _, rfl, D, _, rfl, .inl ⟨es0, Sum.inr q.1, .inr ⟨od, oD2⟩, rfl, (valV_atN ndes0 ekv).symm⟩, b, _, rfl, SqT.of ob3, rfl, _, _, rfl, _, _, rfl, rfl, ?_⟩
    intro r0 nr0
    have ar0 := S2.apart (Same.refl _) nr0
    have kr := same_new (o := .dK []) nr0
    have or0 : upd H3 r0 (.dK []) r0 = some (.dK []) := upd_same
    have S4 := S2.same kr
    have r0g : r0 ≠ g := fun z => by rw [z, og2] at nr0; cases nr0
    have r0D : r0 ≠ D := fun z => by rw [z, oD2] at nr0; cases nr0
    have low3 : ∀ b, H3 b = none → H b = none := fun b n => by
      cases e : H b with
      | none => rfl
      | some o =>
        by_cases bl : b = l
        · obtain ⟨⟨o', h⟩, _⟩ := S2.some
          rw [bl, h] at n; cases n
        · by_cases bs : b = ls
          · obtain ⟨_, o', h⟩ := S2.some
            rw [bs, h] at n; cases n
          · by_cases bD : b = D
            · rw [bD, oD2] at n; cases n
            · rw [fr2 b o bl bs bD e] at n; cases n
    have lr0 := low3 _ nr0
    generalize upd H3 r0 (.dK []) = H4 at kr or0 S4
    have odd4 := kr _ _ (fr2 _ _ adl.1 adl.2 ad.2 odd)
    have r0d : r0 ≠ d := fun z => by rw [z, odd] at lr0; cases lr0
    have lfs : fs.length = q.2.2.l.length := Paired.length prs
    have ndf : (fs.map (·.1)).Nodup := by rw [dc_keys prs]; exact nd_inr rsq.1.nd
    refine ⟨d, _, odd4, trivial, fun o3 => ⟨_, rfl, d, o3, rfl, .inl ⟨fs, upd_same, ?_⟩⟩⟩
    have oLd : upd H4 d (.frz o3 (.dK fs)) d = some (.frz o3 (.dK fs)) := upd_same
    have upH : ∀ b o, b ≠ l → b ≠ ls → b ≠ D → b ≠ d → H b = some o → upd H4 d (.frz o3 (.dK fs)) b = some o := fun b o h1 h2 h3 h4 e => by rw [upd_ne h4]; exact kr _ _ (fr2 b o h1 h2 h3 e)
    refine for_it walk_keys (fun j σ H' => Strm H' l ls (N + 8 * i + j) ∧ (∀ b o, b ≠ l → b ≠ ls → b ≠ r0 → upd H4 d (.frz o3 (.dK fs)) b = some o → H' b = some o) ∧ (∃ fs2, H' r0 = some (.dK fs2) ∧ Paired (StG K (fun b => (Frs H l ls b ∧ b ≠ g) ∧ b ≠ r0 ∧ b ≠ d) H') fs2 (q.2.2.l.take j)) ∧
        ∃ s7 s8, σ = [some (.ref l), some (.ref D), some (.ref g), some (.str q.1), some (.str q.2.1), some (.ref d), some (.ref r0), s7, s8])
      ⟨by simpa using strm_upd S4 adl, fun _ _ _ _ _ e => e, ⟨[], by rw [upd_ne r0d]; exact or0, by rw [List.take_zero]; exact .nil⟩, _, _, rfl⟩ (fun j σ H' _ h => h.2.1 _ _ adl.1 adl.2 (Ne.symm r0d) oLd) ?_ ?_
    · rintro j y σ H5 H6 lj ⟨S5, fr5, ⟨fs2, or5, pf5⟩, s7, s8, rfl⟩ ⟨rfl, k1, v1, ekv1, rfl⟩
      obtain ⟨st, est, hk, p, u1, u2, hv, ap1, op, hu1, m, ms, hu2, am1, om, ndm, prm⟩ := paired_get prs ekv1
      have hk : k1 = Sum.inr st.1 := hk
      have hv : v1 = .ref p := hv
      have hu1 : u1 = .int st.2.1 := hu1
      have hu2 : u2 = .ref m := hu2
      have em := dk_txt prm
      subst hk hv hu1 hu2 em
      have apl := ap _ ap1.1
      have aml := ap _ am1.1
      have pd : p ≠ d := fun z => by rw [z, odd] at op; cases op
      have md : m ≠ d := fun z => by
        rw [z, odd] at om
        have e := HO.dK.inj (Option.some.inj om)
        rw [e] at ekv1
        obtain ⟨x, _, _, ey⟩ := dkT_back ekv1
        cases ey
      have pr0' : p ≠ r0 := fun z => by rw [z, lr0] at op; cases op
      have mr0 : m ≠ r0 := fun z => by rw [z, lr0] at om; cases om
      have op6 := fr5 _ _ apl.1 apl.2 pr0' (upH _ _ apl.1 apl.2 ap1.2 pd op)
      have om6 := fr5 _ _ aml.1 aml.2 mr0 (upH _ _ aml.1 aml.2 am1.2 md om)
      have od6 := fr5 _ _ adl.1 adl.2 (Ne.symm r0d) oLd
      have low6 : ∀ b, H6 b = none → (Frs H l ls b ∧ b ≠ g) ∧ b ≠ r0 ∧ b ≠ d := fun b n => by
        have a := S5.apart (Same.refl _) n
        have n0 : b ≠ r0 := fun z => by rw [z, or5] at n; cases n
        have n1 : b ≠ d := fun z => by rw [z, od6] at n; cases n
        have n4 : upd H4 d (.frz o3 (.dK fs)) b = none := by
          cases e : upd H4 d (.frz o3 (.dK fs)) b with
          | none => rfl
          | some o => rw [fr5 b o a.1 a.2 n0 e] at n; cases n
        rw [upd_ne n1] at n4
        have n3 : H3 b = none := kr.free n4
        exact ⟨⟨⟨low3 _ n3, a⟩, fun z => by rw [z, og2] at n3; cases n3⟩, n0, n1⟩
      have dg : ∀ {H' : Hp}, H' d = some (.frz o3 (.dK fs)) → DGet H' d (.str st.1) (some (.ref p)) := fun o => .inl ⟨fs, Sum.inr st.1, .inr ⟨o3, o⟩, rfl, (valV_atN ndf ekv1).symm⟩
      refine ⟨_, rfl, _, rfl, d, _, rfl, dg od6, rIx_sq (.inr op6) rfl ⟨_, rfl, _, rfl, d, _, rfl, dg od6, rIx_sq (.inr op6) rfl ⟨m, _, rfl, .inl om6, fun dm ndm2 => ?_⟩⟩⟩
      have kd := same_new (o := .dK (dkT st.2.2.l)) ndm2
      have ldm := low6 _ ndm2
      have odm : upd H6 dm (.dK (dkT st.2.2.l)) dm = some (.dK (dkT st.2.2.l)) := upd_same
      have S6 := S5.same kd
      have low7 : ∀ b, upd H6 dm (.dK (dkT st.2.2.l)) b = none → H6 b = none := fun b n => kd.free n
      generalize upd H6 dm (.dK (dkT st.2.2.l)) = H7 at kd odm S6 low7
      refine ⟨(by show 2 ≤ sizeLine; decide), fun t nt => ?_⟩
      have kt := same_new (o := .tup [.int st.2.1, .ref dm]) nt
      have lt' := low6 _ (low7 _ nt)
      have ott : upd H7 t (.tup [.int st.2.1, .ref dm]) t = some (.tup [.int st.2.1, .ref dm]) := upd_same
      have S7 := S6.same kt
      have k67 := kd.trans kt
      have odm8 := kt _ _ odm
      generalize upd H7 t (.tup [.int st.2.1, .ref dm]) = H8 at kt ott S7 k67 odm8
      refine ⟨_, rfl, _, rfl, _, rfl, t, _, rfl, .inr (SqT.of ott), fun u nu => ?_⟩
      have ku := same_new (o := .lst [.int st.2.1, .ref dm]) nu
      have lu' := low6 _ (k67.free nu)
      have ouu : upd H8 u (.lst [.int st.2.1, .ref dm]) u = some (.lst [.int st.2.1, .ref dm]) := upd_same
      have S8 := S7.same ku
      have k68 := k67.trans ku
      have odm9 := ku _ _ odm8
      have ott9 := ku _ _ ott
      generalize upd H8 u (.lst [.int st.2.1, .ref dm]) = H9 at ku ouu S8 k68 odm9 ott9
      refine ⟨(by show 2 ≤ sizeLine; decide), fun c nc => ?_⟩
      have kc := same_new (o := .lst [.ref t, .ref u]) nc
      have ac := S8.apart (Same.refl _) nc
      refine ⟨l, ls, c, [.ref t, .ref u], _, rfl, S8.same kc, by omega, ac.1, ac.2, upd_same, by show 0 < 2; decide, by show 2 < 1000; decide, fun H10 v hv S10 B10 => ?_⟩
      have B610 : But l ls H6 H10 := (But.of (k68.trans kc)).trans B10
      have B910 : But l ls H9 H10 := (But.of kc).trans B10
      have odm10 := B910 _ _ ldm.1.1.2.1 ldm.1.1.2.2 odm9
      obtain ⟨v', rfl, va, vs⟩ : ∃ v', v = .ref v' ∧ ((Frs H l ls v' ∧ v' ≠ g) ∧ v' ≠ r0 ∧ v' ≠ d) ∧ SqA K H10 v' [.int st.2.1, .ref dm] := by
        rcases List.mem_cons.mp hv with e | hv
        · exact ⟨t, e, lt', .inr (B910 _ _ lt'.1.1.2.1 lt'.1.1.2.2 ott9)⟩
        · exact ⟨u, List.mem_singleton.mp hv, lu', .inl (B910 _ _ lu'.1.1.2.1 lu'.1.1.2.2 ouu)⟩
      have or10 := B610 _ _ ar0.1 ar0.2 or5
      have lfs2 : fs2.length = j := by
        have z := Paired.length pf5
        rw [List.length_take] at z
        have lj2 := (List.getElem?_eq_some_iff.mp est).1
        omega
      have nout : (Sum.inr st.1 : Key) ∉ fs2.map (·.1) := fun hx => by
        rw [st_keys pf5] at hx
        obtain ⟨y, hy, e1⟩ := List.mem_map.mp hx
        obtain rfl := Sum.inr.inj e1
        have et : q.2.2.l.take (j + 1) = q.2.2.l.take j ++ [st] := by rw [List.take_succ, est]; rfl
        have z2 : ((q.2.2.l.take (j + 1)).map (·.1)).Nodup := rsq.1.nd.sublist ((List.take_sublist _ _).map _)
        rw [et, List.map_append, List.nodup_append] at z2
        exact z2.2.2 _ hy _ (by simp) rfl
      have l6 := rsq.2
      refine ⟨_, rfl, _, rfl, r0, _, rfl, DPut.k (k := Sum.inr st.1) or10 (by rw [sizeLine_eq]; omega), ?_⟩
      have up : ∀ {o' : HO} (b : Addr) (o : HO), b ≠ r0 → H10 b = some o → upd H10 r0 o' b = some o := fun b o nb e => by rw [upd_ne nb]; exact e
      refine ⟨(strm_upd S10 ar0).mono (by omega), fun b o h1 h2 h3 e => up b o h3 (B610 b o h1 h2 (fr5 b o h1 h2 h3 e)), ⟨fs2 ++ [(Sum.inr st.1, .ref v')], by rw [upd_same, put_last nout], ?_⟩, _, _, rfl⟩
      refine pair_snoc (Paired.mapP pf5 fun e q h => h.keep fun b o a e => ⟨a, up _ _ a.2.1 (B610 b o a.1.1.2.1 a.1.1.2.2 e)⟩) est ⟨rfl, v', dm, rfl, va, ldm, vs.imp (up _ _ va.2.1) (up _ _ va.2.1), up _ _ ldm.2.1 odm10⟩
    · rintro σ H5 ⟨S5, fr5, ⟨fs2, or5, pf5⟩, s7, s8, rfl⟩
      rw [lfs, List.take_length] at pf5
      rw [lfs] at S5
      have l6 := rsq.2
      have od5 := fr5 _ _ adl.1 adl.2 (Ne.symm r0d) oLd
      refine ⟨od5, ?_⟩
      have or6 : upd H5 d (.dK fs) r0 = some (.dK fs2) := by rw [upd_ne r0d]; exact or5
      have pf6 : Paired (StG K (fun b => (Frs H l ls b ∧ b ≠ g) ∧ b ≠ r0 ∧ b ≠ d) (upd H5 d (.dK fs))) fs2 q.2.2.l := Paired.mapP pf5 fun e q h => h.keep fun b o a e => ⟨a, by rw [upd_ne a.2.2]; exact e⟩
      have S6 := strm_upd (b := d) (o := .dK fs) S5 adl
      -- what stood ahead of this turn stands
      have fr6 : ∀ b o, b ≠ l → b ≠ ls → H3 b = some o → upd H5 d (.dK fs) b = some o := fun b o h1 h2 e => by
        have br : b ≠ r0 := ne_of_none e nr0
        by_cases bd : b = d
        · rw [bd] at e ⊢
          have z := kr _ _ e
          rw [odd4] at z
          rw [upd_same]
          exact z
        · rw [upd_ne bd]
          exact fr5 b o h1 h2 br (by rw [upd_ne bd]; exact kr _ _ e)
      have low6 : ∀ b, upd H5 d (.dK fs) b = none → H3 b = none ∧ b ≠ l ∧ b ≠ ls ∧ b ≠ r0 := fun b n => by
        have a := S6.apart (Same.refl _) n
        refine ⟨?_, a.1, a.2, fun z => by rw [z, or6] at n; cases n⟩
        cases e : H3 b with
        | none => rfl
        | some o => rw [fr6 b o a.1 a.2 e] at n; cases n
      generalize upd H5 d (.dK fs) = H6 at or6 pf6 S6 fr6 low6
      have frs6 : ∀ b, H6 b = none → (Frs H l ls b ∧ b ≠ g) ∧ b ≠ r0 := fun b n => by
        obtain ⟨n3, a1, a2, a3⟩ := low6 b n
        exact ⟨⟨⟨low3 _ n3, a1, a2⟩, fun z => by rw [z, og2] at n3; cases n3⟩, a3⟩
      refine ⟨_, rfl, _, rfl, _, rfl, (by show 2 ≤ sizeLine; decide), fun t nt => ?_⟩
      have kt := same_new (o := .tup [.str q.2.1, .ref r0]) nt
      have lt' := frs6 _ nt
      have ott : upd H6 t (.tup [.str q.2.1, .ref r0]) t = some (.tup [.str q.2.1, .ref r0]) := upd_same
      have S7 := S6.same kt
      generalize upd H6 t (.tup [.str q.2.1, .ref r0]) = H7 at kt ott S7
      refine ⟨_, rfl, _, rfl, (by show 2 ≤ sizeLine; decide), fun u nu => ?_⟩
      have ku := same_new (o := .lst [.str q.2.1, .ref r0]) nu
      have lu' := frs6 _ (kt.free nu)
      have ouu : upd H7 u (.lst [.str q.2.1, .ref r0]) u = some (.lst [.str q.2.1, .ref r0]) := upd_same
      have S8 := S7.same ku
      have k68 := kt.trans ku
      have ott8 := ku _ _ ott
      generalize upd H7 u (.lst [.str q.2.1, .ref r0]) = H8 at ku ouu S8 k68 ott8
      refine ⟨(by show 2 ≤ sizeLine; decide), fun c nc => ?_⟩
      have kc := same_new (o := .lst [.ref t, .ref u]) nc
      have ac := S8.apart (Same.refl _) nc
      refine ⟨l, ls, c, [.ref t, .ref u], _, rfl, S8.same kc, by omega, ac.1, ac.2, upd_same, by show 0 < 2; decide, by show 2 < 1000; decide, fun H10 v hv S10 B10 => ?_⟩
      have B610 : But l ls H6 H10 := (But.of (k68.trans kc)).trans B10
      have B810 : But l ls H8 H10 := (But.of kc).trans B10
      obtain ⟨v', rfl, va, vs⟩ : ∃ v', v = .ref v' ∧ ((Frs H l ls v' ∧ v' ≠ g) ∧ v' ≠ r0) ∧ SqA K H10 v' [.str q.2.1, .ref r0] := by
        rcases List.mem_cons.mp hv with e | hv
        · exact ⟨t, e, lt', .inr (B810 _ _ lt'.1.1.2.1 lt'.1.1.2.2 ott8)⟩
        · exact ⟨u, List.mem_singleton.mp hv, lu', .inl (B810 _ _ lu'.1.1.2.1 lu'.1.1.2.2 ouu)⟩
      have og6 := fr6 _ _ ag.1 ag.2 og2
      have og10 := B610 _ _ ag.1 ag.2 og6
      have or10 := B610 _ _ ar0.1 ar0.2 or6
      have lqs : qs.length = i := by
        have z := congrArg List.length eqs
        rw [List.length_map, List.length_take] at z
        have := (List.getElem?_eq_some_iff.mp eq).1
        omega
      have les : es.length = qs.length := Paired.length pq
      have nout : (Sum.inr q.1 : Key) ∉ es.map (·.1) := fun hx => by
        have ke := hr_keys (hp_hr pq)
        rw [ke, eqs] at hx
        obtain ⟨y, hy, e1⟩ := List.mem_map.mp hx
        obtain rfl := Sum.inr.inj e1
        have et : rs.take (i + 1) = rs.take i ++ [q] := by rw [List.take_succ, eq]; rfl
        have z2 : ((rs.take (i + 1)).map (·.1)).Nodup := rnd.sublist ((List.take_sublist _ _).map _)
        rw [et, List.map_append, List.nodup_append] at z2
        exact z2.2.2 _ hy _ (by simp) rfl
      have li := (List.getElem?_eq_some_iff.mp eq).1
      refine ⟨_, rfl, _, rfl, g, _, rfl, DPut.k (k := Sum.inr q.1) og10 (by rw [sizeLine_eq]; omega), ?_⟩
      have up : ∀ {o' : HO} (b : Addr) (o : HO), b ≠ g → H10 b = some o → upd H10 g o' b = some o := fun b o nb e => by rw [upd_ne nb]; exact e
      refine ⟨(strm_upd S10 ag).mono (by omega), up _ _ (Ne.symm gD') (B610 _ _ aDl.1 aDl.2 (fr6 _ _ aDl.1 aDl.2 oD2)), fun b o h1 h2 h3 e => up b o (hp e) (B610 b o h1 h2 (fr6 b o h1 h2 (fr2 b o h1 h2 h3 e))), ⟨es ++ [(Sum.inr q.1, .ref v')], qs ++ [(r0, q)], by rw [upd_same, put_last nout], ?_, ?_, ?_⟩, _, _, _, _, _, _, rfl⟩
      · refine paired_join (Paired.mapP pq fun e q h => h.keep fun b o a e => ⟨a, up _ _ a.2 (B610 b o a.1.2.1 a.1.2.2 (fr6 b o a.1.2.1 a.1.2.2 e))⟩) ⟨rfl, v', fs2, rfl, va.1, ⟨⟨lr0, ar0⟩, r0g⟩, vs.imp (up _ _ va.1.2) (up _ _ va.1.2), up _ _ r0g or10, Paired.mapP pf6 fun e q h => h.keep fun b o a e => ⟨a.1, up _ _ a.1.2 (B610 b o a.1.1.2.1 a.1.1.2.2 e)⟩⟩
      · rw [List.map_append, eqs, List.take_succ, eq]
        rfl
      · rw [List.map_append, List.nodup_append]
        refine ⟨dnd, by simp, fun x hx y hy z => ?_⟩
        rw [List.mem_singleton.mp hy] at z
        obtain ⟨q', hq', rfl⟩ := List.mem_map.mp hx
        obtain ⟨j, hj⟩ := List.getElem?_of_mem hq'
        have lj : j < es.length := by rw [les]; exact (List.getElem?_eq_some_iff.mp hj).1
        obtain ⟨q2, eq2, _, a2, fs3, _, _, _, _, od3, _⟩ := paired_get pq (List.getElem?_eq_getElem lj)
        rw [hj] at eq2
        obtain rfl := Option.some.inj eq2
        have z : q'.1 = r0 := z
        rw [z, nr0] at od3
        cases od3
  · rintro σ H2 ⟨S2, oD2, fr2, ⟨es, qs, og2, pq, eqs, dnd⟩, s3, s4, s5, s6, s7, s8, rfl⟩
    rw [les0, List.take_length] at eqs
    refine ⟨oD2, _, rfl, ?_⟩
    have gD2 : upd H2 D (.dK es0) g = some (.dK es) := by rw [upd_ne gD']; exact og2
    refine hq _ g es qs ng ag.1 ag.2 gD2 (Paired.mapP pq fun e q h => h.keep fun b o a e => ⟨a.1, by rw [upd_ne (fun z => by rw [z] at a; have z2 := a.1.1; rw [oD] at z2; cases z2)]; exact e⟩) eqs dnd ((strm_upd S2 aDl).mono (by rw [les0]; omega)) ?_
    intro b o h1 h2 e
    by_cases bD : b = D
    · rw [bD] at e ⊢
      rw [oD] at e
      rw [upd_same]
      exact e
    · rw [upd_ne bD]
      exact fr2 b o h1 h2 bD e
end
end L2.TB
/-! _law_turned -/
namespace L2.TB
open PySem PySem.Spec PyProof.Rows
def StP (s s' : Str × StT) : Prop := s'.1 = s.1 ∧ s'.2.1 = s.2.1 ∧ s'.2.2.l.Perm s.2.2.l
def TurnR (r r' : RdT) : Prop := r'.1 = r.1 ∧ ∃ mid, mid.Perm r.2.l ∧ Paired StP mid r'.2.l
def TurnRs (rs rs' : RsT) : Prop := Paired (fun q q' => q'.1 = q.1 ∧ TurnR q.2 q'.2) rs rs'
theorem turn_keys {rs rs' : RsT} (h : TurnRs rs rs') : rs'.map (·.1) = rs.map (·.1) := by
  unfold TurnRs at h
  induction h with
  | nil => rfl
  | cons h _ ih => rw [List.map_cons, List.map_cons, h.1, ih]
theorem stp_keys {a b : List (Str × StT)} (h : Paired StP a b) : b.map (·.1) = a.map (·.1) := by
  induction h with
  | nil => rfl
  | cons h _ ih => rw [List.map_cons, List.map_cons, h.1, ih]
theorem perm_lift {α β : Type} {f : α → β} {ys zs : List β} (h : ys.Perm zs) : ∀ {l : List α}, zs = l.map f → ∃ l' : List α, l'.Perm l ∧ ys = l'.map f := by
  induction h with
  | nil =>
    intro l e
    refine ⟨[], ?_, rfl⟩
    cases l with
    | nil => exact .refl _
    | cons a l => cases e
  | @cons y ys zs _ ih =>
    intro l e
    cases l with
    | nil => cases e
    | cons a l =>
      obtain ⟨e1, e2⟩ := List.cons.inj e
      obtain ⟨l', p, e3⟩ := ih e2
      exact ⟨a :: l', p.cons a, by rw [e1, e3]; rfl⟩
  | @swap x y zs =>
    intro l e
    cases l with
    | nil => cases e
    | cons a l =>
      cases l with
      | nil => cases (List.cons.inj e).2
      | cons b l =>
        obtain ⟨e1, e2⟩ := List.cons.inj e
        obtain ⟨e3, e4⟩ := List.cons.inj e2
        exact ⟨b :: a :: l, .swap _ _ _, by rw [e1, e3, e4]; rfl⟩
  | trans _ _ ih1 ih2 =>
    intro l e
    obtain ⟨l2, p2, e2⟩ := ih2 e
    obtain ⟨l1, p1, e1⟩ := ih1 e2
    exact ⟨l1, p1.trans p2, e1⟩
theorem pair_zip {α β : Type} {F : α → β → Prop} {as : List α} {bs : List β} (h : Paired F as bs) : ∃ z : List (α × β), as = z.map (·.1) ∧ bs = z.map (·.2) ∧ ∀ x ∈ z, F x.1 x.2 := by
  induction h with
  | nil => exact ⟨[], rfl, rfl, fun x hx => by cases hx⟩
  | @cons a b as bs h _ ih =>
    obtain ⟨z, e1, e2, f⟩ := ih
    exact ⟨(a, b) :: z, by rw [e1]; rfl, by rw [e2]; rfl, fun x hx => by
      rcases List.mem_cons.mp hx with rfl | hx
      · exact h
      · exact f x hx⟩
theorem zip_pair {α β : Type} {F : α → β → Prop} : ∀ (z : List (α × β)), (∀ x ∈ z, F x.1 x.2) → Paired F (z.map (·.1)) (z.map (·.2))
  | [], _ => .nil
  | x :: z, f => .cons (f x List.mem_cons_self) (zip_pair z fun y hy => f y (List.mem_cons_of_mem _ hy))
/-- mixed pairs -/
theorem mixed_pairs {F : Addr → (Key × V) → Prop} {ts : List Addr} {es : List (Key × V)} {ys : List V} (h : Paired F ts es) (pm : ys.Perm (ts.map V.ref)) : ∃ ts2 es2, ys = ts2.map V.ref ∧ Paired F ts2 es2 ∧ es2.Perm es := by
  obtain ⟨z, e1, e2, f⟩ := pair_zip h
  obtain ⟨z', p, e3⟩ := perm_lift pm (l := z) (f := fun x => V.ref x.1) (by rw [e1, List.map_map]; rfl)
  refine ⟨z'.map (·.1), z'.map (·.2), (by rw [e3, List.map_map]; rfl), zip_pair z' (fun x hx => f x (p.mem_iff.mp hx)), ?_⟩
  rw [e2]
  exact p.map _
/-- the states, by their names in another order -/
theorem mid_of {α : Type} {l : List (Str × α)} (nd : (l.map (·.1)).Nodup) {ks : List Str} (pm : ks.Perm (l.map (·.1))) : ∃ mid : List (Str × α), mid.Perm l ∧ ks = mid.map (·.1) := perm_lift pm rfl
theorem val_at {α : Type} [PyD α] {A : Addr → Prop} {H : Hp} {es : List (Key × V)} {l : List (Str × α)} (h : Paired (DcE A H) es l) {n : Str} {a : α} (e : lk l n = some a) : ∃ v, valV es (Sum.inr n) = some v ∧ PyD.at_ A H v a := by
  rcases val_lk h n with ⟨_, h2⟩ | ⟨v, a', h1, h2, h3⟩
  · rw [e] at h2; cases h2
  · rw [e] at h2
    obtain rfl := Option.some.inj h2
    exact ⟨v, h1, h3⟩
def spTurned : Sp := fun vs H Q _ => ∃ (l ls D : Addr) (rs : RsT) (A : Addr → Prop) (N : Int), vs = [.ref l, .ref D] ∧ Strm H l ls N ∧ N ≤ 500000 ∧ PyD.at_ A H (.ref D) (Dc.mk rs) ∧ (∀ b, A b → b ≠ l ∧ b ≠ ls) ∧ rs ≠ [] ∧ rs.length ≤ 10 ∧ (∀ q ∈ rs, RdS q.2 ∧ q.2.2.l.length ≤ 6 ∧ ∀ s ∈ q.2.2.l, s.2.2.l.length ≤ 3) ∧
  ∀ H' g rs', g ≠ l → g ≠ ls → PyD.at_ (Frs H l ls) H' (.ref g) (Dc.mk rs') → TurnRs rs rs' → Strm H' l ls (N + 300) → But l ls H H' → Q (.ref g) H'
abbrev NTu : List Str := ["stream", "readers", "found", "name", "begin", "states", "rows", "state", "digit", "moves"]
theorem scTurned : FnScope NTu ["stream", "readers"] (defScope sTurned) := ⟨rfl, rfl, rfl, by decide +kernel, rfl, by decide +kernel, by decide +kernel⟩
section
variable {P : Program} {w : World} {K : PySem.W.Frag} {mg : Str → Option Value} {base : Heap} {f fM : Addr} {fd fdM : FuncData}
theorem ok_turned (F : Fun K "_law_turned" "_law_turned" sTurned f fd) (gM : mg "_law_mixed" = some (.ref fM)) (kM : PySem.W.keepIn K (.ref fM) = true) (GM : FnOk P w K mg base CX0 2 fM fdM ["stream", "some"] (spMixed K)) (bM : Binds K fdM ["stream", "some"] []) (gDi : mg "dict" = none) (gL : mg "list" = none) : FnOk P w K mg base CX0 3 f fd ["stream", "readers"] spTurned := by
  refine F.ok scTurned (fun vs H Q E h => by obtain ⟨l, ls, D, rs, A, N, e, _⟩ := h; rw [e]; rfl) fun cdv A outer s H vs Q E hr hsp => ?_
  obtain ⟨l, ls, D, rs, A0, N, rfl, S, hN, at_, ap, rne, rl, rok, hq⟩ := hsp
  obtain ⟨D', es0, e1, aD, oD, rnd, pr0⟩ := at_
  obtain rfl := V.ref.inj e1
  have nd := scTurned.nd
  have hu := hu_of (hr.mono (show 1 ≤ 2 by decide))
  refine ⟨_, pss_cons (ps_set (i := 2) nd rfl (Or.inl rfl) pe_dnewK)
    (pss_cons (ps_lock (ps_for PassesOwn.never rfl (pi_keys (pv 1)) (pg_name (i := 3) nd rfl (Or.inl rfl))
      (pss_cons (ps_asg (pe_dget hu (pv 1) (pv 3) (fun _ _ => rfl)) (pg_tup (n := 2) rfl (pgs_cons (pg_name (i := 4) nd rfl (Or.inl rfl)) (pgs_cons (pg_name (i := 5) nd rfl (Or.inl rfl)) pgs_nil))))
      (pss_cons (ps_set (i := 6) nd rfl (Or.inl rfl) pe_dnewK)
      (pss_cons (ps_for PassesOwn.never rfl (pi_list (pe_call GM hr rfl gM kM bM .nil pass0 (pa_cons (pv 0) (pa_cons (pe_callTy (call_listD rfl) rfl gL boot_list' (pa_cons (pv 5) pa_nil)) pa_nil)))) (pg_name (i := 7) nd rfl (Or.inl rfl))
        (pss_cons (ps_asg (pe_dget hu (pv 5) (pv 7) (fun _ _ => rfl)) (pg_tup (n := 2) rfl (pgs_cons (pg_name (i := 8) nd rfl (Or.inl rfl)) (pgs_cons (pg_name (i := 9) nd rfl (Or.inl rfl)) pgs_nil))))
        (pss_one (ps_dput hu (pv 6) (pv 7) (pe_tup (pa_cons (pv 8) (pa_cons (pe_callTy (r := rDk K) (call_dk rfl) rfl gDi boot_dict' (pa_cons (pe_call GM hr rfl gM kM bM .nil pass0 (pa_cons (pv 0) (pa_cons (LiI.pe_listItems rfl (pv 9) rfl gL boot_list') pa_nil))) pa_nil)) pa_nil))) rfl))))
      (pss_one (ps_dput hu (pv 2) (pv 3) (pe_tup (pa_cons (pv 4) (pa_cons (pv 6) pa_nil))) rfl)))))))
    (pss_one (ps_ret (pv 2)))), ?_⟩
  intro g ng
  have ag := S.apart (Same.refl _) ng
  have gD' : g ≠ D := fun z => by rw [z, oD] at ng; cases ng
  have kg := same_new (o := .dK []) ng
  have og : upd H g (.dK []) g = some (.dK []) := upd_same
  have S1 := S.same kg
  have oD1 := kg _ _ oD
  generalize upd H g (.dK []) = H1 at kg og S1 oD1
  have les0 : es0.length = rs.length := Paired.length pr0
  have kes0 : es0.map (·.1) = (rs.map (·.1)).map Sum.inr := dc_keys pr0
  have ndes0 : (es0.map (·.1)).Nodup := by rw [kes0]; exact nd_inr rnd
  have hp : ∀ {b : Addr} {o : HO}, H b = some o → b ≠ g := fun e z => by rw [z, ng] at e; cases e
  refine ⟨D, _, oD1, trivial, fun od => ⟨_, rfl, D, od, rfl, .inl ⟨es0, upd_same, ?_⟩⟩⟩
  have oL : upd H1 D (.frz od (.dK es0)) D = some (.frz od (.dK es0)) := upd_same
  have oGL : upd H1 D (.frz od (.dK es0)) g = some (.dK []) := by rw [upd_ne gD']; exact og
  have aDl := ap _ aD
  have upL : ∀ b o, b ≠ D → H b = some o → upd H1 D (.frz od (.dK es0)) b = some o := fun b o nb e => by rw [upd_ne nb]; exact kg _ _ e
  refine for_it walk_keys (fun i σ H' => Strm H' l ls (N + 30 * i) ∧ H' D = some (.frz od (.dK es0)) ∧ (∀ b o, b ≠ l → b ≠ ls → b ≠ D → H b = some o → H' b = some o) ∧ (∃ (es : List (Key × V)) (rs' : RsT), H' g = some (.dK es) ∧ Paired (DcE (fun b => Frs H l ls b ∧ b ≠ g) H') es rs' ∧ TurnRs (rs.take i) rs') ∧
      ∃ s3 s4 s5 s6 s7 s8 s9, σ = [some (.ref l), some (.ref D), some (.ref g), s3, s4, s5, s6, s7, s8, s9])
    ⟨by simpa using strm_upd S1 aDl, oL, fun b o _ _ nb e => upL b o nb e, ⟨[], [], oGL, .nil, by rw [List.take_zero]; exact .nil⟩, _, _, _, _, _, _, _, rfl⟩ (fun i σ H' _ h => h.2.1) ?_ ?_
  · rintro i y σ H2 H3 lt ⟨S2, oD2, fr2, ⟨es, rs', og2, pq, tq⟩, s3, s4, s5, s6, s7, s8, s9, rfl⟩ ⟨rfl, k0, v0, ekv, rfl⟩
    obtain ⟨q, eq, hk, at1⟩ := paired_get pr0 ekv
    have hk : k0 = Sum.inr q.1 := hk
    subst hk
    have qin := List.mem_of_getElem? eq
    have atf := at_far oD pr0 rne at1
    obtain ⟨b, x, y2, rfl, ab, ob, hx, d, fs, hy, ad, odd, ndn, prs⟩ := atf
    have hx : x = .str q.2.1 := hx
    have hy : y2 = .ref d := hy
    subst hx hy
    have abl := ap _ ab.1
    have adl := ap _ ad.1
    have ob3 := fr2 _ _ abl.1 abl.2 ab.2 ob
    have odd3 := fr2 _ _ adl.1 adl.2 ad.2 odd
    have rsq := rok q qin
    refine ⟨_, rfl, _, rfl, D, _, rfl, .inl ⟨es0, Sum.inr q.1, .inr ⟨od, oD2⟩, rfl, (valV_atN ndes0 ekv).symm⟩, b, _, rfl, SqT.of ob3, rfl, _, _, rfl, _, _, rfl, rfl, ?_⟩
    intro r0 nr0
    have ar0 := S2.apart (Same.refl _) nr0
    have kr := same_new (o := .dK []) nr0
    have or0 : upd H3 r0 (.dK []) r0 = some (.dK []) := upd_same
    have S4 := S2.same kr
    have low3 : ∀ b, H3 b = none → H b = none := fun b n => by
      cases e : H b with
      | none => rfl
      | some o =>
        by_cases bl : b = l
        · obtain ⟨⟨o', h⟩, _⟩ := S2.some
          rw [bl, h] at n; cases n
        · by_cases bs : b = ls
          · obtain ⟨_, o', h⟩ := S2.some
            rw [bs, h] at n; cases n
          · by_cases bD : b = D
            · rw [bD, oD2] at n; cases n
            · rw [fr2 b o bl bs bD e] at n; cases n
    have lr0 := low3 _ nr0
    have r0g : r0 ≠ g := fun z => by rw [z, og2] at nr0; cases nr0
    generalize upd H3 r0 (.dK []) = H4 at kr or0 S4
    have odd4 := kr _ _ odd3
    have lfs : fs.length = q.2.2.l.length := Paired.length prs
    have ndf : (fs.map (·.1)).Nodup := by rw [dc_keys prs]; exact nd_inr rsq.1.nd
    have l6 := rsq.2.1
    refine ⟨_, rfl, _, rfl, d, fs, rfl, .inl odd4, fun x1 nx1 => ?_⟩
    have k1 := same_new (o := .lst (fs.map fun kv => kV kv.1)) nx1
    have kfs : (fs.map fun kv => kV kv.1) = (q.2.2.l.map (·.1)).map V.str := keys_L prs
    refine ⟨l, ls, x1, _, _, rfl, S4.same k1, by omega, SqL.of upd_same, by rw [List.length_map]; omega, fun H5 qq ys pm nq oq S5 B5 => ?_⟩
    rw [kfs] at pm
    obtain ⟨ks, pks, rfl⟩ := perm_lift pm rfl
    obtain ⟨mid, pmid, rfl⟩ := mid_of rsq.1.nd pks
    have lmid : mid.length = q.2.2.l.length := pmid.length_eq
    have B45 : But l ls H4 H5 := (But.of k1).trans B5
    have or5 := B45 _ _ ar0.1 ar0.2 or0
    have aqq := (S4.same k1).apart (Same.refl _) nq
    have qr0 : qq ≠ r0 := fun z => by rw [z, or5] at oq; cases oq
    rw [List.length_map] at S5
    refine ⟨qq, rfl, ⟨_, SqL.of oq⟩, for_list (xs := (mid.map (·.1)).map V.str) (fun j σ H' => Strm H' l ls (N + 30 * i + 6 + 4 * j) ∧ (∀ b o, b ≠ l → b ≠ ls → b ≠ r0 → H5 b = some o → H' b = some o) ∧ (∃ (fs2 : List (Key × V)) (st2 : List (Str × StT)), H' r0 = some (.dK fs2) ∧ Paired (DcE (fun b => (Frs H l ls b ∧ b ≠ g) ∧ b ≠ r0) H') fs2 st2 ∧ Paired StP (mid.take j) st2) ∧
        ∃ s7 s8 s9, σ = [some (.ref l), some (.ref D), some (.ref g), some (.str q.1), some (.str q.2.1), some (.ref d), some (.ref r0), s7, s8, s9])
      ⟨S5.mono (by omega), fun _ _ _ _ _ e => e, ⟨[], [], or5, .nil, by rw [List.take_zero]; exact .nil⟩, _, _, _, rfl⟩ (fun j σ H' _ h => SqL.of (h.2.1 _ _ aqq.1 aqq.2 qr0 oq)) ?_ ?_⟩
    · rintro j x σ H6 ex ⟨S6, fr6, ⟨fs2, st2, or6, pf6, ts6⟩, s7, s8, s9, rfl⟩
      rw [List.getElem?_map, List.getElem?_map] at ex
      cases emid : mid[j]? with
      | none => rw [emid] at ex; cases ex
      | some st =>
        rw [emid] at ex
        obtain rfl : V.str st.1 = x := Option.some.inj ex
        have stin : st ∈ q.2.2.l := pmid.mem_iff.mp (List.mem_of_getElem? emid)
        have lj : j < mid.length := (List.getElem?_eq_some_iff.mp emid).1
        have elk := lk_mem rsq.1.nd stin
        obtain ⟨vv, evv, p, u1, u2, hv, ap1, op, hu1, m, ms, hu2, am1, om, ndm, prm⟩ := val_at prs elk
        have hu1 : u1 = .int st.2.1 := hu1
        have hu2 : u2 = .ref m := hu2
        have em := dk_txt prm
        subst hv hu1 hu2 em
        have apl := ap _ ap1.1
        have aml := ap _ am1.1
        have pr0' : p ≠ r0 := fun z => by rw [z, lr0] at op; cases op
        have mr0 : m ≠ r0 := fun z => by rw [z, lr0] at om; cases om
        have dr0 : d ≠ r0 := fun z => by rw [z, lr0] at odd; cases odd
        have op6 := fr6 _ _ apl.1 apl.2 pr0' (B45 _ _ apl.1 apl.2 (kr _ _ (fr2 _ _ apl.1 apl.2 ap1.2 op)))
        have om6 := fr6 _ _ aml.1 aml.2 mr0 (B45 _ _ aml.1 aml.2 (kr _ _ (fr2 _ _ aml.1 aml.2 am1.2 om)))
        have od6 := fr6 _ _ adl.1 adl.2 dr0 (B45 _ _ adl.1 adl.2 odd4)
        have ms3 : st.2.2.l.length ≤ 3 := rsq.2.2 _ stin
        have low6 : ∀ b, H6 b = none → (Frs H l ls b ∧ b ≠ g) ∧ b ≠ r0 := fun b n => by
          have a := S6.apart (Same.refl _) n
          have n0 : b ≠ r0 := fun z => by rw [z, or6] at n; cases n
          have n5 : H5 b = none := by
            cases e : H5 b with
            | none => rfl
            | some o => rw [fr6 b o a.1 a.2 n0 e] at n; cases n
          have n3 : H3 b = none := kr.free (B45.free a n5)
          exact ⟨⟨⟨low3 _ n3, a⟩, fun z => by rw [z, og2] at n3; cases n3⟩, n0⟩
        refine ⟨_, rfl, _, rfl, d, _, rfl, .inl ⟨fs, Sum.inr st.1, .inl od6, rfl, evv.symm⟩, p, _, rfl, SqT.of op6, rfl, _, _, rfl, _, _, rfl, rfl, ?_⟩
        refine ⟨_, rfl, _, rfl, _, rfl, m, _, rfl, om6, fun H7 p1 ts k1 n1 _ _ o1 q1 => ?_⟩
        have k1 : Same H6 H7 := k1
        have S7 := S6.same k1
        have lts : ts.length = st.2.2.l.length := by rw [Paired.length q1, dkT_len]
        refine ⟨l, ls, p1, _, _, rfl, S7, by omega, SqL.of o1, by rw [List.length_map]; omega, fun H8 q2 ys2 pm2 nq2 oq2 S8 B8 => ?_⟩
        rw [List.length_map] at S8
        obtain ⟨ts2, es2, rfl, pp2, pe2⟩ := mixed_pairs q1 pm2
        obtain ⟨l2, pl2, rfl⟩ := perm_lift pe2 (l := st.2.2.l) (f := fun e => ((Sum.inr e.1 : Key), V.str e.2)) rfl
        have B68 : But l ls H6 H8 := (But.of k1).trans B8
        have nd2 : (l2.map (·.1)).Nodup := (pl2.map (·.1)).nodup_iff.mpr (show (st.2.2.l.map (·.1)).Nodup from ndm)
        have mm : mergeK [] (dkT l2) = dkT l2 := by
          have z := merge_new (dkT l2) [] (by rw [List.nil_append, dkT_keys]; exact nd_inr nd2)
          rw [List.nil_append] at z
          exact z
        have pp8 : Paired (fun t (e : Key × V) => SqT K H8 t [kV e.1, e.2]) ts2 (dkT l2) := Paired.mapP pp2 fun t e h => by
          refine SqT.of (B8 _ _ (fun z => ?_) (fun z => ?_) h)
          · obtain ⟨cs', g', k', m', St⟩ := S7
            rw [z, St.o] at h; cases h
          · obtain ⟨cs', g', k', m', St⟩ := S7
            rw [z, St.c] at h; cases h
        refine ⟨q2, ts2, dkT l2, rfl, SqL.of oq2, pp8, fun dm ndm2 => ?_⟩
        rw [mm]
        have kd := same_new (o := .dK (dkT l2)) ndm2
        have low8 : ∀ b, H8 b = none → H6 b = none := fun b n => B68.free (S8.apart (Same.refl _) n) n
        have ldm := low6 _ (low8 _ ndm2)
        have odm : upd H8 dm (.dK (dkT l2)) dm = some (.dK (dkT l2)) := upd_same
        have S9 := S8.same kd
        have B69 := B68.trans (.of kd)
        have low9 : ∀ b, upd H8 dm (.dK (dkT l2)) b = none → H8 b = none := fun b n => kd.free n
        generalize upd H8 dm (.dK (dkT l2)) = H9 at kd odm S9 B69 low9
        refine ⟨(by show 2 ≤ sizeLine; decide), fun t nt => ?_⟩
        have kt := same_new (o := .tup [.int st.2.1, .ref dm]) nt
        have lt' := low6 _ (low8 _ (low9 _ nt))
        have or9 := B69 _ _ ar0.1 ar0.2 or6
        have lst2 : fs2.length = j := by
          have z1 := Paired.length pf6
          have z2 := Paired.length ts6
          rw [List.length_take] at z2
          omega
        have nout : (Sum.inr st.1 : Key) ∉ fs2.map (·.1) := fun hx => by
          have ke : fs2.map (·.1) = (st2.map (·.1)).map Sum.inr := dc_keys pf6
          have kk : st2.map (·.1) = (mid.take j).map (·.1) := stp_keys ts6
          rw [ke, kk] at hx
          obtain ⟨y, hy, e1⟩ := List.mem_map.mp hx
          obtain rfl := Sum.inr.inj e1
          have et : mid.take (j + 1) = mid.take j ++ [st] := by rw [List.take_succ, emid]; rfl
          have ndmid : (mid.map (·.1)).Nodup := (pmid.map (·.1)).nodup_iff.mpr rsq.1.nd
          have z2 : ((mid.take (j + 1)).map (·.1)).Nodup := ndmid.sublist ((List.take_sublist _ _).map _)
          rw [et, List.map_append, List.nodup_append] at z2
          exact z2.2.2 _ hy _ (by simp) rfl
        refine ⟨_, rfl, _, rfl, r0, _, rfl, DPut.k (k := Sum.inr st.1) (kt _ _ or9) (by rw [sizeLine_eq]; omega), ?_⟩
        have up : ∀ {o' : HO} (b : Addr) (o : HO), b ≠ r0 → upd H9 t (.tup [.int st.2.1, .ref dm]) b = some o → upd (upd H9 t (.tup [.int st.2.1, .ref dm])) r0 o' b = some o := fun b o nb e => by rw [upd_ne nb]; exact e
        refine ⟨(strm_upd (S9.same kt) ar0).mono (by omega), fun b o h1 h2 h3 e => up b o h3 (kt _ _ (B69 b o h1 h2 (fr6 b o h1 h2 h3 e))), ⟨fs2 ++ [(Sum.inr st.1, .ref t)], st2 ++ [(st.1, (st.2.1, Dc.mk l2))], by rw [upd_same, put_last nout], ?_, ?_⟩, _, _, _, rfl⟩
        · exact paired_join (Paired.mapP pf6 fun e q h => ⟨h.1, PyD.kp h.2 fun b o a e => ⟨a, up _ _ a.2 (kt _ _ (B69 b o a.1.1.2.1 a.1.1.2.2 e))⟩⟩) ⟨rfl, t, _, _, rfl, lt', up _ _ lt'.2 upd_same, rfl, dm, _, rfl, ldm, up _ _ ldm.2 (kt _ _ odm), nd2, txt_dk l2⟩
        · rw [List.take_succ, emid]
          exact paired_join ts6 ⟨rfl, rfl, pl2⟩
    · rintro σ H6 ⟨S6, fr6, ⟨fs2, st2, or6, pf6, ts6⟩, s7, s8, s9, rfl⟩
      rw [List.length_map, List.length_map] at S6 ts6
      rw [List.take_length] at ts6
      have fr36 : ∀ b o, b ≠ l → b ≠ ls → H3 b = some o → H6 b = some o := fun b o h1 h2 e => fr6 b o h1 h2 (ne_of_none e nr0) (B45 b o h1 h2 (kr _ _ e))
      have low6 : ∀ b, H6 b = none → (Frs H l ls b ∧ b ≠ g) ∧ b ≠ r0 := fun b n => by
        have a := S6.apart (Same.refl _) n
        have n3 : H3 b = none := by
          cases e : H3 b with
          | none => rfl
          | some o => rw [fr36 b o a.1 a.2 e] at n; cases n
        exact ⟨⟨⟨low3 _ n3, a⟩, fun z => by rw [z, og2] at n3; cases n3⟩, fun z => by rw [z, or6] at n; cases n⟩
      refine ⟨_, rfl, _, rfl, (by show 2 ≤ sizeLine; decide), fun t nt => ?_⟩
      have kt := same_new (o := .tup [.str q.2.1, .ref r0]) nt
      have lt' := low6 _ nt
      have og6 := fr36 _ _ ag.1 ag.2 og2
      have lrs : rs'.length = i := by
        have z := Paired.length tq
        rw [List.length_take] at z
        have := (List.getElem?_eq_some_iff.mp eq).1
        omega
      have li := (List.getElem?_eq_some_iff.mp eq).1
      have les : es.length = rs'.length := Paired.length pq
      have nout : (Sum.inr q.1 : Key) ∉ es.map (·.1) := fun hx => by
        have ke : es.map (·.1) = (rs'.map (·.1)).map Sum.inr := dc_keys pq
        rw [ke, turn_keys tq] at hx
        obtain ⟨y, hy, e1⟩ := List.mem_map.mp hx
        obtain rfl := Sum.inr.inj e1
        have et : rs.take (i + 1) = rs.take i ++ [q] := by rw [List.take_succ, eq]; rfl
        have z2 : ((rs.take (i + 1)).map (·.1)).Nodup := rnd.sublist ((List.take_sublist _ _).map _)
        rw [et, List.map_append, List.nodup_append] at z2
        exact z2.2.2 _ hy _ (by simp) rfl
      refine ⟨_, rfl, _, rfl, g, _, rfl, DPut.k (k := Sum.inr q.1) (kt _ _ og6) (by rw [sizeLine_eq]; omega), ?_⟩
      have up : ∀ {o' : HO} (b : Addr) (o : HO), b ≠ g → upd H6 t (.tup [.str q.2.1, .ref r0]) b = some o → upd (upd H6 t (.tup [.str q.2.1, .ref r0])) g o' b = some o := fun b o nb e => by rw [upd_ne nb]; exact e
      have st2nd : (st2.map (·.1)).Nodup := by
        have kk : st2.map (·.1) = mid.map (·.1) := stp_keys ts6
        rw [kk]
        exact (pmid.map (·.1)).nodup_iff.mpr rsq.1.nd
      refine ⟨(strm_upd (S6.same kt) ag).mono (by omega), up _ _ (Ne.symm gD') (kt _ _ (fr36 _ _ aDl.1 aDl.2 oD2)), fun b o h1 h2 h3 e => up b o (hp e) (kt _ _ (fr36 b o h1 h2 (fr2 b o h1 h2 h3 e))), ⟨es ++ [(Sum.inr q.1, .ref t)], rs' ++ [(q.1, (q.2.1, Dc.mk st2))], by rw [upd_same, put_last nout], ?_, ?_⟩, _, _, _, _, _, _, _, rfl⟩
      · exact paired_join (Paired.mapP pq fun e q h => ⟨h.1, PyD.kp h.2 fun b o a e => ⟨a, up _ _ a.2 (kt _ _ (fr36 b o a.1.2.1 a.1.2.2 e))⟩⟩) ⟨rfl, t, _, _, rfl, lt'.1, up _ _ lt'.1.2 upd_same, rfl, r0, fs2, rfl, ⟨⟨lr0, ar0⟩, r0g⟩, up _ _ r0g (kt _ _ or6), st2nd, Paired.mapP pf6 fun e q h => ⟨h.1, PyD.kp h.2 fun b o a e => ⟨a.1, up _ _ a.1.2 (kt _ _ e)⟩⟩⟩
      · rw [List.take_succ, eq]
        exact paired_join tq ⟨rfl, rfl, mid, pmid, ts6⟩
  · rintro σ H2 ⟨S2, oD2, fr2, ⟨es, rs', og2, pq, tq⟩, s3, s4, s5, s6, s7, s8, s9, rfl⟩
    rw [les0, List.take_length] at tq
    refine ⟨oD2, _, rfl, ?_⟩
    have gD2 : upd H2 D (.dK es0) g = some (.dK es) := by rw [upd_ne gD']; exact og2
    have kn : rs'.map (·.1) = rs.map (·.1) := turn_keys tq
    refine hq _ g rs' ag.1 ag.2 ⟨g, es, rfl, ⟨ng, ag⟩, gD2, by show (rs'.map (·.1)).Nodup; rw [kn]; exact rnd, Paired.mapP pq fun e q h => ⟨h.1, PyD.kp h.2 fun b o a e => ⟨a.1, by rw [upd_ne (fun z => by rw [z] at a; have z2 := a.1.1; rw [oD] at z2; cases z2)]; exact e⟩⟩⟩ tq ((strm_upd S2 aDl).mono (by rw [les0]; omega)) ?_
    intro b o h1 h2 e
    by_cases bD : b = D
    · rw [bD] at e ⊢
      rw [oD] at e
      rw [upd_same]
      exact e
    · rw [upd_ne bD]
      exact fr2 b o h1 h2 bD e
end
end L2.TB
/-! _law_tells -/
namespace L2.TB
open PySem PySem.Spec PyProof.Rows
theorem dcEqv_refl {α : Type} [PyD α] {l : List (Str × α)} (nd : (l.map (·.1)).Nodup) (h : ∀ e ∈ l, PyD.eqv e.2 e.2 = true) : dcEqv l l = true := by
  unfold dcEqv
  simp only [beq_self_eq_true, Bool.true_and, List.all_eq_true]
  intro e he
  rw [lk_mem nd he]
  show (true && PyD.eqv e.2 e.2) = true
  rw [h e he]
  rfl
theorem eqv_rd {r : RdT} (ok : RdS r) : PyD.eqv r.2 r.2 = true := by
  show dcEqv r.2.l r.2.l = true
  refine dcEqv_refl ok.nd fun s hs => ?_
  show (decide (s.2.1 = s.2.1) && dcEqv s.2.2.l s.2.2.l) = true
  rw [decide_eq_true rfl]
  exact dcEqv_refl (ok.mn s hs).1 fun e _ => decide_eq_true rfl
def spTells (C : Addr) : Sp := fun vs H Q _ => ∃ (l ls x pl D : Addr) (L : Str) (rs : RsT) (Af Ar : Addr → Prop) (N : Int), vs = [.ref l, .ref x, .ref pl] ∧ Strm H l ls N ∧ N ≤ 800000 ∧ H pl = some (.tup [.str L, .ref D]) ∧ MachA Af H C x L rs ∧ PyD.at_ Ar H (.ref D) (Dc.mk rs) ∧ (∀ b, Af b → b ≠ l ∧ b ≠ ls ∧ b ≠ D) ∧ (∀ b, Ar b → b ≠ l ∧ b ≠ ls) ∧ LetOk L ∧ LetIx L ∧ RsOk L rs ∧
  ∀ H', Strm H' l ls (N + 22) → But l ls H H' → Q (.bl true) H'
abbrev NTe : List Str := ["stream", "field", "plan", "letters", "readers", "name", "told", "state", "moves", "word", "due", "home", "sign"]
theorem scTells : FnScope NTe ["stream", "field", "plan"] (defScope sTells) := ⟨rfl, rfl, rfl, by decide +kernel, rfl, by decide +kernel, by decide +kernel⟩
/-- what the law asks a field, as it is called -/
structure FldT (P : Program) (w : World) (K : PySem.W.Frag) (mg : Str → Option Value) (base : Heap) (C : Addr) : Prop where
  cl : Cls K C
  qs : ∃ f fd, Meth K C "questions" f ∧ Binds K fd ["self"] [] ∧ FnOk P w K mg base CX0 1 f fd ["self"] (spMQs C)
  le : ∃ f fd, Meth K C "letters" f ∧ Binds K fd ["self"] [] ∧ FnOk P w K mg base CX0 1 f fd ["self"] (spMLet C)
  ho : ∃ f fd, Meth K C "home" f ∧ Binds K fd ["self"] [] ∧ FnOk P w K mg base CX0 1 f fd ["self"] spMHome
  re : ∃ f fd, Meth K C "reader" f ∧ Binds K fd ["self", "name"] [] ∧ FnOk P w K mg base CX0 3 f fd ["self", "name"] (spMReader C)
  an : ∃ f fd, Meth K C "answers" f ∧ Binds K fd ["self", "world"] [] ∧ FnOk P w K mg base CX0 3 f fd ["self", "world"] (spMAns C)
section
variable {P : Program} {w : World} {K : PySem.W.Frag} {mg : Str → Option Value} {base : Heap} {f C fS fO fW fT : Addr} {fd fdS fdO fdW fdT : FuncData}
theorem ok_tells (F : Fun K "_law_tells" "_law_tells" sTells f fd) (T : FldT P w K mg base C) (M : Sm mg) (FS : Fun K "_law_same" "_law_same" sSame fS fdS) (gS : mg "_law_same" = some (.ref fS)) (FO : Fun K "_law_in_order" "_law_in_order" sInOrder fO fdO) (gO : mg "_law_in_order" = some (.ref fO)) (FW : Fun K "_law_m_word" "_law_m_word" sWordL fW fdW) (gW : mg "_law_m_word" = some (.ref fW)) (GW : FnOk P w K mg base CX0 3 fW fdW ["stream", "letters", "most"] spWordL)
    (FT : Fun K "_law_m_told" "_law_m_told" sToldL fT fdT) (gT : mg "_law_m_told" = some (.ref fT)) (nS : mg "str" = none) (nDi : mg "dict" = none) : FnOk P w K mg base CX0 4 f fd ["stream", "field", "plan"] (spTells C) := by
  obtain ⟨fQ, fdQ, mQ, bQ, GQ⟩ := T.qs
  obtain ⟨fL, fdL, mL, bL, GL⟩ := T.le
  obtain ⟨fH, fdH, mH, bH, GH⟩ := T.ho
  obtain ⟨fR, fdR, mR, bR, GR⟩ := T.re
  obtain ⟨fA, fdA, mA, bA, GA⟩ := T.an
  have GS : FnOk P w K mg base CX0 3 fS fdS ["found", "due"] (spSameF 2) := ok_sameF FS gS M 2
  have bS := FS.binds (ps := ["found", "due"]) fun _ _ _ _ _ _ us hl => match us, hl with | [_, _], _ => rfl
  have GO : FnOk P w K mg base CX0 1 fO fdO ["states", "due"] spInOrd := ok_inOrd FO M.nL M.nA
  have bO := FO.binds (ps := ["states", "due"]) fun _ _ _ _ _ _ us hl => match us, hl with | [_, _], _ => rfl
  have bW := FW.binds (ps := ["stream", "letters", "most"]) fun _ _ _ _ _ _ us hl => match us, hl with | [_, _, _], _ => rfl
  have GT : FnOk P w K mg base CX0 1 fT fdT ["reader", "word"] spToldL := ok_toldL FT nS
  have bT := FT.binds (ps := ["reader", "word"]) fun _ _ _ _ _ _ us hl => match us, hl with | [_, _], _ => rfl
  refine F.ok scTells (fun vs H Q E h => by obtain ⟨l, ls, x, pl, D, L, rs, Af, Ar, N, e, _⟩ := h; rw [e]; rfl) fun cdv A outer s H vs Q E hr hsp => ?_
  obtain ⟨l, ls, x, pl, D, L, rs, Af, Ar, N, rfl, S, hN, opl, fx, at_, apf, apr, lok, lix, ok, hq⟩ := hsp
  have nd := scTells.nd
  have hu := hu_of (hr.mono (show 1 ≤ 3 by decide))
  have hu64 := hr.units
  refine ⟨_, pss_cons (ps_asg (pv 2) (pg_tup (n := 2) rfl (pgs_cons (pg_name (i := 3) nd rfl (Or.inr rfl)) (pgs_cons (pg_name (i := 4) nd rfl (Or.inr rfl)) pgs_nil))))
    (pss_cons (ps_if (pt_not (pt_val (pe_call GS hr rfl gS FS.kp bS .nil pass0 (pa_cons (pe_lst (pa_cons (pe_meth0 (pv 1) T.cl mL GL (hr.mono (by decide)) bL .nil pass0) (pa_cons (pe_meth0 (pv 1) T.cl mQ GQ (hr.mono (by decide)) bQ .nil pass0) pa_nil))) (pa_cons (pe_lst (pa_cons (pv 3) (pa_cons (pe_callTy (call_listD rfl) rfl M.nL boot_list' (pa_cons (pv 4) pa_nil)) pa_nil))) pa_nil))))) (pss_one (ps_ret pe_bl)) pss_nil)
    (pss_cons (ps_lock (ps_for PassesOwn.never rfl (pi_keys (pv 4)) (pg_name (i := 5) nd rfl (Or.inl rfl))
      (pss_cons (ps_set (i := 6) nd rfl (Or.inr rfl) (pe_meth (pv 1) T.cl mR GR hr bR .nil pass0 (pa_cons (pv 5) pa_nil)))
      (pss_cons (ps_if (PW.pt (pw_or (pt_not (pt_val (pe_callB (r := rIsi K) call_isi rfl M.nI boot_isi (pa_cons (pv 6) (pa_cons (pe_bltn (v := .ty "tuple") rfl M.nT boot_tuple' rfl) pa_nil))))) (pw_or (pt_cmpR op_ne (pe_ix (r := rIx K) ix_seq (pv 6) pe_int (fun _ _ => rfl)) (pe_ix (r := rIx K) ix_seq (pe_dget hu (pv 4) (pv 5) (fun _ _ => rfl)) pe_int (fun _ _ => rfl)) (nomark _))
          (pw_or1 (pt_cmpR (op_neC (α := StT) (Nat.lt_of_le_of_lt (Nat.add_le_add_left (by decide) _) hu64)) (pe_ix (r := rIx K) ix_seq (pv 6) pe_int (fun _ _ => rfl)) (pe_ix (r := rIx K) ix_seq (pe_dget hu (pv 4) (pv 5) (fun _ _ => rfl)) pe_int (fun _ _ => rfl)) (nomark _)))))) (pss_one (ps_ret pe_bl)) pss_nil)
      (pss_cons (ps_if (pt_not (pt_val (pe_call GO (hr.mono (by decide)) rfl gO FO.kp bO .nil pass0 (pa_cons (pe_ix (r := rIx K) ix_seq (pv 6) pe_int (fun _ _ => rfl)) (pa_cons (pe_ix (r := rIx K) ix_seq (pe_dget hu (pv 4) (pv 5) (fun _ _ => rfl)) pe_int (fun _ _ => rfl)) pa_nil))))) (pss_one (ps_ret pe_bl)) pss_nil)
      (pss_cons (ps_if (pt_not (pt_val (pe_callB (cr_all rfl) rfl M.nA boot_allN (pa_cons (pe_lock (pe_lc (own := [("state", 7)]) (g := gName 7) (tt := tYes) (te := tCB (rIsi K) (tCons (tDGet (tOp (rIx K) (tVar 6) (tC (.int 1))) (tVar 7)) (tCons (tC (.ty "tuple")) tNil))) rfl nd (pi_keys (pe_ix (r := rIx K) ix_seq (pv 6) pe_int (fun _ _ => rfl))) (blkOk_by (N := NTe) (sc := defScope sTells) (by decide +kernel)) (fun _ _ _ _ _ => pg_name (i := 7) nd rfl (Or.inl rfl)) (fun _ _ _ _ _ => pts_nil)
          (fun _ _ _ _ _ => pe_callB (r := rIsi K) call_isi rfl M.nI boot_isi (pa_cons (pe_dget hu (pe_ix (r := rIx K) ix_seq (pv 6) pe_int (fun _ _ => rfl)) (pv 7) (fun _ _ => rfl)) (pa_cons (pe_bltn (v := .ty "tuple") rfl M.nT boot_tuple' rfl) pa_nil))))) pa_nil)))) (pss_one (ps_ret pe_bl)) pss_nil)
      (pss_cons (ps_lock (ps_for PassesOwn.never rfl (pi_keys (pe_ix (r := rIx K) ix_seq (pv 6) pe_int (fun _ _ => rfl))) (pg_name (i := 7) nd rfl (Or.inl rfl))
        (pss_cons (ps_set (i := 8) nd rfl (Or.inl rfl) (pe_ix (r := rIx K) ix_seq (pe_dget hu (pe_ix (r := rIx K) ix_seq (pv 6) pe_int (fun _ _ => rfl)) (pv 7) (fun _ _ => rfl)) pe_int (fun _ _ => rfl)))
        (pss_one (ps_expr (pe_bm0 PySem.F.plainAttrs_dict PySem.F.slot_dict_clear PySem.F.type_dict_clear mtd_clear (pv 8)))))))
      (pss_one (ps_expr (pe_bm0 PySem.F.plainAttrs_dict PySem.F.slot_dict_clear PySem.F.type_dict_clear mtd_clear (pe_ix (r := rIx K) ix_seq (pv 6) pe_int (fun _ _ => rfl))))))))))))
    (pss_cons (ps_expr (pe_bm PySem.F.plainAttrs_list PySem.F.slot_list_append PySem.F.type_list_append mt_append (pe_meth0 (pv 1) T.cl mQ GQ (hr.mono (by decide)) bQ .nil pass0) (pa_cons pe_str pa_nil)))
    (pss_cons (ps_set (i := 9) nd rfl (Or.inr rfl) (pe_call GW hr rfl gW FW.kp bW .nil pass0 (pa_cons (pv 0) (pa_cons (pv 3) (pa_cons pe_int pa_nil)))))
    (pss_cons (ps_set (i := 10) nd rfl (Or.inl rfl) (pe_callTy (r := rDk K) (call_dk rfl) rfl nDi boot_dict' (pa_cons (pe_lock (pe_lc (own := [("name", 5)]) (g := gName 5) (tt := tYes) (te := tTup (tCons (tVar 5) (tCons (tCall spToldL [] E0 (tCons (tDGet (tVar 4) (tVar 5)) (tCons (tVar 9) tNil))) tNil))) rfl nd (pi_keys (pv 4)) (blkOk_by (N := NTe) (sc := defScope sTells) (by decide +kernel)) (fun _ _ _ _ _ => pg_name (i := 5) nd rfl (Or.inl rfl)) (fun _ _ _ _ _ => pts_nil)
        (fun _ _ _ _ _ => pe_tup (pa_cons (pv 5) (pa_cons (pe_call GT (hr.mono (by decide)) rfl gT FT.kp bT .nil pass0 (pa_cons (pe_dget hu (pv 4) (pv 5) (fun _ _ => rfl)) (pa_cons (pv 9) pa_nil))) pa_nil))))) pa_nil)))
    (pss_cons (ps_set (i := 6) nd rfl (Or.inr rfl) (pe_meth (pv 1) T.cl mA GA hr bA .nil pass0 (pa_cons (pv 9) pa_nil)))
    (pss_cons (ps_if (PW.pt (pw_or (pt_cmpR (op_neT (α := List Str) (by decide) hu64) (pe_callTy (call_listD rfl) rfl M.nL boot_list' (pa_cons (pv 6) pa_nil)) (pe_callTy (call_listD rfl) rfl M.nL boot_list' (pa_cons (pv 10) pa_nil)) (nomark _)) (pw_or1 (pt_cmpR (op_neC (α := Str) (Nat.lt_of_le_of_lt (Nat.add_le_add_left (by decide) _) hu64)) (pv 6) (pv 10) (nomark _))))) (pss_one (ps_ret pe_bl)) pss_nil)
    (pss_cons (ps_expr (pe_bm0 PySem.F.plainAttrs_dict PySem.F.slot_dict_clear PySem.F.type_dict_clear mtd_clear (pv 6)))
    (pss_cons (ps_set (i := 11) nd rfl (Or.inl rfl) (pe_meth0 (pv 1) T.cl mH GH (hr.mono (by decide)) bH .nil pass0))
    (pss_one (ps_ret (pe_and (pe_callB (r := rIsi K) call_isi rfl M.nI boot_isi (pa_cons (pv 11) (pa_cons (pe_bltn (v := .ty "str") rfl nS boot_str' rfl) pa_nil))) (pe_one (pe_callB (cr_all rfl) rfl M.nA boot_allN (pa_cons (pe_lc (own := [("sign", 12)]) (g := gName 12) (tt := tYes) rfl nd (pi_str (pv 11)) (blkOk_by (N := NTe) (sc := defScope sTells) (by decide +kernel)) (fun _ _ _ _ _ => pg_name (i := 12) nd rfl (Or.inl rfl)) (fun _ _ _ _ _ => pts_nil)
      (fun _ _ _ _ _ => pe_cmpR op_in_sign (pv 12) (pv 3) rfl)) pa_nil))))))))))))))), ?_⟩
  obtain ⟨dx, D2, hx, D2', es2, e2, aD2, oD2, nd2, pr2⟩ := id fx.ex
  obtain rfl := V.ref.inj e2
  obtain ⟨D', es0, e1, aD, oD, rnd, pr0⟩ := at_
  obtain rfl := V.ref.inj e1
  have aDl := apr _ aD
  have n1 := ok.n1
  have rne : rs ≠ [] := fun z => by have := ok.n0; rw [z] at this; exact absurd this (by decide)
  have les0 : es0.length = rs.length := Paired.length pr0
  have kes0 : es0.map (·.1) = (rs.map (·.1)).map Sum.inr := dc_keys pr0
  have ndes0 : (es0.map (·.1)).Nodup := by rw [kes0]; exact nd_inr rnd
  have xD : x ≠ D := fun z => by rw [z, oD] at hx; cases hx
  refine ⟨_, rfl, pl, _, rfl, SqT.of opl, rfl, _, _, rfl, _, _, rfl, rfl, ?_⟩
  refine ⟨_, rfl, x, dx, _, rfl, hx, rfl, x, L, rs, Af, rfl, fx, _, rfl, x, dx, _, rfl, hx, rfl, x, L, rs, Af, rfl, fx, fun H1 q1 nq1 oq1 k1 => ?_⟩
  refine ⟨by show 2 ≤ sizeLine; decide, fun a1 na1 => ?_⟩
  have ka1 := same_new (o := .lst [.str L, .ref q1]) na1
  have oa1 : upd H1 a1 (.lst [.str L, .ref q1]) a1 = some (.lst [.str L, .ref q1]) := upd_same
  have k2 := k1.trans ka1
  have oq2 := ka1 _ _ oq1
  generalize upd H1 a1 (.lst [.str L, .ref q1]) = H2 at ka1 oa1 k2 oq2
  refine ⟨_, rfl, _, rfl, D, es0, rfl, .inl (k2 _ _ oD), fun q2 nq2 => ?_⟩
  have kq2 := same_new (o := .lst (es0.map fun kv => kV kv.1)) nq2
  have kk0 : (es0.map fun kv => kV kv.1) = (rs.map (·.1)).map V.str := keys_L pr0
  refine ⟨by show 2 ≤ sizeLine; decide, fun a2 na2 => ?_⟩
  have ka2 := same_new (o := .lst [.str L, .ref q2]) na2
  refine ⟨.ref a1, .ref a2, rfl, alk_two (n := 1) (ka2 _ _ (kq2 _ _ oa1)) upd_same (.up (.one (.str L))) (alk_strs (xs := rs.map (·.1)) (ka2 _ _ (kq2 _ _ oq2)) (by rw [← kk0]; exact ka2 _ _ upd_same) (by rw [List.length_map]; exact n1)), fun H3 k3 => ⟨_, rfl, iteF ?_⟩⟩
  have k03 := (k2.trans (kq2.trans ka2)).trans k3
  -- the readers
  have oD3 := k03 _ _ oD
  refine ⟨D, _, oD3, trivial, fun od => ⟨_, rfl, D, od, rfl, .inl ⟨es0, upd_same, ?_⟩⟩⟩
  have oL : upd H3 D (.frz od (.dK es0)) D = some (.frz od (.dK es0)) := upd_same
  have upL : ∀ b o, b ≠ D → H b = some o → upd H3 D (.frz od (.dK es0)) b = some o := fun b o nb e => by rw [upd_ne nb]; exact k03 _ _ e
  have fxL : ∀ {H' : Hp}, Same (upd H3 D (.frz od (.dK es0))) H' → MachA Af H' C x L rs := fun s => fx.keep (fun o e => s _ _ (upL _ _ xD e)) fun b o a e => ⟨a, s _ _ (upL _ _ (apf _ a).2.2 e)⟩
  refine for_it walk_keys (fun i σ H' => Same (upd H3 D (.frz od (.dK es0))) H' ∧ ∃ s5 s6 s7 s8, σ = [some (.ref l), some (.ref x), some (.ref pl), some (.str L), some (.ref D), s5, s6, s7, s8, none, none, none, none]) ⟨Same.refl _, _, _, _, _, rfl⟩ (fun i σ H' _ h => h.1 _ _ oL) ?_ ?_
  · rintro i y σ H4 H5 lt ⟨k4, s5, s6, s7, s8, rfl⟩ ⟨rfl, k0, v0, ekv, rfl⟩
    obtain ⟨q, eq, hk, at1⟩ := paired_get pr0 ekv
    have hk : k0 = Sum.inr q.1 := hk
    subst hk
    have qin := List.mem_of_getElem? eq
    obtain ⟨b0, u0, u1, rfl, ab0, ob0, hu0, d0, fs0, hu1, ad0, od0, nd0, prs0⟩ := at_far oD pr0 rne at1
    have hu0 : u0 = .str q.2.1 := hu0
    have hu1 : u1 = .ref d0 := hu1
    subst hu0 hu1
    have rds := (ok.rd q qin).s lok
    refine ⟨_, rfl, x, dx, _, rfl, k4 _ _ (upL _ _ xD hx), rfl, _, rfl, x, L, rs, Af, q, rfl, fxL k4, qin, rds, fun H6 v at6 k6 => ?_⟩
    obtain ⟨b, u0, u1, rfl, nb, ob, hu0, d, fs, hu1, ndd, odd, ndf, prs⟩ := at6
    have hu0 : u0 = .str q.2.1 := hu0
    have hu1 : u1 = .ref d := hu1
    subst hu0 hu1
    have k46 := k4.trans k6
    have dgD : ∀ {H' : Hp}, Same (upd H3 D (.frz od (.dK es0))) H' → DGet H' D (.str q.1) (some (.ref b0)) := fun s => .inl ⟨es0, Sum.inr q.1, .inr ⟨od, s _ _ oL⟩, rfl, (valV_atN ndes0 ekv).symm⟩
    have ob0L : ∀ {H' : Hp}, Same (upd H3 D (.frz od (.dK es0))) H' → SqA K H' b0 [.str q.2.1, .ref d0] := fun s => .inr (s _ _ (upL _ _ ab0.2 ob0))
    have atDue : ∀ {H' : Hp}, Same (upd H3 D (.frz od (.dK es0))) H' → PyD.at_ (fun b => ∃ o, upd H3 D (.frz od (.dK es0)) b = some o) H' (.ref d0) q.2.2 := fun s => ⟨d0, fs0, rfl, ⟨_, upL _ _ ad0.2 od0⟩, s _ _ (upL _ _ ad0.2 od0), nd0, Paired.mapP prs0 fun e q h => ⟨h.1, PyD.kp h.2 fun b o a e => ⟨⟨_, upL _ _ a.2 e⟩, s _ _ (upL _ _ a.2 e)⟩⟩⟩
    have atTold : PyD.at_ (fun b => H5 b = none) H6 (.ref d) q.2.2 := ⟨d, fs, rfl, ndd, odd, ndf, prs⟩
    refine ⟨_, rfl, _, _, _, _, true, rfl, .ty _, .base (.tup ob), kit_ty (by decide +kernel), _, rfl, iteF ?_⟩
    refine ⟨_, rfl, rIx_sq (.inr ob) rfl ⟨_, rfl, _, rfl, D, _, rfl, dgD k46, rIx_sq (ob0L k46) rfl ⟨rfl, false, (by rw [decide_eq_true rfl]; rfl), iteF ?_⟩⟩⟩
    refine ⟨_, rfl, rIx_sq (.inr ob) rfl ⟨_, rfl, _, rfl, D, _, rfl, dgD k46, rIx_sq (ob0L k46) rfl ⟨q.2.2, q.2.2, _, _, atTold, atDue k46, false, (by rw [eqv_rd rds]; rfl), iteF ?_⟩⟩⟩
    refine ⟨_, rfl, rIx_sq (.inr ob) rfl ⟨_, rfl, _, rfl, D, _, rfl, dgD k46, rIx_sq (ob0L k46) rfl ⟨d, d0, q.2.2.l, _, _, rfl, atTold, atDue k46, fun c n z => ?_, fun z => ?_, rds.n6, fun s hs => (rds.mn s hs).2, fun H7 k7 => ⟨_, rfl, iteF ?_⟩⟩⟩⟩
    · rw [z, k4 _ _ (upL _ _ ad0.2 od0)] at n; cases n
    · have := rds.n0; rw [z] at this; exact absurd this (by decide)
    have k47 := k46.trans k7
    have ob7 := k7 _ _ ob
    have od7 := k7 _ _ odd
    have lfs : fs.length = q.2.2.l.length := Paired.length prs
    have rn6 := rds.n6
    have bd : b ≠ d := fun z => by rw [z, odd] at ob; cases ob
    have pr7 : Paired (DcE (fun b => H5 b = none) H7) fs q.2.2.l := Paired.mapP prs fun e q h => ⟨h.1, PyD.kp h.2 fun b o a e => ⟨a, k7 _ _ e⟩⟩
    have ndfs : (fs.map (·.1)).Nodup := by rw [dc_keys prs]; exact nd_inr rds.nd
    have nS : q.2.2.l ≠ [] := fun z => by have := rds.n0; rw [z] at this; exact absurd this (by decide)
    have got : ∀ (j : Nat) (k : Key) (v : V), fs[j]? = some (k, v) → ∃ (st : Str × StT) (p m : Addr), k = Sum.inr st.1 ∧ v = .ref p ∧ H5 p = none ∧ H5 m = none ∧ H7 p = some (.tup [.int st.2.1, .ref m]) ∧ H7 m = some (.dK (dkT st.2.2.l)) ∧ p ≠ d ∧ m ≠ d := fun j k v e => by
      obtain ⟨st, est, hk, p, u1, u2, hv, np, op, hu1, m, ms, hu2, nm, om, ndm, prm⟩ := paired_get pr7 e
      have hu1 : u1 = .int st.2.1 := hu1
      have hu2 : u2 = .ref m := hu2
      have em := dk_txt prm
      subst hu1 hu2 em
      refine ⟨st, p, m, hk, hv, np, nm, op, om, (fun z => by rw [z, od7] at op; cases op), fun z => ?_⟩
      rw [z, od7] at om
      have e2 := HO.dK.inj (Option.some.inj om)
      rw [e2] at e
      obtain ⟨x, _, _, ey⟩ := dkT_back e
      have hv : v = .ref p := hv
      rw [hv] at ey
      cases ey
    -- isinstance(.., tuple) of all
    refine ⟨d, _, od7, trivial, fun oo => ⟨_, rfl, rIx_sq (.inr (by rw [upd_ne bd]; exact ob7)) rfl ⟨d, oo, rfl, .inl ⟨fs, upd_same, lc_gen (bools fs.length) (by rw [bools_len]; omega) (fun j H' s lt => ⟨s _ _ upd_same, by rw [bools_len] at lt; exact lt⟩) (fun H' s => ⟨s _ _ upd_same, by rw [bools_len]; exact Nat.le_refl _⟩) ?_ ?_⟩⟩⟩⟩
    · rintro j y b1 H8 H9 Cn Nn ey s8' ⟨rfl, k, w', ek, rfl⟩ yes
      obtain ⟨rfl, lt⟩ := bools_at ey
      obtain ⟨st, p, m, rfl, rfl, _, _, op, om, pd, md⟩ := got _ _ _ ek
      refine ⟨rfl, ?_⟩
      refine ⟨_, rfl, rIx_sq (.inr (s8' _ _ (by rw [upd_ne bd]; exact ob7))) rfl ⟨_, rfl, d, _, rfl, .inl ⟨fs, Sum.inr st.1, .inr ⟨oo, s8' _ _ upd_same⟩, rfl, (valV_atN ndfs ek).symm⟩, _, _, _, _, true, rfl, .ty _, .base (.tup (s8' _ _ (by rw [upd_ne pd]; exact op))), kit_ty (by decide +kernel), yes _ (Same.refl _)⟩⟩
    intro H8 D8 nD8 oD8 s8'
    obtain ⟨b1, s78⟩ := lock_offN od7 s8'
    have Da : D8 ≠ d := fun z => by rw [z, upd_same] at nD8; cases nD8
    rw [bools_map] at oD8
    refine ⟨b1, D8, _, rfl, SqL.of (by rw [upd_ne Da]; exact oD8), ?_⟩
    rw [all_true]
    refine ⟨_, rfl, iteF ?_⟩
    have k48 := k47.trans s78
    have ob8 := s78 _ _ ob7
    have od8 := s78 _ _ od7
    have got8 : ∀ (j : Nat) (k : Key) (v : V), fs[j]? = some (k, v) → ∃ (st : Str × StT) (p m : Addr), k = Sum.inr st.1 ∧ v = .ref p ∧ H5 p = none ∧ H5 m = none ∧ upd H8 d (.dK fs) p = some (.tup [.int st.2.1, .ref m]) ∧ upd H8 d (.dK fs) m = some (.dK (dkT st.2.2.l)) ∧ p ≠ d ∧ m ≠ d := fun j k v e => by
      obtain ⟨st, p, m, h1, h2, h3, h4, h5, h6, h7, h8⟩ := got j k v e
      exact ⟨st, p, m, h1, h2, h3, h4, s78 _ _ h5, s78 _ _ h6, h7, h8⟩
    clear oD8 nD8 b1
    generalize upd H8 d (.dK fs) = H9 at k48 ob8 od8 got8 s78
    -- the clears
    have newL : ∀ {c : Addr}, H5 c = none → ∀ o, upd H3 D (.frz od (.dK es0)) c = some o → False := fun n o e => by rw [k4 _ _ e] at n; cases n
    refine ⟨d, _, od8, trivial, fun o3 => ⟨_, rfl, rIx_sq (.inr (by rw [upd_ne bd]; exact ob8)) rfl ⟨d, o3, rfl, .inl ⟨fs, upd_same, ?_⟩⟩⟩⟩
    refine for_it walk_keys (fun j σ H' => H' d = some (.frz o3 (.dK fs)) ∧ (∀ c o, c ≠ d → upd H3 D (.frz od (.dK es0)) c = some o → H' c = some o) ∧ (∀ c vs, H9 c = some (.tup vs) → H' c = some (.tup vs)) ∧ (∀ m l, m ≠ d → H9 m = some (.dK (dkT l)) → ∃ kvs, H' m = some (.dK kvs)) ∧
        ∃ s7 s8, σ = [some (.ref l), some (.ref x), some (.ref pl), some (.str L), some (.ref D), some (.str q.1), some (.ref b), s7, s8, none, none, none, none])
      ⟨upd_same, fun c o n e => by rw [upd_ne n]; exact k48 _ _ e, fun c vs e => by rw [upd_ne (fun z => by rw [z, od8] at e; cases e)]; exact e, fun m l n e => ⟨_, by rw [upd_ne n]; exact e⟩, _, _, rfl⟩ (fun j σ H' _ h => h.1) ?_ ?_
    · rintro j y σ Ha Hb lt2 ⟨oda, fra, tua, mka, t7, t8, rfl⟩ ⟨rfl, k1', v1, ekv1, rfl⟩
      obtain ⟨st, p, m, rfl, rfl, _, nm, op, om, pd, md⟩ := got8 _ _ _ ekv1
      obtain ⟨kvs, oma⟩ := mka m _ md om
      refine ⟨_, rfl, rIx_sq (.inr (tua _ _ ob8)) rfl ⟨_, rfl, d, _, rfl, .inl ⟨fs, Sum.inr st.1, .inr ⟨o3, oda⟩, rfl, (valV_atN ndfs ekv1).symm⟩, rIx_sq (.inr (tua _ _ op)) rfl ?_⟩⟩
      refine ⟨_, rfl, .inr (.inr (.inl ⟨rfl, .inl ⟨_, oma⟩⟩)), m, _, rfl, rfl, oma, ?_⟩
      refine ⟨by rw [upd_ne (Ne.symm md)]; exact oda, fun c o n e => by rw [upd_ne (fun z => newL nm o (by rw [← z]; exact e))]; exact fra c o n e, fun c vs e => by rw [upd_ne (fun z => by rw [z, om] at e; cases e)]; exact tua c vs e, fun m2 l2 n e => ?_, _, _, rfl⟩
      by_cases c : m2 = m
      · rw [c]; exact ⟨_, upd_same⟩
      · obtain ⟨kvs2, h⟩ := mka m2 l2 n e
        exact ⟨kvs2, by rw [upd_ne c]; exact h⟩
    · rintro σ Ha ⟨oda, fra, tua, mka, t7, t8, rfl⟩
      refine ⟨oda, ?_⟩
      refine ⟨_, rfl, rIx_sq (v := V.ref d) (.inr (by rw [upd_ne bd]; exact tua _ _ ob8)) rfl ⟨.inr (.inr (.inl ⟨rfl, .inl ⟨_, upd_same⟩⟩)), d, _, rfl, rfl, upd_same, ?_⟩⟩
      refine ⟨fun c o e => ?_, _, _, _, _, rfl⟩
      have cd : c ≠ d := fun z => newL ndd o (by rw [← z]; exact e)
      rw [upd_ne cd, upd_ne cd]
      exact fra c o cd e
  · rintro σ H4 ⟨k4, s5, s6, s7, s8, rfl⟩
    obtain ⟨e4, k34⟩ := lock_offN oD3 k4
    refine ⟨e4, ?_⟩
    have k05 := k03.trans k34
    generalize upd H4 D (.dK es0) = H5 at k05
    clear k4 e4 k34
    have fx5 := fx.same k05
    refine ⟨_, rfl, x, dx, _, rfl, k05 _ _ hx, rfl, x, L, rs, Af, rfl, fx5, fun H6 qm nqm oqm k6 => ?_⟩
    refine ⟨.inl ⟨rfl, _, SqL.of oqm⟩, qm, _, _, rfl, rfl, oqm, by rw [sizeLine_eq, List.length_map, List.length_map]; omega, ?_⟩
    have k06 : Same H (upd H6 qm (.lst ((rs.map (·.1)).map V.str ++ [.str (Str.ofString "more")]))) := fun c o e => by
      rw [upd_ne (ne_of_none (k05 _ _ e) nqm)]
      exact k6 _ _ (k05 _ _ e)
    have S6 := S.same k06
    generalize upd H6 qm (.lst ((rs.map (·.1)).map V.str ++ [.str (Str.ofString "more")])) = H7 at k06 S6
    refine ⟨_, rfl, _, rfl, l, ls, L, 9, N, rfl, S6, by omega, lok.l0, lok.l3, by decide, by decide, fun H8 wd wsub wlen S8 B8 => ?_⟩
    have B08 : But l ls H H8 := (But.of k06).trans B8
    have oD8 := B08 _ _ aDl.1 aDl.2 oD
    -- what is due
    let ff : Str × RdT → Option (Key × V) := fun q => some (Sum.inr q.1, .str (toldM q.2 wd))
    have ffm : ∀ r : RsT, r.filterMap ff = dkT (r.map fun q => (q.1, toldM q.2 wd)) := fun r => by
      unfold dkT
      rw [List.map_map]
      induction r with
      | nil => rfl
      | cons a r ih => rw [List.filterMap_cons_some (show ff a = some (Sum.inr a.1, .str (toldM a.2 wd)) from rfl), List.map_cons, ih]; rfl
    refine ⟨D, _, oD8, trivial, fun oo => ⟨_, rfl, D, oo, rfl, .inl ⟨es0, upd_same, ?_⟩⟩⟩
    have oL8 : upd H8 D (.frz oo (.dK es0)) D = some (.frz oo (.dK es0)) := upd_same
    refine opt_lc rs ff n1 (fun i H' s lt => ⟨s _ _ oL8, by rw [les0]; exact lt⟩) (fun H' s => ⟨s _ _ oL8, by rw [les0]; exact Nat.le_refl _⟩) ?_ ?_
    · rintro i y q H9 Ha Cn Nn eq s9 ⟨rfl, k0, v0, ekv, rfl⟩ yes no
      obtain ⟨q', eq', hk, at1⟩ := paired_get pr0 ekv
      have hk : k0 = Sum.inr q'.1 := hk
      rw [eq] at eq'
      obtain rfl := Option.some.inj eq'
      subst hk
      have atf := at_far oD pr0 rne at1
      have qin := List.mem_of_getElem? eq
      refine ⟨rfl, ?_⟩
      refine ⟨_, rfl, _, rfl, _, rfl, D, _, rfl, .inl ⟨es0, Sum.inr q.1, .inr ⟨oo, s9 _ _ oL8⟩, rfl, (valV_atN ndes0 ekv).symm⟩, _, rfl, v0, L, wd, q.2, _, rfl, PyD.kp atf (fun c o a e => ⟨a, s9 _ _ (by rw [upd_ne a.2]; exact B08 _ _ (apr _ a.1).1 (apr _ a.1).2 e)⟩), ok.rd q qin, wsub, by omega, (by show 2 ≤ sizeLine; decide), fun t nt => ?_⟩
      exact yes _ _ rfl t _ upd_same (same_new nt)
    intro H9 LT ps nLT oLT pp s9
    obtain ⟨b1, s89⟩ := lock_offN oD8 s9
    have LD : LT ≠ D := fun z => by rw [z, oL8] at nLT; cases nLT
    refine ⟨b1, ?_⟩
    rw [ffm] at pp
    have oLT9 : upd H9 D (.dK es0) LT = some (.lst (ps.map V.ref)) := by rw [upd_ne LD]; exact oLT
    have pp9 : Paired (fun t (e : Key × V) => SqT K (upd H9 D (.dK es0)) t [kV e.1, e.2]) ps (dkT (rs.map fun q => (q.1, toldM q.2 wd))) := Paired.mapP pp fun t e h => SqT.of (by rw [upd_ne (fun z => by rw [z, b1] at h; cases h)]; exact h)
    have nda : ((rs.map fun q => (q.1, toldM q.2 wd)).map (·.1)).Nodup := by rw [List.map_map]; exact ok.nd
    have mm : mergeK [] (dkT (rs.map fun q => (q.1, toldM q.2 wd))) = dkT (rs.map fun q => (q.1, toldM q.2 wd)) := by
      have z := merge_new (dkT (rs.map fun q => (q.1, toldM q.2 wd))) [] (by rw [List.nil_append, dkT_keys]; exact nd_inr nda)
      rw [List.nil_append] at z
      exact z
    refine ⟨LT, ps, _, rfl, SqL.of oLT9, pp9, fun dd ndd => ?_⟩
    rw [mm]
    have kdd := same_new (o := .dK (dkT (rs.map fun q => (q.1, toldM q.2 wd)))) ndd
    have odd : upd (upd H9 D (.dK es0)) dd (.dK (dkT (rs.map fun q => (q.1, toldM q.2 wd)))) dd = some (.dK (dkT (rs.map fun q => (q.1, toldM q.2 wd)))) := upd_same
    have k8a := s89.trans kdd
    generalize upd (upd H9 D (.dK es0)) dd (.dK (dkT (rs.map fun q => (q.1, toldM q.2 wd)))) = Ha at kdd odd k8a
    have B0a : But l ls H Ha := B08.trans (.of k8a)
    have xl := fx.keep (fun o e => e) fun c o a e => ⟨a, e⟩
    have xne : x ≠ l ∧ x ≠ ls := by
      obtain ⟨cs', g', k', m', St⟩ := S
      exact ⟨(fun z => by rw [z, St.o] at hx; cases hx), (fun z => by rw [z, St.c] at hx; cases hx)⟩
    have fxa : MachA Af Ha C x L rs := fx.keep (fun o e => B0a _ _ xne.1 xne.2 e) fun c o a e => ⟨a, B0a _ _ (apf _ a).1 (apf _ a).2.1 e⟩
    refine ⟨_, rfl, x, dx, _, rfl, B0a _ _ xne.1 xne.2 hx, rfl, _, rfl, x, L, wd, rs, Af, rfl, fxa, lok, lix, ok, wsub, by omega, fun Hb an nan oan kab => ?_⟩
    have oddb := kab _ _ odd
    have kkA : ((dkT (rs.map fun q => (q.1, toldM q.2 wd))).map fun kv => kV kv.1) = ((rs.map fun q => (q.1, toldM q.2 wd)).map (·.1)).map V.str := keys_L (A := fun _ => True) (H := H) (txt_dk _)
    refine ⟨_, rfl, an, _, rfl, .inl oan, fun z1 nz1 => ?_⟩
    have kz1 := same_new (o := .lst ((dkT (rs.map fun q => (q.1, toldM q.2 wd))).map fun kv => kV kv.1)) nz1
    refine ⟨_, rfl, dd, _, rfl, .inl (kz1 _ _ oddb), fun z2 nz2 => ?_⟩
    have kz2 := same_new (o := .lst ((dkT (rs.map fun q => (q.1, toldM q.2 wd))).map fun kv => kV kv.1)) nz2
    refine ⟨(rs.map fun q => (q.1, toldM q.2 wd)).map (·.1), (rs.map fun q => (q.1, toldM q.2 wd)).map (·.1), dp_strL (by rw [← kkA]; exact kz2 _ _ upd_same), dp_strL (by rw [← kkA]; exact upd_same), false, by rw [decide_eq_true rfl]; rfl, iteF ?_⟩
    have kz := kz1.trans kz2
    have oanz := kz _ _ oan
    refine ⟨_, rfl, _, rfl, Dc.mk (rs.map fun q => (q.1, toldM q.2 wd)), Dc.mk (rs.map fun q => (q.1, toldM q.2 wd)), fun _ => True, fun _ => True, ⟨an, _, rfl, trivial, oanz, nda, txt_dk _⟩, ⟨dd, _, rfl, trivial, kz _ _ oddb, nda, txt_dk _⟩, false, ?_, iteF ?_⟩
    · rw [show PyD.eqv (Dc.mk (rs.map fun q => (q.1, toldM q.2 wd))) (Dc.mk (rs.map fun q => (q.1, toldM q.2 wd))) = true from dcEqv_refl nda fun e _ => decide_eq_true rfl]
      rfl
    have kaz := kab.trans kz
    refine ⟨_, rfl, .inr (.inr (.inl ⟨rfl, .inl ⟨_, oanz⟩⟩)), an, _, rfl, rfl, oanz, ?_⟩
    have nana : Ha an = none := nan
    generalize upd (upd Hb z1 (.lst ((dkT (rs.map fun q => (q.1, toldM q.2 wd))).map fun kv => kV kv.1))) z2 (.lst ((dkT (rs.map fun q => (q.1, toldM q.2 wd))).map fun kv => kV kv.1)) = Hc at kaz
    have kad : Same Ha (upd Hc an (.dK [])) := fun c o e => by rw [upd_ne (ne_of_none e nana)]; exact kaz _ _ e
    have k8d := k8a.trans kad
    generalize upd Hc an (.dK []) = Hd at kad k8d
    have S9 := S8.same k8d
    refine ⟨_, rfl, x, dx, _, rfl, kad _ _ (B0a _ _ xne.1 xne.2 hx), rfl, x, rfl, ?_⟩
    refine ⟨_, rfl, _, _, _, _, true, rfl, .ty _, .base (.str (Str.ofString "")), kit_ty (by decide +kernel), true, rfl, iteT ?_⟩
    refine ⟨_, rfl, Str.ofString "", rfl, lc_gen (bools 0) (by rw [bools_len]; decide) (fun i H' _ lt => by rw [bools_len] at lt; exact absurd lt (Nat.not_lt_zero _)) (fun H' _ => by rw [bools_len]; exact Nat.le_refl _) ?_ ?_⟩
    · rintro i v y H2 H3 Cn Nn ey s2 _ yes
      obtain ⟨_, lt⟩ := bools_at ey
      exact absurd lt (Nat.not_lt_zero _)
    · intro He D3 nD3 oD3' s2
      rw [bools_map] at oD3'
      refine ⟨D3, _, rfl, SqL.of oD3', ?_⟩
      rw [all_true]
      exact hq He (S9.same s2) ((B08.trans (.of k8d)).trans (.of s2))
end
end L2.TB
/-! alike fields, unlike fields -/
namespace L2.TB
open PySem PySem.Spec PyProof.Rows
theorem dcEqv_of {α : Type} [PyD α] {l l' : List (Str × α)} (nd : (l.map (·.1)).Nodup) (len : l.length = l'.length) (h : ∀ e ∈ l, ∃ b, lk l' e.1 = some b ∧ PyD.eqv e.2 b = true) : dcEqv l l' = true := by
  unfold dcEqv
  rw [len]
  simp only [beq_self_eq_true, Bool.true_and, List.all_eq_true]
  intro e he
  obtain ⟨b, e1, e2⟩ := h e he
  rw [lk_mem nd he, e1]
  show (true && PyD.eqv e.2 b) = true
  rw [e2]
  rfl
theorem dcEqv_perm {l l' : List (Str × Str)} (nd : (l.map (·.1)).Nodup) (p : l'.Perm l) : dcEqv l l' = true :=
  dcEqv_of nd p.length_eq.symm fun e he => ⟨e.2, lk_mem ((p.map (·.1)).nodup_iff.mpr nd) (p.mem_iff.mpr he), decide_eq_true rfl⟩
theorem eqv_turn {r r' : RdT} (ok : RdS r) (t : TurnR r r') : PyD.eqv r r' = true := by
  obtain ⟨e1, mid, pm, st⟩ := t
  have ks := stp_keys st
  have ndm : (mid.map (·.1)).Nodup := (pm.map (·.1)).nodup_iff.mpr ok.nd
  show (decide (r.1 = r'.1) && dcEqv r.2.l r'.2.l) = true
  rw [decide_eq_true e1.symm, Bool.true_and]
  refine dcEqv_of ok.nd (by rw [← pm.length_eq]; exact Paired.length st) fun e he => ?_
  obtain ⟨j, hj⟩ := List.getElem?_of_mem (pm.mem_iff.mpr he)
  obtain ⟨s', es', h1, h2, h3⟩ := paired_get st hj
  refine ⟨s'.2, by rw [← h1]; exact lk_mem (by rw [ks]; exact ndm) (List.mem_of_getElem? es'), ?_⟩
  show (decide (e.2.1 = s'.2.1) && dcEqv e.2.2.l s'.2.2.l) = true
  rw [decide_eq_true h2.symm, Bool.true_and]
  exact dcEqv_perm (ok.mn e he).1 h3
theorem eqRs_turn {rs rs' : RsT} (ok : ∀ q ∈ rs, RdS q.2) (t : TurnRs rs rs') : eqRs rs rs' = true := by
  unfold TurnRs at t
  induction t with
  | nil => rfl
  | @cons q q' rs rs' h _ ih =>
    have z := ih fun q hq => ok q (List.mem_cons_of_mem _ hq)
    unfold eqRs at z ⊢
    rw [Bool.and_eq_true, beq_iff_eq] at z
    rw [List.length_cons, List.length_cons, List.zip_cons_cons, List.all_cons, z.1, z.2]
    show ((_ == _) && ((decide (q.1 = q'.1) && PyD.eqv q.2 q'.2) && true)) = true
    rw [decide_eq_true h.1.symm, eqv_turn (ok q List.mem_cons_self) h.2]
    simp
theorem turn_refl (rs : RsT) : TurnRs rs rs := by
  unfold TurnRs
  induction rs with
  | nil => exact .nil
  | cons q rs ih =>
    refine .cons ⟨rfl, rfl, q.2.2.l, .refl _, ?_⟩ ih
    generalize q.2.2.l = l
    induction l with
    | nil => exact .nil
    | cons s l ih => exact .cons ⟨rfl, rfl, .refl _⟩ ih
theorem eqRs_refl {rs : RsT} (ok : ∀ q ∈ rs, RdS q.2) : eqRs rs rs = true := eqRs_turn ok (turn_refl rs)
theorem RsOk.s {L : Str} {rs : RsT} (lok : LetOk L) (h : RsOk L rs) : ∀ q ∈ rs, RdS q.2 := fun q hq => (h.rd q hq).s lok
/-- a turned field is as good -/
theorem RdOk.turn {L : Str} {r r' : RdT} (h : RdOk L r) (t : TurnR r r') : RdOk L r' := by
  obtain ⟨e1, mid, pm, st⟩ := t
  have ks := stp_keys st
  have kp : (r'.2.l.map (·.1)).Perm (r.2.l.map (·.1)) := by rw [ks]; exact pm.map _
  have len : r'.2.l.length = r.2.l.length := by rw [← pm.length_eq]; exact (Paired.length st).symm
  have back : ∀ s' ∈ r'.2.l, ∃ s ∈ r.2.l, s'.1 = s.1 ∧ s'.2.1 = s.2.1 ∧ s'.2.2.l.Perm s.2.2.l := fun s' hs => by
    obtain ⟨j, hj⟩ := List.getElem?_of_mem hs
    have lj : j < mid.length := by rw [Paired.length st]; exact (List.getElem?_eq_some_iff.mp hj).1
    obtain ⟨s2, es2, f⟩ := paired_get st (List.getElem?_eq_getElem lj)
    rw [hj] at es2
    obtain rfl := Option.some.inj es2
    exact ⟨_, pm.mem_iff.mp (List.getElem_mem lj), f⟩
  refine ⟨by rw [len]; exact h.n0, by rw [len]; exact h.n6, kp.nodup_iff.mpr h.nd, fun s' hs => ?_, by rw [e1]; exact kp.mem_iff.mpr h.bg, fun s' hs => ?_, fun s' hs => ?_, fun s' hs m hm => ?_⟩
  · obtain ⟨s, hs2, f1, _⟩ := back s' hs
    rw [f1]; exact h.nm s hs2
  · obtain ⟨s, hs2, _, f2, _⟩ := back s' hs
    rw [f2]; exact h.d0 s hs2
  · obtain ⟨s, hs2, _, _, f3⟩ := back s' hs
    exact (f3.map _).trans (h.mp s hs2)
  · obtain ⟨s, hs2, _, _, f3⟩ := back s' hs
    exact kp.mem_iff.mpr (h.mv s hs2 m (f3.mem_iff.mp hm))
theorem RsOk.turn {L : Str} {rs rs' : RsT} (h : RsOk L rs) (t : TurnRs rs rs') : RsOk L rs' := by
  have kn := turn_keys t
  have len : rs'.length = rs.length := (Paired.length t).symm
  have back : ∀ q' ∈ rs', ∃ q ∈ rs, q'.1 = q.1 ∧ TurnR q.2 q'.2 := fun q' hq => by
    obtain ⟨j, hj⟩ := List.getElem?_of_mem hq
    have lj : j < rs.length := by rw [← len]; exact (List.getElem?_eq_some_iff.mp hj).1
    obtain ⟨q2, eq2, f⟩ := paired_get t (List.getElem?_eq_getElem lj)
    rw [hj] at eq2
    obtain rfl := Option.some.inj eq2
    exact ⟨_, List.getElem_mem lj, f⟩
  refine ⟨by rw [len]; exact h.n0, by rw [len]; exact h.n1, by rw [kn]; exact h.nd, fun q' hq => ?_, fun q' hq => ?_⟩
  · obtain ⟨q, hq2, f1, _⟩ := back q' hq
    rw [f1]; exact h.nm q hq2
  · obtain ⟨q, hq2, _, f2⟩ := back q' hq
    exact (h.rd q hq2).turn f2
/-! unlike -/
theorem eqRs_zip {r1 r2 : RsT} (h : eqRs r1 r2 = true) : r1.length = r2.length ∧ ∀ (i : Nat) (a b : Str × RdT), r1[i]? = some a → r2[i]? = some b → a.1 = b.1 ∧ PyD.eqv a.2 b.2 = true := by
  unfold eqRs at h
  rw [Bool.and_eq_true, beq_iff_eq] at h
  refine ⟨h.1, fun i a b e1 e2 => ?_⟩
  have z := List.all_eq_true.mp h.2 (a, b) (List.mem_of_getElem? ((List.getElem?_zip_eq_some (z := (a, b))).mpr ⟨e1, e2⟩))
  have z : (decide (a.1 = b.1) && PyD.eqv a.2 b.2) = true := z
  rw [Bool.and_eq_true, decide_eq_true_eq] at z
  exact z
/-- another reader of one name -/
theorem eqRs_put {rs : RsT} (nd : (rs.map (·.1)).Nodup) {q : Str × RdT} (qin : q ∈ rs) {r : RdT} (ne : PyD.eqv q.2 r = false) : eqRs rs (putR rs q.1 r) = false := by
  cases h : eqRs rs (putR rs q.1 r) with
  | false => rfl
  | true =>
    obtain ⟨j, hj⟩ := List.getElem?_of_mem qin
    have e2 : (putR rs q.1 r)[j]? = some (q.1, r) := by
      unfold putR
      rw [if_pos (List.mem_map_of_mem qin), List.getElem?_map, hj]
      show some (if q.1 = q.1 then (q.1, r) else q) = _
      rw [if_pos rfl]
    have z := ((eqRs_zip h).2 j _ _ hj e2).2
    rw [ne] at z
    cases z
theorem eqRs_len {r1 r2 : RsT} (ne : r1.length ≠ r2.length) : eqRs r1 r2 = false := by
  cases h : eqRs r1 r2 with
  | false => rfl
  | true => exact absurd (eqRs_zip h).1 ne
theorem eqRs_rev {rs : RsT} (nd : (rs.map (·.1)).Nodup) (h2 : 2 ≤ rs.length) : eqRs rs rs.reverse = false := by
  cases h : eqRs rs rs.reverse with
  | false => rfl
  | true =>
    have k : rs.map (·.1) = (rs.map (·.1)).reverse := by
      rw [← List.map_reverse]
      refine List.ext_getElem? fun i => ?_
      rw [List.getElem?_map, List.getElem?_map]
      obtain ⟨l, f⟩ := eqRs_zip h
      by_cases hi : i < rs.length
      · have e1 : rs[i]? = some rs[i] := List.getElem?_eq_getElem hi
        have e2 : rs.reverse[i]? = some (rs.reverse[i]'(by rw [← l]; exact hi)) := List.getElem?_eq_getElem _
        rw [e1, e2]
        exact congrArg some (f i _ _ e1 e2).1
      · rw [List.getElem?_eq_none (by omega), List.getElem?_eq_none (by rw [← l]; omega)]
    exact absurd k (rev_ne nd (by rw [List.length_map]; exact h2))
theorem dcEqv_get {α : Type} [PyD α] {l l' : List (Str × α)} (h : dcEqv l l' = true) {e : Str × α} (he : e ∈ l) (nd : (l.map (·.1)).Nodup) {b : α} (eb : lk l' e.1 = some b) : PyD.eqv e.2 b = true := by
  unfold dcEqv at h
  rw [Bool.and_eq_true] at h
  have z := List.all_eq_true.mp h.2 e he
  rw [lk_mem nd he, eb] at z
  have z : (true && PyD.eqv e.2 b) = true := z
  rw [Bool.true_and] at z
  exact z
end L2.TB
/-! text[::-1] -/
namespace L2.TB
open PySem PySem.Spec PyProof.Rows
/-- the text backwards, as a slice picks it -/
def backX (z : Str) : Str := ⟨((Builtin.Str.strSliceIndices none none (-1) z.length).filterMap (z.cps[·]?)).toArray⟩
def tRevX (te : TE) : TE := fun σ H Q => te σ H fun x H1 => ∃ z, x = .str z ∧ (backX z).length ≤ sizeLine ∧ Q (.str (backX z)) H1
theorem pe_revX {X : Cx} {e : Expr} {te : TE} {k : Nat} {p1 p2 p3 pos : Pos} (he : PE X e te) : PE X (.Subscript e (.Slice none none (some (.UnaryOp .USub (.Constant (.int 1) k p1) p2)) p3) pos) (tRevX te) := by
  refine ⟨fun pins st σ H Q inv reading => ?_⟩
  refine Subscript_ (thn (he.run pins st σ H _ inv reading) fun v s1 ⟨x, H1, I1, r1, z, ex, few, q⟩ => ?_)
  subst ex
  obtain ⟨tz, rfl⟩ := r1
  have step : PO X (some (.UnaryOp .USub (.Constant (.int 1) k p1) p2)) (tPart (tUn (rU fun i => .int (-i)) (tC (.int 1)))) := po_some (pe_un un_neg pe_int)
  refine wpAny_Slice (thn (po_none.run pins s1 σ H1 (fun o G => o = none ∧ G = H1) I1 ⟨rfl, rfl⟩) fun va s2 ⟨la, H2, I2, pa, ea, e2⟩ => ?_)
  subst ea e2
  refine thn (po_none.run pins s2 σ H2 (fun o G => o = none ∧ G = H2) I2 ⟨rfl, rfl⟩) fun vb s3 ⟨lb, H3, I3, pb, eb, e3⟩ => ?_
  subst eb e3
  refine thn (step.run pins s3 σ H3 (fun o G => o = some (-1) ∧ G = H3) I3 ⟨1, rfl, -1, rfl, rfl, rfl⟩) fun vc s4 ⟨lc, H4, I4, pc, ec, e4⟩ => ?_
  subst ec e4
  have I5 : Inv X pins σ H4 { s4 with heap := s4.heap.push { cls := .type "slice", data := .fields #[va, vb, vc] } } := I4.kept (t' := s4.toks) fun b ob y => Heap.get?_push_of_some _ y
  obtain ⟨a1, rfl, n1⟩ := IsPart.raw pa
  obtain ⟨b1, rfl, n2⟩ := IsPart.raw pb
  obtain ⟨c1, rfl, n3⟩ := IsPart.raw pc
  show wpAny (model X.prog X.w) X.A (subscriptTail e (.Slice none none (some (.UnaryOp .USub (.Constant (.int 1) k p1) p2)) p3) (.str z tz) (.ref s4.heap.objs.size)) (EP X pins σ Q) X.xe _
  refine tail_any (ops := [.str z tz, .ref s4.heap.objs.size]) (typeIs_str _ _ _) (PySem.F.slot_str_getitem.lookup) ?_ (by with_unfolding_all rfl)
  refine wpAny_getItem_str_slice (l := a1) (u := b1) (st := c1) (Heap.IsSliceOf.new _ _ _ _) (by rw [n3]; rfl) ?_
  have w1 : PySem.slicePicked z a1 b1 c1 = Builtin.Str.strSliceIndices none none (-1) z.length := by
    unfold PySem.slicePicked
    rw [n1, n2, n3]
    rfl
  unfold PySem.sliceMade
  rw [n3, w1]
  show Made.post (Made.str (backX z)) _ _
  exact ⟨few, .str (backX z), H4, I5.tok _, ⟨_, rfl⟩, q⟩
end L2.TB
/-! _law_others: its text -/
namespace L2.TB
open PySem PySem.Spec PyProof.Rows
/-- another field: letters and readers -/
structure Oth (L : Str) (rs : RsT) (A : Addr → Prop) (H : Hp) (v : V) : Prop where
  ex : ∃ (t D : Addr) (Lo : Str) (ro : RsT), v = .ref t ∧ A t ∧ H t = some (.tup [.str Lo, .ref D]) ∧ PyD.at_ A H (.ref D) (Dc.mk ro) ∧ LetOk Lo ∧ RsOk Lo ro ∧ (L = Lo → eqRs rs ro = false)
theorem Oth.keep {L : Str} {rs : RsT} {A A' : Addr → Prop} {H H' : Hp} {v : V} (h : Oth L rs A H v) (k : ∀ b o, A b → H b = some o → A' b ∧ H' b = some o) : Oth L rs A' H' v := by
  obtain ⟨t, D, Lo, ro, h1, a1, h2, h3, h4⟩ := h.ex
  exact ⟨t, D, Lo, ro, h1, (k _ _ a1 h2).1, (k _ _ a1 h2).2, PyD.kp h3 k, h4⟩
def spOthers : Sp := fun vs H Q _ => ∃ (l ls pl D : Addr) (L : Str) (rs : RsT) (Ar : Addr → Prop) (N : Int), vs = [.ref l, .ref pl] ∧ Strm H l ls N ∧ N ≤ 800000 ∧ H pl = some (.tup [.str L, .ref D]) ∧ PyD.at_ Ar H (.ref D) (Dc.mk rs) ∧ (∀ b, Ar b → b ≠ l ∧ b ≠ ls) ∧ LetOk L ∧ LetOk (backX L) ∧ (2 ≤ L.length → L ≠ backX L) ∧ RsOk L rs ∧ rs.length ≤ 10 ∧ (∀ q ∈ rs, ∀ c ∈ q.1.cps.toList, c ∈ wordL) ∧
  ∀ H' g os, H g = none → g ≠ l → g ≠ ls → H' g = some (.lst os) → os.length ≤ 6 → (∀ v ∈ os, Oth L rs (fun b => b ≠ l ∧ b ≠ ls) H' v) → Strm H' l ls (N + 2) → But l ls H H' → Q (.ref g) H'
abbrev NOt : List Str := ["stream", "plan", "letters", "readers", "name", "begin", "states", "state", "found", "digit", "moves", "rows", "far", "ways", "one"]
theorem scOthers : FnScope NOt ["stream", "plan"] (defScope sOthers) := ⟨rfl, rfl, rfl, by decide +kernel, rfl, by decide +kernel, by decide +kernel⟩
section
variable {P : Program} {w : World} {K : PySem.W.Frag} {mg : Str → Option Value} {base : Heap} {f fD fP fW : Addr} {fd fdD fdP fdW : FuncData}
theorem oth_text (F : Fun K "_law_others" "_law_others" sOthers f fd) (FD : Fun K "_law_draw" "_law_draw" sDraw fD fdD) (gD : mg "_law_draw" = some (.ref fD)) (FP : Fun K "_law_pick" "_law_pick" sPick fP fdP) (gP : mg "_law_pick" = some (.ref fP)) (FW : Fun K "_law_with" "_law_with" sWith fW fdW) (gW : mg "_law_with" = some (.ref fW))
    (gI : mg "int" = none) (gN : mg "len" = none) (gDi : mg "dict" = none) (gL : mg "list" = none) (cdv : Value) (A : Around) (outer : List Env) (s : Shared) (H : Hp) (E : XK) (hr : Room 2 (cxOf CX0 P w K mg base NOt "_law_others" (defScope sOthers) f cdv A outer s H E).nox.A) : ∃ t, PSs (cxOf CX0 P w K mg base NOt "_law_others" (defScope sOthers) f cdv A outer s H E).nox (defBody sOthers) t := by
  have GP : FnOk P w K mg base CX0 2 fP fdP ["stream", "some"] (spPick K) := ok_pick FP FD gD gI gN
  have bP := FP.binds (ps := ["stream", "some"]) fun _ _ _ _ _ _ us hl => match us, hl with | [_, _], _ => rfl
  have GW : FnOk P w K mg base CX0 1 fW fdW ["readers", "name", "reader"] spWith := ok_with FW gDi
  have bW := FW.binds (ps := ["readers", "name", "reader"]) fun _ _ _ _ _ _ us hl => match us, hl with | [_, _, _], _ => rfl
  have nd := scOthers.nd
  have hu := hu_of (hr.mono (show 1 ≤ 2 by decide))
  refine ⟨_, pss_cons (ps_asg (pv 1) (pg_tup (n := 2) rfl (pgs_cons (pg_name (i := 2) nd rfl (Or.inr rfl)) (pgs_cons (pg_name (i := 3) nd rfl (Or.inl rfl)) pgs_nil))))
    (pss_cons (ps_set (i := 4) nd rfl (Or.inl rfl) (pe_call GP hr rfl gP FP.kp bP .nil pass0 (pa_cons (pv 0) (pa_cons (pe_callTy (call_listD rfl) rfl gL boot_list' (pa_cons (pv 3) pa_nil)) pa_nil))))
    (pss_cons (ps_asg (pe_dget hu (pv 3) (pv 4) (fun _ _ => rfl)) (pg_tup (n := 2) rfl (pgs_cons (pg_name (i := 5) nd rfl (Or.inr rfl)) (pgs_cons (pg_name (i := 6) nd rfl (Or.inl rfl)) pgs_nil))))
    (pss_cons (ps_par (i := 7) (j := 8) rfl nd rfl rfl (by decide) rfl rfl (pa_cons (pe_call GP hr rfl gP FP.kp bP .nil pass0 (pa_cons (pv 0) (pa_cons (pe_callTy (call_listD rfl) rfl gL boot_list' (pa_cons (pv 6) pa_nil)) pa_nil))) (pa_cons (pe_lst pa_nil) pa_nil)) (by rfl))
    (pss_cons (ps_asg (pe_dget hu (pv 6) (pv 7) (fun _ _ => rfl)) (pg_tup (n := 2) rfl (pgs_cons (pg_name (i := 9) nd rfl (Or.inl rfl)) (pgs_cons (pg_name (i := 10) nd rfl (Or.inr rfl)) pgs_nil))))
    (pss_cons (ps_set (i := 11) nd rfl (Or.inl rfl) (pe_callTy call_dictD rfl gDi boot_dict' (pa_cons (pv 6) pa_nil)))
    (pss_cons (ps_dput hu (pv 11) (pv 7) (pe_tup (pa_cons (pe_op op_mod (pe_op op_add (pv 9) pe_int) pe_int) (pa_cons (pv 10) pa_nil))) rfl)
    (pss_cons (ps_expr (pe_bm PySem.F.plainAttrs_list PySem.F.slot_list_append PySem.F.type_list_append mt_append (pv 8) (pa_cons (pe_tup (pa_cons (pv 2) (pa_cons (pe_call GW (hr.mono (by decide)) rfl gW FW.kp bW .nil pass0 (pa_cons (pv 3) (pa_cons (pv 4) (pa_cons (pe_tup (pa_cons (pv 5) (pa_cons (pv 11) pa_nil))) pa_nil)))) pa_nil))) pa_nil)))
    (pss_cons (ps_for PassesOwn.never rfl (pi_list (pe_slice (r := rSlL K) sl_list (pe_lock (pe_lc (own := [("one", 14)]) (g := gName 14) rfl nd (pi_keys (pv 6)) (blkOk_by (N := NOt) (sc := defScope sOthers) (by decide +kernel)) (fun _ _ _ _ _ => pg_name (i := 14) nd rfl (Or.inl rfl)) (fun _ _ _ _ _ => pts_one (pt_cmpR op_ne (pv 14) (pv 5) rfl)) (fun _ _ _ _ _ => pv 14))) po_none (po_some pe_int))) (pg_name (i := 12) nd rfl (Or.inl rfl))
      (pss_one (ps_expr (pe_bm PySem.F.plainAttrs_list PySem.F.slot_list_append PySem.F.type_list_append mt_append (pv 8) (pa_cons (pe_tup (pa_cons (pv 2) (pa_cons (pe_call GW (hr.mono (by decide)) rfl gW FW.kp bW .nil pass0 (pa_cons (pv 3) (pa_cons (pv 4) (pa_cons (pe_tup (pa_cons (pv 12) (pa_cons (pv 6) pa_nil))) pa_nil)))) pa_nil))) pa_nil)))))
    (pss_cons (ps_for PassesOwn.never rfl (pi_list (pe_slice (r := rSlL K) sl_list (pe_lock (pe_lc (own := [("one", 14)]) (g := gName 14) rfl nd (pi_keys (pv 6)) (blkOk_by (N := NOt) (sc := defScope sOthers) (by decide +kernel)) (fun _ _ _ _ _ => pg_name (i := 14) nd rfl (Or.inl rfl)) (fun _ _ _ _ _ => pts_one (pt_cmpR op_ne (pv 14) (pe_dget hu (pv 10) (pe_ix ix_str (pv 2) pe_int (fun _ _ => rfl)) (fun _ _ => rfl)) rfl)) (fun _ _ _ _ _ => pv 14))) po_none (po_some pe_int))) (pg_name (i := 12) nd rfl (Or.inl rfl))
      (pss_cons (ps_par (i := 11) (j := 13) rfl nd rfl rfl (by decide) rfl rfl (pa_cons (pe_callTy call_dictD rfl gDi boot_dict' (pa_cons (pv 6) pa_nil)) (pa_cons (pe_callTy call_dictD rfl gDi boot_dict' (pa_cons (pv 10) pa_nil)) pa_nil)) (by rfl))
      (pss_cons (ps_dput hu (pv 13) (pe_ix ix_str (pv 2) pe_int (fun _ _ => rfl)) (pv 12) rfl)
      (pss_cons (ps_dput hu (pv 11) (pv 7) (pe_tup (pa_cons (pv 9) (pa_cons (pv 13) pa_nil))) rfl)
      (pss_one (ps_expr (pe_bm PySem.F.plainAttrs_list PySem.F.slot_list_append PySem.F.type_list_append mt_append (pv 8) (pa_cons (pe_tup (pa_cons (pv 2) (pa_cons (pe_call GW (hr.mono (by decide)) rfl gW FW.kp bW .nil pass0 (pa_cons (pv 3) (pa_cons (pv 4) (pa_cons (pe_tup (pa_cons (pv 5) (pa_cons (pv 11) pa_nil))) pa_nil)))) pa_nil))) pa_nil))))))))
    (pss_cons (ps_if (pt_cmpR op_gt (pe_callB call_lenD rfl gN boot_len (pa_cons (pv 3) pa_nil)) pe_int (nomark _)) (pss_one (ps_expr (pe_bm PySem.F.plainAttrs_list PySem.F.slot_list_append PySem.F.type_list_append mt_append (pv 8) (pa_cons (pe_tup (pa_cons (pv 2) (pa_cons (pe_callTy (r := rDk K) (call_dk rfl) rfl gDi boot_dict' (pa_cons (pe_revL (LiI.pe_listItems rfl (pv 3) rfl gL boot_list')) pa_nil)) pa_nil))) pa_nil)))) pss_nil)
    (pss_cons (ps_if (pt_cmpR op_gt (pe_callB call_len_str rfl gN boot_len (pa_cons (pv 2) pa_nil)) pe_int (nomark _)) (pss_one (ps_expr (pe_bm PySem.F.plainAttrs_list PySem.F.slot_list_append PySem.F.type_list_append mt_append (pv 8) (pa_cons (pe_tup (pa_cons (pe_revX (pv 2)) (pa_cons (pv 3) pa_nil))) pa_nil)))) pss_nil)
    (pss_one (ps_ret (pe_op op_cat (pv 8) (pe_lst (pa_cons (pe_tup (pa_cons (pv 2) (pa_cons (pe_call GW (hr.mono (by decide)) rfl gW FW.kp bW .nil pass0 (pa_cons (pv 3) (pa_cons pe_str (pa_cons (pe_dget hu (pv 3) (pv 4) (fun _ _ => rfl)) pa_nil)))) pa_nil))) pa_nil))))))))))))))))⟩
end
end L2.TB
/-! the fields that differ in one thing -/
namespace L2.TB
open PySem PySem.Spec PyProof.Rows
/-- an entry of a name that is there, replaced -/
def putA {α : Type} (l : List (Str × α)) (n : Str) (a : α) : List (Str × α) := l.map fun q => if q.1 = n then (q.1, a) else q
theorem putA_keys {α : Type} (l : List (Str × α)) (n : Str) (a : α) : (putA l n a).map (·.1) = l.map (·.1) := putQ_keys l n a
theorem putA_mem {α : Type} {l : List (Str × α)} {n : Str} {a : α} {q : Str × α} (h : q ∈ putA l n a) : q ∈ l ∨ (q.2 = a ∧ q.1 = n) := putQ_mem h
theorem putA_lk {α : Type} {l : List (Str × α)} {n : Str} {a : α} (h : n ∈ l.map (·.1)) : lk (putA l n a) n = some a := by
  induction l with
  | nil => cases h
  | cons e l ih =>
    unfold putA at ih ⊢
    rw [List.map_cons, lk_cons]
    by_cases c : e.1 = n
    · rw [if_pos c, if_pos c]
    · rw [if_neg c, if_neg c]
      rw [List.map_cons, List.mem_cons] at h
      exact ih (h.resolve_left fun z => c z.symm)
theorem dcA_put {α : Type} [PyD α] {A B : Addr → Prop} {H H' : Hp} {es : List (Key × V)} {l : List (Str × α)} {n : Str} {v : V} {a : α} (h : Paired (DcE A H) es l) (c : n ∈ l.map (·.1)) (hv : PyD.at_ B H' v a) (k : ∀ b o, A b → H b = some o → B b ∧ H' b = some o) : Paired (DcE B H') (putK es (Sum.inr n) v) (putA l n a) := by
  have ke : es.map (·.1) = (l.map (·.1)).map Sum.inr := dc_keys h
  have c2 : (Sum.inr n : Key) ∈ es.map (·.1) := by rw [ke]; exact List.mem_map_of_mem c
  rw [put_has c2]
  unfold putA
  refine paired_map2 h fun e q hq => ?_
  by_cases z : q.1 = n
  · rw [if_pos z, if_pos (by rw [hq.1, z])]
    exact ⟨hq.1, hv⟩
  · rw [if_neg z, if_neg (fun y => z (by rw [hq.1] at y; exact Sum.inr.inj y))]
    exact ⟨hq.1, PyD.kp hq.2 k⟩
/-- a state with another digit or other moves -/
theorem RdOk.put {L : Str} {r : RdT} (h : RdOk L r) {st : Str × StT} (sin : st ∈ r.2.l) {s : StT} (d0 : 0 ≤ s.1) (d9 : s.1 ≤ 9) (mp : (s.2.l.map (·.1)).Perm (lets L)) (mv : ∀ m ∈ s.2.l, m.2 ∈ r.2.l.map (·.1)) : RdOk L (r.1, Dc.mk (putA r.2.l st.1 s)) := by
  have ks := putA_keys r.2.l st.1 s
  have len : (putA r.2.l st.1 s).length = r.2.l.length := by unfold putA; rw [List.length_map]
  refine ⟨by show 0 < (putA _ _ _).length; rw [len]; exact h.n0, by show (putA _ _ _).length ≤ 6; rw [len]; exact h.n6, by show ((putA _ _ _).map _).Nodup; rw [ks]; exact h.nd, fun e he => ?_, by show r.1 ∈ (putA _ _ _).map _; rw [ks]; exact h.bg, fun e he => ?_, fun e he => ?_, fun e he m hm => ?_⟩
  · rcases putA_mem he with z | ⟨_, z⟩
    · exact h.nm e z
    · rw [z]; exact h.nm st sin
  · rcases putA_mem he with z | ⟨z, _⟩
    · exact h.d0 e z
    · rw [z]; exact ⟨d0, d9⟩
  · rcases putA_mem he with z | ⟨z, _⟩
    · exact h.mp e z
    · rw [z]; exact mp
  · show m.2 ∈ (putA _ _ _).map _
    rw [ks]
    rcases putA_mem he with z | ⟨z, _⟩
    · exact h.mv e z m hm
    · rw [z] at hm; exact mv m hm
theorem eqv_put {r : RdT} (nd : (r.2.l.map (·.1)).Nodup) {st : Str × StT} (sin : st ∈ r.2.l) {s : StT} (ne : PyD.eqv st.2 s = false) : PyD.eqv r ((r.1, Dc.mk (putA r.2.l st.1 s)) : RdT) = false := by
  cases e : PyD.eqv r ((r.1, Dc.mk (putA r.2.l st.1 s)) : RdT) with
  | false => rfl
  | true =>
    have e : (decide (r.1 = r.1) && dcEqv r.2.l (putA r.2.l st.1 s)) = true := e
    rw [Bool.and_eq_true] at e
    have z := dcEqv_get e.2 sin nd (putA_lk (List.mem_map_of_mem sin))
    rw [ne] at z
    cases z
/-- the next digit is another one -/
theorem digit_ne {d : Int} (h0 : 0 ≤ d) (h9 : d ≤ 9) : d ≠ (d + 1) % 10 ∧ 0 ≤ (d + 1) % 10 ∧ (d + 1) % 10 ≤ 9 := by omega
theorem eqv_digit {s : StT} {z : Int} (ne : s.1 ≠ z) : PyD.eqv s ((z, s.2) : StT) = false := by
  show (decide (s.1 = z) && _) = false
  rw [decide_eq_false ne]
  rfl
/-- a letter's move goes elsewhere -/
theorem eqv_move {s : StT} (nd : (s.2.l.map (·.1)).Nodup) {c far old : Str} (ec : lk s.2.l c = some old) (ne : far ≠ old) : PyD.eqv s ((s.1, Dc.mk (putA s.2.l c far)) : StT) = false := by
  cases e : PyD.eqv s ((s.1, Dc.mk (putA s.2.l c far)) : StT) with
  | false => rfl
  | true =>
    have e : (decide (s.1 = s.1) && dcEqv s.2.l (putA s.2.l c far)) = true := e
    rw [Bool.and_eq_true] at e
    have min := lk_get ec
    have z := dcEqv_get e.2 min nd (putA_lk (List.mem_map_of_mem min))
    have z : decide (old = far) = true := z
    rw [decide_eq_true_eq] at z
    exact absurd z.symm ne
/-- another begin -/
theorem RdOk.begin {L : Str} {r : RdT} (h : RdOk L r) {far : Str} (fin : far ∈ r.2.l.map (·.1)) : RdOk L (far, r.2) := ⟨h.n0, h.n6, h.nd, h.nm, fin, h.d0, h.mp, h.mv⟩
theorem eqv_begin {r : RdT} {far : Str} (ne : far ≠ r.1) : PyD.eqv r ((far, r.2) : RdT) = false := by
  show (decide (r.1 = far) && _) = false
  rw [decide_eq_false (Ne.symm ne)]
  rfl
theorem RsOk.put {L : Str} {rs : RsT} (h : RsOk L rs) {q : Str × RdT} (qin : q ∈ rs) {r : RdT} (ok : RdOk L r) : RsOk L (putR rs q.1 r) := by
  have c : q.1 ∈ rs.map (·.1) := List.mem_map_of_mem qin
  have ks := putR_keys rs q.1 r
  rw [if_pos c] at ks
  have len : (putR rs q.1 r).length = rs.length := by
    have z := congrArg List.length ks
    rw [List.length_map, List.length_map] at z
    exact z
  have mem : ∀ e ∈ putR rs q.1 r, e ∈ rs ∨ (e.1 = q.1 ∧ e.2 = r) := fun e he => by
    unfold putR at he
    rw [if_pos c] at he
    obtain ⟨q0, h0, e0⟩ := List.mem_map.mp he
    by_cases z : q0.1 = q.1
    · rw [if_pos z] at e0
      rw [← e0]
      exact .inr ⟨z, rfl⟩
    · rw [if_neg z] at e0
      rw [← e0]
      exact .inl h0
  refine ⟨by rw [len]; exact h.n0, by rw [len]; exact h.n1, by rw [ks]; exact h.nd, fun e he => ?_, fun e he => ?_⟩
  · rcases mem e he with z | ⟨z, _⟩
    · exact h.nm e z
    · rw [z]; exact h.nm q qin
  · rcases mem e he with z | ⟨_, z⟩
    · exact h.rd e z
    · rw [z]; exact ok
theorem RsOk.more {L : Str} {rs : RsT} (h : RsOk L rs) {n : Str} (out : n ∉ rs.map (·.1)) (nok : NmOk n) {r : RdT} (ok : RdOk L r) (few : rs.length ≤ 10) : RsOk L (putR rs n r) ∧ eqRs rs (putR rs n r) = false := by
  have e : putR rs n r = rs ++ [(n, r)] := by unfold putR; rw [if_neg out]
  rw [e]
  refine ⟨⟨by rw [List.length_append]; show 0 < _ + 1; omega, by rw [List.length_append]; show _ + 1 < 1000; omega, ?_, fun q hq => ?_, fun q hq => ?_⟩, eqRs_len (by rw [List.length_append]; show _ ≠ _ + 1; omega)⟩
  · rw [List.map_append, List.nodup_append]
    exact ⟨h.nd, by simp, fun x hx y hy z => out (by rw [List.mem_singleton.mp hy] at z; have z : x = n := z; rw [← z]; exact hx)⟩
  · rcases List.mem_append.mp hq with z | z
    · exact h.nm q z
    · rw [List.mem_singleton.mp z]; exact nok
  · rcases List.mem_append.mp hq with z | z
    · exact h.rd q z
    · rw [List.mem_singleton.mp z]; exact ok
theorem RsOk.rev {L : Str} {rs : RsT} (h : RsOk L rs) : RsOk L rs.reverse := ⟨by rw [List.length_reverse]; exact h.n0, by rw [List.length_reverse]; exact h.n1, by rw [List.map_reverse]; exact (List.reverse_perm _).nodup_iff.mpr h.nd, fun q hq => h.nm q (List.mem_reverse.mp hq), fun q hq => h.rd q (List.mem_reverse.mp hq)⟩
theorem RsOk.back {L L' : Str} {rs : RsT} (h : RsOk L rs) (p : (lets L).Perm (lets L')) : RsOk L' rs := ⟨h.n0, h.n1, h.nd, h.nm, fun q hq => by
  have z := h.rd q hq
  exact ⟨z.n0, z.n6, z.nd, z.nm, z.bg, z.d0, fun s hs => (z.mp s hs).trans p, z.mv⟩⟩
theorem no_q9 {rs : RsT} (h : ∀ q ∈ rs, ∀ c ∈ q.1.cps.toList, c ∈ wordL) : Str.ofString "q9" ∉ rs.map (·.1) := fun z => by
  obtain ⟨q, hq, e⟩ := List.mem_map.mp z
  have y := h q hq 57 (by rw [show q.1 = Str.ofString "q9" from e]; decide +kernel)
  exact absurd y (by decide +kernel)
end L2.TB
/-! the four alphabets -/
namespace L2.TB
open PySem PySem.Spec PyProof.Rows
theorem ix_of {L : Str} (h : ∀ c ∈ L.cps.toList, Builtin.Str.occurrences L (one1 c) 0 L.length 1 ≠ [] ∧ L.cps.toList[(Builtin.Str.occurrences L (one1 c) 0 L.length 1).headD 0]? = some c) : LetIx L := fun c hc => by
  obtain ⟨h1, h2⟩ := h c hc
  cases e : Builtin.Str.occurrences L (one1 c) 0 L.length 1 with
  | nil => exact absurd e h1
  | cons i more =>
    rw [e] at h2
    exact ⟨i, more, rfl, h2⟩
/-- what the law asks of its letters -/
structure Alph (L : Str) : Prop where
  ok : LetOk L
  ix : LetIx L
  back : LetOk (backX L)
  pm : (lets L).Perm (lets (backX L))
  ne : 2 ≤ L.length → L ≠ backX L
theorem alph_z : Alph (Str.ofString "z") := ⟨⟨by decide +kernel, by decide +kernel, by decide +kernel, by decide +kernel, by decide +kernel⟩, ix_of (by decide +kernel), ⟨by decide +kernel, by decide +kernel, by decide +kernel, by decide +kernel, by decide +kernel⟩, by decide +kernel, by decide +kernel⟩
theorem alph_ab : Alph (Str.ofString "ab") := ⟨⟨by decide +kernel, by decide +kernel, by decide +kernel, by decide +kernel, by decide +kernel⟩, ix_of (by decide +kernel), ⟨by decide +kernel, by decide +kernel, by decide +kernel, by decide +kernel, by decide +kernel⟩, by decide +kernel, by decide +kernel⟩
theorem alph_ba : Alph (Str.ofString "ba") := ⟨⟨by decide +kernel, by decide +kernel, by decide +kernel, by decide +kernel, by decide +kernel⟩, ix_of (by decide +kernel), ⟨by decide +kernel, by decide +kernel, by decide +kernel, by decide +kernel, by decide +kernel⟩, by decide +kernel, by decide +kernel⟩
theorem alph_cab : Alph (Str.ofString "cab") := ⟨⟨by decide +kernel, by decide +kernel, by decide +kernel, by decide +kernel, by decide +kernel⟩, ix_of (by decide +kernel), ⟨by decide +kernel, by decide +kernel, by decide +kernel, by decide +kernel, by decide +kernel⟩, by decide +kernel, by decide +kernel⟩
end L2.TB
/-! the reader "s", parts of a field -/
namespace L2.TB
open PySem PySem.Spec PyProof.Rows
abbrev sS : Str := Str.ofString "s"
/-- the reader with one state -/
def farR (L : Str) : RdT := (sS, Dc.mk [(sS, (0, Dc.mk ((lets L).map fun c => (c, sS))))])
theorem far_ok (L : Str) : RdOk L (farR L) := by
  refine ⟨by show 0 < 1; decide, by show 1 ≤ 6; decide, by show [sS].Nodup; simp, fun s hs => ?_, by show sS ∈ [sS]; simp, fun s hs => ?_, fun s hs => ?_, fun s hs m hm => ?_⟩
  · rw [List.mem_singleton.mp hs]
    show NmOk sS
    unfold NmOk
    decide +kernel
  · rw [List.mem_singleton.mp hs]
    show (0 : Int) ≤ 0 ∧ (0 : Int) ≤ 9
    decide
  · rw [List.mem_singleton.mp hs]
    show (((lets L).map fun c => (c, sS)).map (·.1)).Perm (lets L)
    rw [List.map_map]
    have e : (lets L).map ((·.1) ∘ fun c => (c, sS)) = lets L := by
      generalize lets L = l
      induction l with
      | nil => rfl
      | cons a l ih => rw [List.map_cons, ih]; rfl
    rw [e]
  · rw [List.mem_singleton.mp hs] at hm
    have hm : m ∈ (lets L).map fun c => (c, sS) := hm
    obtain ⟨c, _, rfl⟩ := List.mem_map.mp hm
    show sS ∈ [sS]
    simp
theorem no_q8 {rs : RsT} (h : ∀ q ∈ rs, ∀ c ∈ q.1.cps.toList, c ∈ wordL) : Str.ofString "q8" ∉ rs.map (·.1) := fun z => by
  obtain ⟨q, hq, e⟩ := List.mem_map.mp z
  have y := h q hq 56 (by rw [show q.1 = Str.ofString "q8" from e]; decide +kernel)
  exact absurd y (by decide +kernel)
theorem both_ok {L : Str} {rs : RsT} (h : RsOk L rs) (few : rs.length ≤ 10) (w : ∀ q ∈ rs, ∀ c ∈ q.1.cps.toList, c ∈ wordL) : RsOk L (rs ++ [(Str.ofString "q8", farR L)]) := by
  have z := (h.more (no_q8 w) (by unfold NmOk; decide +kernel) (far_ok L) few).1
  unfold putR at z
  rw [if_neg (no_q8 w)] at z
  exact z
theorem RsOk.part {L : Str} {rs sub : RsT} (h : RsOk L rs) (sin : ∀ q ∈ sub, q ∈ rs) (nd : (sub.map (·.1)).Nodup) (n0 : 0 < sub.length) (n1 : sub.length < 1000) : RsOk L sub := ⟨n0, n1, nd, fun q hq => h.nm q (sin q hq), fun q hq => h.rd q (sin q hq)⟩
/-- some names of a field, in any order, and their readers -/
theorem sub_of {rs : RsT} {ks : List Str} (h : ∀ n ∈ ks, n ∈ rs.map (·.1)) : ∃ sub : RsT, sub.map (·.1) = ks ∧ ∀ q ∈ sub, q ∈ rs := by
  induction ks with
  | nil => exact ⟨[], rfl, fun q hq => by cases hq⟩
  | cons n ks ih =>
    obtain ⟨sub, e, s⟩ := ih fun n hn => h n (List.mem_cons_of_mem _ hn)
    obtain ⟨r, _, rin⟩ := lk_in (h n List.mem_cons_self)
    refine ⟨(n, r) :: sub, by rw [List.map_cons, e], fun q hq => ?_⟩
    rcases List.mem_cons.mp hq with rfl | hq
    · exact rin
    · exact s q hq
end L2.TB
/-! _law_others: its end -/
namespace L2.TB
open PySem PySem.Spec PyProof.Rows
/-- the others found so far, the list at g -/
structure OSt (l ls g : Addr) (L : Str) (rs : RsT) (n : Nat) (H0 H1 : Hp) (os : List V) : Prop where
  o : H1 g = some (.lst os)
  few : os.length ≤ n
  ok : ∀ v ∈ os, Oth L rs (fun b => b ≠ l ∧ b ≠ ls ∧ b ≠ g) H1 v
  fr : ∀ b o, b ≠ g → H0 b = some o → H1 b = some o
theorem OSt.add {l ls g : Addr} {L : Str} {rs : RsT} {n : Nat} {H0 H1 H2 : Hp} {os : List V} {v : V} (h : OSt l ls g L rs n H0 H1 os) (s : Same H1 H2) (hv : Oth L rs (fun b => b ≠ l ∧ b ≠ ls ∧ b ≠ g) H2 v) : OSt l ls g L rs (n + 1) H0 (upd H2 g (.lst (os ++ [v]))) (os ++ [v]) := by
  have up : ∀ b o, b ≠ g → H2 b = some o → upd H2 g (.lst (os ++ [v])) b = some o := fun b o nb e => by rw [upd_ne nb]; exact e
  refine ⟨upd_same, by rw [List.length_append]; have := h.few; show _ + 1 ≤ _; omega, fun x hx => ?_, fun b o nb e => up b o nb (s _ _ (h.fr b o nb e))⟩
  rcases List.mem_append.mp hx with z | z
  · exact (h.ok x z).keep fun b o a e => ⟨a, up b o a.2.2 (s _ _ e)⟩
  · rw [List.mem_singleton.mp z]
    exact hv.keep fun b o a e => ⟨a, up b o a.2.2 e⟩
theorem OSt.mono {l ls g : Addr} {L : Str} {rs : RsT} {n m : Nat} {H0 H1 : Hp} {os : List V} (h : OSt l ls g L rs n H0 H1 os) (le : n ≤ m) : OSt l ls g L rs m H0 H1 os := ⟨h.o, Nat.le_trans h.few le, h.ok, h.fr⟩
section
variable {P : Program} {w : World} {K : PySem.W.Frag} {mg : Str → Option Value} {base : Heap} {f fW : Addr} {fd fdW : FuncData}
theorem oth_end (FW : Fun K "_law_with" "_law_with" sWith fW fdW) (gW : mg "_law_with" = some (.ref fW)) (gDi : mg "dict" = none) (cdv : Value) (A : Around) (outer : List Env) (s : Shared) (H : Hp) (E : XK) (hr : Room 2 (cxOf CX0 P w K mg base NOt "_law_others" (defScope sOthers) f cdv A outer s H E).nox.A) :
    ∃ t, PSs (cxOf CX0 P w K mg base NOt "_law_others" (defScope sOthers) f cdv A outer s H E).nox ((defBody sOthers).drop 12) t ∧ ∀ (l ls g D : Addr) (L : Str) (rs : RsT) (Ar : Addr → Prop) (q : Str × RdT) (H0 H1 : Hp) (os : List V) (σ : L2.St) (Dn : Ends), OSt l ls g L rs 5 H0 H1 os → PyD.at_ Ar H0 (.ref D) (Dc.mk rs) → (∀ b, Ar b → b ≠ l ∧ b ≠ ls ∧ b ≠ g) → Strm H0 l ls 0 ∨ (H0 l ≠ none ∧ H0 ls ≠ none) → g ≠ l → g ≠ ls → q ∈ rs → LetOk L → RsOk L rs → rs.length ≤ 10 → (∀ q ∈ rs, ∀ c ∈ q.1.cps.toList, c ∈ wordL) →
      σ[2]? = some (some (.str L)) → σ[3]? = some (some (.ref D)) → σ[4]? = some (some (.str q.1)) → σ[8]? = some (some (.ref g)) →
      (∀ H' g' os', H1 g' = none → H' g' = some (.lst os') → os'.length ≤ 6 → (∀ v ∈ os', Oth L rs (fun b => b ≠ l ∧ b ≠ ls) H' v) → (∀ b o, b ≠ g → H0 b = some o → H' b = some o) → Dn.rt (.ref g') H') → t Dn σ H1 := by
  have GW : FnOk P w K mg base CX0 1 fW fdW ["readers", "name", "reader"] spWith := ok_with FW gDi
  have bW := FW.binds (ps := ["readers", "name", "reader"]) fun _ _ _ _ _ _ us hl => match us, hl with | [_, _, _], _ => rfl
  have nd := scOthers.nd
  have hu := hu_of (hr.mono (show 1 ≤ 2 by decide))
  refine ⟨_, pss_one (ps_ret (pe_op op_cat (pv 8) (pe_lst (pa_cons (pe_tup (pa_cons (pv 2) (pa_cons (pe_call GW (hr.mono (by decide)) rfl gW FW.kp bW .nil pass0 (pa_cons (pv 3) (pa_cons pe_str (pa_cons (pe_dget hu (pv 3) (pv 4) (fun _ _ => rfl)) pa_nil)))) pa_nil))) pa_nil)))), ?_⟩
  intro l ls g D L rs Ar q H0 H1 os σ Dn O at_ ar lv gl gs qin lok ok few wd e2 e3 e4 e8 fin
  obtain ⟨D', es, e1, aD, oD, rnd, pr⟩ := at_
  obtain rfl := V.ref.inj e1
  have aDg := ar _ aD
  have oD1 := O.fr _ _ aDg.2.2 oD
  obtain ⟨v, ev, atv⟩ := rs_val pr rnd qin
  have up1 : ∀ b o, Ar b → H0 b = some o → H1 b = some o := fun b o a e => O.fr b o (ar _ a).2.2 e
  have lvl : ∀ b, H1 b = none → b ≠ l ∧ b ≠ ls := fun b n => by
    have h : H0 l ≠ none ∧ H0 ls ≠ none := lv.elim (fun S => by
      obtain ⟨⟨o, h1⟩, o', h2⟩ := S.some
      exact ⟨(by rw [h1]; exact fun z => by cases z), (by rw [h2]; exact fun z => by cases z)⟩) id
    refine ⟨fun z => ?_, fun z => ?_⟩
    · cases e : H0 l with
      | none => exact h.1 e
      | some o => rw [z, O.fr l o (Ne.symm gl) e] at n; cases n
    · cases e : H0 ls with
      | none => exact h.2 e
      | some o => rw [z, O.fr ls o (Ne.symm gs) e] at n; cases n
  obtain ⟨mok, mne⟩ := ok.more (no_q9 wd) (by unfold NmOk; decide +kernel) (ok.rd q qin) few
  refine ⟨_, e8, _, e2, _, e3, _, e3, _, e4, D, _, rfl, .inl ⟨es, Sum.inr q.1, .inl oD1, rfl, ev.symm⟩, D, Str.ofString "q9", v, rs, q.2, Ar, rfl, ⟨D, es, rfl, aD, oD1, rnd, Paired.mapP pr fun e q h => ⟨h.1, PyD.kp h.2 fun b o a e => ⟨a, up1 b o a e⟩⟩⟩, PyD.kp atv (fun b o a e => ⟨a, up1 b o a e⟩), by omega, fun H2 p np atp k2 => ?_⟩
  refine ⟨(by show 2 ≤ sizeLine; decide), fun t nt => ⟨(by show 1 ≤ sizeLine; decide), fun c nc => ?_⟩⟩
  have kt := same_new (o := .tup [.str L, .ref p]) nt
  have kc := same_new (o := .lst [.ref t]) nc
  have k24 := kt.trans kc
  have k14 := k2.trans k24
  refine ⟨g, c, os, [.ref t], rfl, rfl, k14 _ _ O.o, upd_same, by have := O.few; rw [sizeLine_eq]; show os.length + 1 ≤ _; omega, fun z nz => ?_⟩
  have kz := same_new (o := .lst (os ++ [.ref t])) nz
  have k1z := k14.trans kz
  have pa := lvl p np
  have ta := lvl t (k2.free nt)
  refine fin _ z _ (k14.free nz) upd_same (by rw [List.length_append]; have := O.few; show _ + 1 ≤ _; omega) (fun x hx => ?_) fun b o nb e => k1z _ _ (O.fr b o nb e)
  rcases List.mem_append.mp hx with h | h
  · exact (O.ok x h).keep fun b o a e => ⟨⟨a.1, a.2.1⟩, k1z _ _ e⟩
  · rw [List.mem_singleton.mp h]
    refine ⟨⟨t, p, L, _, rfl, ta, kz _ _ (kc _ _ upd_same), PyD.kp atp fun b o a e => ⟨?_, kz _ _ (k24 _ _ e)⟩, lok, mok, fun _ => mne⟩⟩
    rcases a with rfl | a
    · exact pa
    · exact ⟨(ar _ a).1, (ar _ a).2.1⟩
end
end L2.TB
/-! _law_others: letters backwards -/
namespace L2.TB
open PySem PySem.Spec PyProof.Rows
section
variable {P : Program} {w : World} {K : PySem.W.Frag} {mg : Str → Option Value} {base : Heap} {f fW : Addr} {fd fdW : FuncData}
theorem oth_ltr (FW : Fun K "_law_with" "_law_with" sWith fW fdW) (gW : mg "_law_with" = some (.ref fW)) (gN : mg "len" = none) (gDi : mg "dict" = none) (cdv : Value) (A : Around) (outer : List Env) (s : Shared) (H : Hp) (E : XK) (hr : Room 2 (cxOf CX0 P w K mg base NOt "_law_others" (defScope sOthers) f cdv A outer s H E).nox.A) :
    ∃ t, PSs (cxOf CX0 P w K mg base NOt "_law_others" (defScope sOthers) f cdv A outer s H E).nox ((defBody sOthers).drop 11) t ∧ ∀ (l ls g D : Addr) (L : Str) (rs : RsT) (Ar : Addr → Prop) (q : Str × RdT) (H0 H1 : Hp) (os : List V) (σ : L2.St) (Dn : Ends), OSt l ls g L rs 4 H0 H1 os → PyD.at_ Ar H0 (.ref D) (Dc.mk rs) → (∀ b, Ar b → b ≠ l ∧ b ≠ ls ∧ b ≠ g) → Strm H0 l ls 0 ∨ (H0 l ≠ none ∧ H0 ls ≠ none) → g ≠ l → g ≠ ls → q ∈ rs → LetOk L → RsOk L rs → rs.length ≤ 10 → (∀ q ∈ rs, ∀ c ∈ q.1.cps.toList, c ∈ wordL) →
      LetOk (backX L) → (2 ≤ L.length → L ≠ backX L) → (lets L).Perm (lets (backX L)) →
      σ[2]? = some (some (.str L)) → σ[3]? = some (some (.ref D)) → σ[4]? = some (some (.str q.1)) → σ[8]? = some (some (.ref g)) →
      (∀ H' g' os', H1 g' = none → H' g' = some (.lst os') → os'.length ≤ 6 → (∀ v ∈ os', Oth L rs (fun b => b ≠ l ∧ b ≠ ls) H' v) → (∀ b o, b ≠ g → H0 b = some o → H' b = some o) → Dn.rt (.ref g') H') → t Dn σ H1 := by
  obtain ⟨t2, h2, m2⟩ := oth_end FW gW gDi cdv A outer s H E hr
  have nd := scOthers.nd
  refine ⟨_, pss_cons (ps_if (pt_cmpR op_gt (pe_callB call_len_str rfl gN boot_len (pa_cons (pv 2) pa_nil)) pe_int (nomark _)) (pss_one (ps_expr (pe_bm PySem.F.plainAttrs_list PySem.F.slot_list_append PySem.F.type_list_append mt_append (pv 8) (pa_cons (pe_tup (pa_cons (pe_revX (pv 2)) (pa_cons (pv 3) pa_nil))) pa_nil)))) pss_nil) h2, ?_⟩
  intro l ls g D L rs Ar q H0 H1 os σ Dn O at_ ar lv gl gs qin lok ok few wd bok bne bp e2 e3 e4 e8 fin
  have at0 := at_
  obtain ⟨D', es, e1, aD, oD, rnd, pr⟩ := at_
  obtain rfl := V.ref.inj e1
  have aDg := ar _ aD
  have oD1 := O.fr _ _ aDg.2.2 oD
  have lvl : ∀ b, H1 b = none → b ≠ l ∧ b ≠ ls ∧ b ≠ g := fun b n => by
    have h : H0 l ≠ none ∧ H0 ls ≠ none := lv.elim (fun S => by
      obtain ⟨⟨o, h1⟩, o', h2⟩ := S.some
      exact ⟨(by rw [h1]; exact fun z => by cases z), (by rw [h2]; exact fun z => by cases z)⟩) id
    refine ⟨fun z => ?_, fun z => ?_, fun z => by rw [z, O.o] at n; cases n⟩
    · cases e : H0 l with
      | none => exact h.1 e
      | some o => rw [z, O.fr l o (Ne.symm gl) e] at n; cases n
    · cases e : H0 ls with
      | none => exact h.2 e
      | some o => rw [z, O.fr ls o (Ne.symm gs) e] at n; cases n
  have goOn : ∀ H2 os2, OSt l ls g L rs 5 H0 H2 os2 → (∀ b, H2 b = none → H1 b = none) → t2 Dn σ H2 := fun H2 os2 O2 k => m2 l ls g D L rs Ar q H0 H2 os2 σ Dn O2 at0 ar lv gl gs qin lok ok few wd e2 e3 e4 e8 fun H' g' os' n1 h1 h2 h3 h4 => fin H' g' os' (k _ n1) h1 h2 h3 h4
  refine ⟨_, e2, L, rfl, (by rw [sizeLine_eq]; have := lok.l3; omega), _, _, rfl, rfl, ?_⟩
  by_cases c : (1 : Int) < (L.length : Nat)
  case neg => exact ⟨false, congrArg V.bl (decide_eq_false c), iteF (goOn H1 os (O.mono (by decide)) fun b z => z)⟩
  have c2 : 2 ≤ L.length := by omega
  refine ⟨true, congrArg V.bl (decide_eq_true c), iteT ?_⟩
  refine ⟨_, e8, .inl ⟨rfl, os, .inl (.inl O.o)⟩, _, e2, L, rfl, (by rw [sizeLine_eq]; have := bok.l3; omega), _, e3, (by show 2 ≤ sizeLine; decide), fun t nt => ?_⟩
  have kt := same_new (o := .tup [.str (backX L), .ref D]) nt
  have pt := lvl t nt
  have og := kt _ _ O.o
  have hv : Oth L rs (fun b => b ≠ l ∧ b ≠ ls ∧ b ≠ g) (upd H1 t (.tup [.str (backX L), .ref D])) (.ref t) := by
    refine ⟨t, D, backX L, rs, rfl, pt, upd_same, ?_, bok, ok.back bp, fun z => absurd z (bne c2)⟩
    exact PyD.kp at0 fun b o a e => ⟨ar _ a, kt _ _ (O.fr b o (ar _ a).2.2 e)⟩
  have O2 := O.add kt hv
  have kn : ∀ b, upd (upd H1 t (.tup [.str (backX L), .ref D])) g (.lst (os ++ [.ref t])) b = none → H1 b = none := fun b z => by
    by_cases h : b = g
    · rw [h, upd_same] at z; cases z
    · rw [upd_ne h] at z; exact kt.free z
  have done := goOn _ _ O2 kn
  exact ⟨g, os, .ref t, rfl, rfl, og, (by have := O.few; rw [sizeLine_eq]; omega), done⟩
end
end L2.TB
/-! _law_others: the readers backwards -/
namespace L2.TB
open PySem PySem.Spec PyProof.Rows
section
variable {P : Program} {w : World} {K : PySem.W.Frag} {mg : Str → Option Value} {base : Heap} {f fW : Addr} {fd fdW : FuncData}
theorem oth_rev (FW : Fun K "_law_with" "_law_with" sWith fW fdW) (gW : mg "_law_with" = some (.ref fW)) (gN : mg "len" = none) (gDi : mg "dict" = none) (gL : mg "list" = none) (cdv : Value) (A : Around) (outer : List Env) (s : Shared) (H : Hp) (E : XK) (hr : Room 2 (cxOf CX0 P w K mg base NOt "_law_others" (defScope sOthers) f cdv A outer s H E).nox.A) :
    ∃ t, PSs (cxOf CX0 P w K mg base NOt "_law_others" (defScope sOthers) f cdv A outer s H E).nox ((defBody sOthers).drop 10) t ∧ ∀ (l ls g D : Addr) (L : Str) (rs : RsT) (Ar : Addr → Prop) (q : Str × RdT) (H0 H1 : Hp) (os : List V) (σ : L2.St) (Dn : Ends), OSt l ls g L rs 3 H0 H1 os → PyD.at_ Ar H0 (.ref D) (Dc.mk rs) → (∀ b, Ar b → b ≠ l ∧ b ≠ ls ∧ b ≠ g) → Strm H0 l ls 0 ∨ (H0 l ≠ none ∧ H0 ls ≠ none) → g ≠ l → g ≠ ls → q ∈ rs → LetOk L → RsOk L rs → rs.length ≤ 10 → (∀ q ∈ rs, ∀ c ∈ q.1.cps.toList, c ∈ wordL) →
      LetOk (backX L) → (2 ≤ L.length → L ≠ backX L) → (lets L).Perm (lets (backX L)) →
      σ[2]? = some (some (.str L)) → σ[3]? = some (some (.ref D)) → σ[4]? = some (some (.str q.1)) → σ[8]? = some (some (.ref g)) →
      (∀ H' g' os', H1 g' = none → H' g' = some (.lst os') → os'.length ≤ 6 → (∀ v ∈ os', Oth L rs (fun b => b ≠ l ∧ b ≠ ls) H' v) → (∀ b o, b ≠ g → H0 b = some o → H' b = some o) → Dn.rt (.ref g') H') → t Dn σ H1 := by
  obtain ⟨t2, h2, m2⟩ := oth_ltr FW gW gN gDi cdv A outer s H E hr
  have nd := scOthers.nd
  refine ⟨_, pss_cons (ps_if (pt_cmpR op_gt (pe_callB call_lenD rfl gN boot_len (pa_cons (pv 3) pa_nil)) pe_int (nomark _)) (pss_one (ps_expr (pe_bm PySem.F.plainAttrs_list PySem.F.slot_list_append PySem.F.type_list_append mt_append (pv 8) (pa_cons (pe_tup (pa_cons (pv 2) (pa_cons (pe_callTy (r := rDk K) (call_dk rfl) rfl gDi boot_dict' (pa_cons (pe_revL (LiI.pe_listItems rfl (pv 3) rfl gL boot_list')) pa_nil)) pa_nil))) pa_nil)))) pss_nil) h2, ?_⟩
  intro l ls g D L rs Ar q H0 H1 os σ Dn O at_ ar lv gl gs qin lok ok few wd bok bne bp e2 e3 e4 e8 fin
  have at0 := at_
  obtain ⟨D', es, e1, aD, oD, rnd, pr⟩ := at_
  obtain rfl := V.ref.inj e1
  have aDg := ar _ aD
  have oD1 := O.fr _ _ aDg.2.2 oD
  have lvl : ∀ b, H1 b = none → b ≠ l ∧ b ≠ ls ∧ b ≠ g := fun b n => by
    have h : H0 l ≠ none ∧ H0 ls ≠ none := lv.elim (fun S => by
      obtain ⟨⟨o, h1⟩, o', h2⟩ := S.some
      exact ⟨(by rw [h1]; exact fun z => by cases z), (by rw [h2]; exact fun z => by cases z)⟩) id
    refine ⟨fun z => ?_, fun z => ?_, fun z => by rw [z, O.o] at n; cases n⟩
    · cases e : H0 l with
      | none => exact h.1 e
      | some o => rw [z, O.fr l o (Ne.symm gl) e] at n; cases n
    · cases e : H0 ls with
      | none => exact h.2 e
      | some o => rw [z, O.fr ls o (Ne.symm gs) e] at n; cases n
  have goOn : ∀ H2 os2, OSt l ls g L rs 4 H0 H2 os2 → (∀ b, H2 b = none → H1 b = none) → t2 Dn σ H2 := fun H2 os2 O2 k => m2 l ls g D L rs Ar q H0 H2 os2 σ Dn O2 at0 ar lv gl gs qin lok ok few wd bok bne bp e2 e3 e4 e8 fun H' g' os' n1 h1 h2 h3 h4 => fin H' g' os' (k _ n1) h1 h2 h3 h4
  refine ⟨_, e3, D, es, rfl, oD1, _, _, rfl, rfl, ?_⟩
  by_cases c : (1 : Int) < (es.length : Nat)
  case neg => exact ⟨false, congrArg V.bl (decide_eq_false c), iteF (goOn H1 os (O.mono (by decide)) fun b z => z)⟩
  refine ⟨true, congrArg V.bl (decide_eq_true c), iteT ?_⟩
  refine ⟨_, e8, .inl ⟨rfl, os, .inl (.inl O.o)⟩, _, e2, _, e3, D, es, rfl, oD1, ?_⟩
  have c2 : 2 ≤ rs.length := by have : es.length = rs.length := Paired.length pr; omega
  refine fun H2 p ts s2 np nts pts op pt => ⟨p, _, rfl, .inl (.inl op), fun p' np' => ?_⟩
  have s3 := same_new (o := .lst (ts.map V.ref).reverse) np'
  have ndes : (es.map (·.1)).Nodup := by rw [dc_keys pr]; exact nd_inr rnd
  rw [← List.map_reverse]
  have s3 := same_new (o := .lst (ts.reverse.map V.ref)) np'
  refine ⟨p', ts.reverse, es.reverse, rfl, SqL.of upd_same, paired_rev (Paired.mapP pt fun t e h => SqT.of (s3 _ _ h)), fun d ndd => ?_⟩
  rw [merge_nd (by rw [List.map_reverse]; exact (List.reverse_perm _).nodup_iff.mpr ndes)]
  have sd := same_new (o := .dK es.reverse) ndd
  refine ⟨(by show 2 ≤ sizeLine; decide), fun t nt => ?_⟩
  have kt := same_new (o := .tup [.str L, .ref d]) nt
  have s13 : Same H1 _ := Same.trans s2 s3
  have s1d := s13.trans sd
  have s1t := s1d.trans kt
  have pt := lvl t (s1d.free nt)
  have pd := lvl d (s13.free ndd)
  have og := s1t _ _ O.o
  have od := kt _ _ (upd_same : upd _ d (.dK es.reverse) d = _)
  have prr : Paired (DcE (fun b => b ≠ l ∧ b ≠ ls ∧ b ≠ g) _) es.reverse rs.reverse := paired_rev (Paired.mapP pr fun e q h => ⟨h.1, PyD.kp h.2 fun b o a e => ⟨ar _ a, s1t _ _ (O.fr b o (ar _ a).2.2 e)⟩⟩)
  have O2 := O.add s1t (v := .ref t) ⟨t, d, L, rs.reverse, rfl, pt, upd_same, ⟨d, es.reverse, rfl, pd, od, by show (rs.reverse.map _).Nodup; rw [List.map_reverse]; exact (List.reverse_perm _).nodup_iff.mpr rnd, prr⟩, lok, ok.rev, fun _ => eqRs_rev rnd c2⟩
  have done := goOn _ _ O2 fun b z => by
    by_cases h : b = g
    · rw [h, upd_same] at z; cases z
    · rw [upd_ne h] at z; exact s1t.free z
  exact ⟨g, os, .ref t, rfl, rfl, og, (by have := O.few; rw [sizeLine_eq]; omega), done⟩
end
end L2.TB
/-! [one for one in states if one != x][:1] -/
namespace L2.TB
open PySem PySem.Spec PyProof.Rows
theorem lc_genON {J : It} {g : TG} {tt : TT} {te : TE} {vs : List Nat} {σ : L2.St} {H1 : Hp} {Q : Addr → Hp → Prop} (ys : List (Option V)) (short : ys.length < 1000000) (go : ∀ i H, Same H1 H → i < ys.length → J.go i H) (stop : ∀ H, Same H1 H → J.stop ys.length H)
    (turn : ∀ (i : Nat) (x : V) (o : Option V) (H H' : Hp) (C : V → Hp → Prop) (N : Hp → Prop), ys[i]? = some o → Same H1 H → J.yld i H x H' → (∀ y, o = some y → ∀ H4, Same H H4 → C y H4) → (o = none → ∀ H4, Same H H4 → N H4) →
      g x (wipe σ vs) H' fun σ2 H2 => wipe σ2 vs = wipe σ vs ∧ tt σ2 H2 fun b H3 => if b = true then te σ2 H3 C else N H3)
    (fin : ∀ H D, H1 D = none → H D = some (.lst (ys.filterMap id)) → Same H1 H → Q D H) : LcW J g tt te vs σ H1 Q := by
  intro D nD
  refine ⟨fun i m H => m = ys.length - i ∧ i ≤ ys.length ∧ H D = some (.lst ((ys.take i).filterMap id)) ∧ Same H1 H, ⟨_, rfl, Nat.zero_le _, upd_same, same_new nD⟩, ?_⟩
  rintro i m H ⟨rfl, le, oD, s1⟩
  by_cases lt : i < ys.length
  · refine .inr ⟨go i H s1 lt, fun H' => H' D = some (.lst ((ys.take (i + 1)).filterMap id)) ∧ Same H1 H', fun H' h => ⟨ys.length - (i + 1), by omega, rfl, lt, h⟩, fun x H' yl => ?_⟩
    have ey : ys[i]? = some ys[i] := List.getElem?_eq_getElem lt
    have et : ys.take (i + 1) = ys.take i ++ [ys[i]] := by rw [List.take_succ, ey]; rfl
    refine turn i x ys[i] H H' _ _ ey s1 yl (fun y e H4 s4 => ⟨_, s4 _ _ oD, ?_, ?_, ?_⟩) fun e H4 s4 => ⟨?_, s1.trans s4⟩
    · rw [sizeLine_eq]
      have := List.length_filterMap_le id (ys.take i)
      rw [List.length_take] at this
      omega
    · rw [upd_same, et, List.filterMap_append, e]; rfl
    · intro b u e'
      rw [upd_ne (ne_of_none e' nD)]
      exact s4 _ _ (s1 _ _ e')
    · rw [et, List.filterMap_append, e]
      simpa using s4 _ _ oD
  · obtain rfl : i = ys.length := by omega
    rw [List.take_length] at oD
    exact .inl ⟨stop H s1, fin H D nD oD s1⟩
theorem opt_listN {α : Type} (f : α → Bool) (g : α → V) : ∀ l : List α, (l.map fun y => if f y = true then some (g y) else none).filterMap id = (l.filter f).map g
  | [] => rfl
  | a :: l => by
    have ih := opt_listN f g l
    rw [List.map_cons, List.filter_cons]
    by_cases h : f a = true
    · rw [if_pos h, if_pos h, List.map_cons, ← ih]; rfl
    · rw [if_neg h, if_neg h, ← ih]; rfl
theorem cut_one (xs : List V) : cutV xs none (some 1) = xs.take 1 := by
  have e1 : HT.sIx xs.length 0 none = 0 := rfl
  have e2 : HT.sIx xs.length xs.length (some 1) = min 1 xs.length := by
    unfold HT.sIx
    simp only []
    rw [if_neg (show ¬ (1 : Int) < 0 by omega)]
    omega
  unfold cutV
  rw [e1, e2]
  simp only [List.drop_zero, Nat.sub_zero]
  by_cases h : 1 ≤ xs.length
  · rw [Nat.min_eq_left h]
  · rw [Nat.min_eq_right (by omega), List.take_length, List.take_of_length_le (by omega)]
/-- names other than x -/
def notX (ns : List Str) (x : Str) : List Str := ns.filter fun n => !decide (n = x)
theorem notX_in {ns : List Str} {x n : Str} (h : n ∈ notX ns x) : n ∈ ns ∧ n ≠ x := by
  unfold notX at h
  rw [List.mem_filter] at h
  exact ⟨h.1, fun z => by rw [z] at h; simp at h⟩
theorem lc_far {d : Addr} {oo : Obj} {es : List (Key × V)} {names : List Str} (x : Str) {j : Nat} {tt : TT} {σ : L2.St} {H1 : Hp} {Q : Addr → Hp → Prop} (ke : es.map (·.1) = names.map Sum.inr) (od : H1 d = some (.frz oo (.dK es))) (short : names.length < 1000)
    (turn : ∀ (n : Str) (H : Hp) (C : V → Hp → Prop) (N : Hp → Prop), n ∈ names → Same H1 H → (decide (n = x) = false → C (.str n) H) → (decide (n = x) = true → N H) → gName j (.str n) (wipe σ [j]) H fun σ2 H2 => wipe σ2 [j] = wipe σ [j] ∧ tt σ2 H2 fun b H3 => if b = true then tVar j σ2 H3 C else N H3)
    (fin : ∀ H D, H1 D = none → H D = some (.lst ((notX names x).map V.str)) → Same H1 H → Q D H) : LcW (Itk d oo es) (gName j) tt (tVar j) [j] σ H1 Q := by
  have len : es.length = names.length := by
    have z := congrArg List.length ke
    rwa [List.length_map, List.length_map] at z
  refine lc_genON (names.map fun n => if (!decide (n = x)) = true then some (V.str n) else none) (by rw [List.length_map]; omega) (fun i H' s lt => ⟨s _ _ od, by rw [List.length_map] at lt; omega⟩) (fun H' s => ⟨s _ _ od, by rw [List.length_map]; omega⟩) ?_ ?_
  · rintro i v o H2 H3 Cn Nn eo s2 ⟨rfl, k, w', ek, rfl⟩ yes no
    have e1 : (es.map (·.1))[i]? = some k := by rw [List.getElem?_map, ek]; rfl
    rw [ke, List.getElem?_map] at e1
    obtain ⟨n, en, rfl⟩ := Option.map_eq_some_iff.mp e1
    rw [List.getElem?_map, en] at eo
    obtain rfl := Option.some.inj eo
    refine turn n H3 Cn Nn (List.mem_of_getElem? en) s2 (fun z => yes _ (by show (if (!decide (n = x)) = true then some (V.str n) else none) = _; rw [z]; rfl) H3 (Same.refl _)) fun z => no (by show (if (!decide (n = x)) = true then some (V.str n) else none) = _; rw [z]; rfl) H3 (Same.refl _)
  · intro H2 D nD oD s2
    rw [opt_listN (fun n => !decide (n = x)) (fun n => V.str n)] at oD
    exact fin H2 D nD oD s2
end L2.TB
/-! _law_others: another way -/
namespace L2.TB
open PySem PySem.Spec PyProof.Rows
theorem OSt.same {l ls g : Addr} {L : Str} {rs : RsT} {n : Nat} {H0 H1 H2 : Hp} {os : List V} (h : OSt l ls g L rs n H0 H1 os) (s : Same H1 H2) : OSt l ls g L rs n H0 H2 os :=
  ⟨s _ _ h.o, h.few, fun v hv => (h.ok v hv).keep fun b o a e => ⟨a, s _ _ e⟩, fun b o nb e => s _ _ (h.fr b o nb e)⟩
theorem free_of {l ls g : Addr} {H0 H1 : Hp} (lv : H0 l ≠ none ∧ H0 ls ≠ none) (gl : g ≠ l) (gs : g ≠ ls) (fr : ∀ b o, b ≠ g → H0 b = some o → H1 b = some o) (og : H1 g ≠ none) {b : Addr} (n : H1 b = none) : b ≠ l ∧ b ≠ ls ∧ b ≠ g := by
  refine ⟨fun z => ?_, fun z => ?_, fun z => og (by rw [← z]; exact n)⟩
  · cases e : H0 l with
    | none => exact lv.1 e
    | some o => rw [z, fr l o (Ne.symm gl) e] at n; cases n
  · cases e : H0 ls with
    | none => exact lv.2 e
    | some o => rw [z, fr ls o (Ne.symm gs) e] at n; cases n
/-- what stands behind the drawn state -/
structure OB (l ls g D d m : Addr) (L : Str) (rs : RsT) (Ar : Addr → Prop) (q : Str × RdT) (st : Str × StT) (fs : List (Key × V)) (H0 : Hp) : Prop where
  at_ : PyD.at_ Ar H0 (.ref D) (Dc.mk rs)
  ar : ∀ b, Ar b → b ≠ l ∧ b ≠ ls ∧ b ≠ g
  lv : H0 l ≠ none ∧ H0 ls ≠ none
  gl : g ≠ l
  gs : g ≠ ls
  qin : q ∈ rs
  lok : LetOk L
  ok : RsOk L rs
  few : rs.length ≤ 10
  wd : ∀ q ∈ rs, ∀ c ∈ q.1.cps.toList, c ∈ wordL
  bok : LetOk (backX L)
  bne : 2 ≤ L.length → L ≠ backX L
  bp : (lets L).Perm (lets (backX L))
  ad : Ar d
  od : H0 d = some (.dK fs)
  pf : Paired (DcE Ar H0) fs q.2.2.l
  am : Ar m
  om : H0 m = some (.dK (dkT st.2.2.l))
  md : m ≠ d
  sin : st ∈ q.2.2.l
section
variable {P : Program} {w : World} {K : PySem.W.Frag} {mg : Str → Option Value} {base : Heap} {f fW : Addr} {fd fdW : FuncData}
theorem oth_way (FW : Fun K "_law_with" "_law_with" sWith fW fdW) (gW : mg "_law_with" = some (.ref fW)) (gN : mg "len" = none) (gDi : mg "dict" = none) (gL : mg "list" = none) (cdv : Value) (A : Around) (outer : List Env) (s : Shared) (H : Hp) (E : XK) (hr : Room 2 (cxOf CX0 P w K mg base NOt "_law_others" (defScope sOthers) f cdv A outer s H E).nox.A) :
    ∃ t, PSs (cxOf CX0 P w K mg base NOt "_law_others" (defScope sOthers) f cdv A outer s H E).nox ((defBody sOthers).drop 9) t ∧ ∀ (l ls g D d m : Addr) (L : Str) (rs : RsT) (Ar : Addr → Prop) (q : Str × RdT) (st : Str × StT) (fs : List (Key × V)) (H0 H1 : Hp) (os : List V) (s0 s1 s11 s12 s13 : Option V) (Dn : Ends), OSt l ls g L rs 2 H0 H1 os → OB l ls g D d m L rs Ar q st fs H0 →
      (∀ H' g' os', H1 g' = none → H' g' = some (.lst os') → os'.length ≤ 6 → (∀ v ∈ os', Oth L rs (fun b => b ≠ l ∧ b ≠ ls) H' v) → (∀ b o, b ≠ g → H0 b = some o → H' b = some o) → Dn.rt (.ref g') H') → t Dn [s0, s1, some (.str L), some (.ref D), some (.str q.1), some (.str q.2.1), some (.ref d), some (.str st.1), some (.ref g), some (.int st.2.1), some (.ref m), s11, s12, s13, none] H1 := by
  obtain ⟨t2, h2, m2⟩ := oth_rev FW gW gN gDi gL cdv A outer s H E hr
  have GW : FnOk P w K mg base CX0 1 fW fdW ["readers", "name", "reader"] spWith := ok_with FW gDi
  have bW := FW.binds (ps := ["readers", "name", "reader"]) fun _ _ _ _ _ _ us hl => match us, hl with | [_, _, _], _ => rfl
  have nd := scOthers.nd
  have hu := hu_of (hr.mono (show 1 ≤ 2 by decide))
  refine ⟨_, pss_cons (ps_for PassesOwn.never rfl (pi_list (pe_slice (r := rSlL K) sl_list (pe_lock (pe_lc (own := [("one", 14)]) (g := gName 14) rfl nd (pi_keys (pv 6)) (blkOk_by (N := NOt) (sc := defScope sOthers) (by decide +kernel)) (fun _ _ _ _ _ => pg_name (i := 14) nd rfl (Or.inl rfl)) (fun _ _ _ _ _ => pts_one (pt_cmpR op_ne (pv 14) (pe_dget hu (pv 10) (pe_ix ix_str (pv 2) pe_int (fun _ _ => rfl)) (fun _ _ => rfl)) rfl)) (fun _ _ _ _ _ => pv 14))) po_none (po_some pe_int))) (pg_name (i := 12) nd rfl (Or.inl rfl))
      (pss_cons (ps_par (i := 11) (j := 13) rfl nd rfl rfl (by decide) rfl rfl (pa_cons (pe_callTy call_dictD rfl gDi boot_dict' (pa_cons (pv 6) pa_nil)) (pa_cons (pe_callTy call_dictD rfl gDi boot_dict' (pa_cons (pv 10) pa_nil)) pa_nil)) (by rfl))
      (pss_cons (ps_dput hu (pv 13) (pe_ix ix_str (pv 2) pe_int (fun _ _ => rfl)) (pv 12) rfl)
      (pss_cons (ps_dput hu (pv 11) (pv 7) (pe_tup (pa_cons (pv 9) (pa_cons (pv 13) pa_nil))) rfl)
      (pss_one (ps_expr (pe_bm PySem.F.plainAttrs_list PySem.F.slot_list_append PySem.F.type_list_append mt_append (pv 8) (pa_cons (pe_tup (pa_cons (pv 2) (pa_cons (pe_call GW (hr.mono (by decide)) rfl gW FW.kp bW .nil pass0 (pa_cons (pv 3) (pa_cons (pv 4) (pa_cons (pe_tup (pa_cons (pv 5) (pa_cons (pv 11) pa_nil))) pa_nil)))) pa_nil))) pa_nil)))))))) h2, ?_⟩
  intro l ls g D d m L rs Ar q st fs H0 H1 os s0 s1 s11 s12 s13 Dn O B fin
  have kf : fs.map (·.1) = (q.2.2.l.map (·.1)).map Sum.inr := dc_keys B.pf
  have rok := B.ok.rd q B.qin
  obtain ⟨c, ec⟩ : ∃ c, L.cps.toList[0]? = some c := ⟨_, List.getElem?_eq_getElem (by rw [len_cps]; exact B.lok.l0)⟩
  have cl : one1 c ∈ lets L := List.mem_map_of_mem (List.mem_of_getElem? ec)
  obtain ⟨old, eold, oin⟩ := lk_in ((rok.mp st B.sin).mem_iff.mpr cl)
  have eval' : valV (dkT st.2.2.l) (Sum.inr (one1 c)) = some (.str old) := by rw [val_dkT, eold]; rfl
  have at0 : atI L.cps.toList 0 = some c := atI_nat (by exact ec)
  have l3 := B.lok.l3
  have len6 := rok.n6
  have od1 := O.fr _ _ (B.ar _ B.ad).2.2 B.od
  have om1 := O.fr _ _ (B.ar _ B.am).2.2 B.om
  refine ⟨d, _, od1, trivial, fun oo => ⟨_, rfl, d, oo, rfl, .inl ⟨fs, upd_same, lc_far (names := q.2.2.l.map (·.1)) old kf upd_same (by rw [List.length_map]; omega) ?_ ?_⟩⟩⟩
  · intro n H2 C N nin s2 yes no
    refine ⟨rfl, _, rfl, _, rfl, _, rfl, L, 0, c, rfl, rfl, (by rw [sizeLine_eq]; omega), at0, m, _, rfl, .inl ⟨_, Sum.inr (one1 c), .inl (s2 _ _ (by rw [upd_ne B.md]; exact om1)), rfl, eval'.symm⟩, rfl, ?_⟩
    have ed : decide (V.str n = V.str old) = decide (n = old) := decide_eq_decide.mpr ⟨fun h => V.str.inj h, fun h => congrArg V.str h⟩
    rw [ed]
    cases e : decide (n = old) with
    | false => exact ⟨true, rfl, iteT ⟨_, rfl, yes e⟩⟩
    | true => exact ⟨false, rfl, iteF (no e)⟩
  · intro H2 D' nD oD s2
    obtain ⟨b1, s12⟩ := lock_offN od1 s2
    have Dd : D' ≠ d := fun z => by rw [z, upd_same] at nD; cases nD
    have oD3 : upd H2 d (.dK fs) D' = _ := (upd_ne Dd).trans oD
    generalize upd H2 d (.dK fs) = H3 at s12 oD3
    refine ⟨b1, _, rfl, D', _, rfl, SqL.of oD3, fun p np => ?_⟩
    rw [cut_one]
    have kp := same_new (o := .lst (((notX (q.2.2.l.map (·.1)) old).map V.str).take 1)) np
    have op : upd H3 p (.lst (((notX (q.2.2.l.map (·.1)) old).map V.str).take 1)) p = _ := upd_same
    have s1p := s12.trans kp
    generalize upd H3 p (.lst (((notX (q.2.2.l.map (·.1)) old).map V.str).take 1)) = Hs at kp op s1p
    have ltk : (((notX (q.2.2.l.map (·.1)) old).map V.str).take 1).length ≤ 1 := by rw [List.length_take]; omega
    have Os := O.same s1p
    have pg : p ≠ g := fun z => by rw [z, s12 _ _ O.o] at np; cases np
    refine ⟨p, rfl, ⟨_, SqL.of op⟩, for_list (xs := ((notX (q.2.2.l.map (·.1)) old).map V.str).take 1) (fun i σ H' => (∃ os', OSt l ls g L rs (2 + i) H0 H' os') ∧ (∀ b o, b ≠ g → Hs b = some o → H' b = some o) ∧ (∀ b, H' b = none → Hs b = none) ∧ ∃ t11 t12 t13, σ = [s0, s1, some (.str L), some (.ref D), some (.str q.1), some (.str q.2.1), some (.ref d), some (.str st.1), some (.ref g), some (.int st.2.1), some (.ref m), t11, t12, t13, none])
      ⟨⟨os, Os⟩, fun _ _ _ e => e, fun _ e => e, _, _, _, rfl⟩ (fun i σ H' _ h => SqL.of (h.2.1 _ _ pg op)) ?_ ?_⟩
    · rintro i x σ' H' ex ⟨⟨os', O'⟩, kg, kn, t11, t12, t13, rfl⟩
      obtain ⟨far, ef, rfl⟩ : ∃ far, far ∈ notX (q.2.2.l.map (·.1)) old ∧ V.str far = x := List.mem_map.mp (List.mem_of_mem_take (List.mem_of_getElem? ex))
      have hi : i < 1 := Nat.lt_of_lt_of_le (List.getElem?_eq_some_iff.mp ex).1 ltk
      obtain ⟨fin1, fne⟩ := notX_in ef
      have up : ∀ b o, Ar b → H0 b = some o → H' b = some o := fun b o a e => O'.fr b o (B.ar _ a).2.2 e
      have fo : ∀ b, H' b = none → b ≠ l ∧ b ≠ ls ∧ b ≠ g := fun b n => free_of B.lv B.gl B.gs O'.fr (by rw [O'.o]; exact fun z => by cases z) n
      refine ⟨_, rfl, d, fs, rfl, .inl (up _ _ B.ad B.od), fun r1 nr1 => ?_⟩
      have k1 := same_new (o := .dK fs) nr1
      refine ⟨_, rfl, m, _, rfl, .inl (k1 _ _ (up _ _ B.am B.om)), fun w1 nw1 => ?_⟩
      have k2 := same_new (o := .dK (dkT st.2.2.l)) nw1
      have n1w : H' w1 = none := k1.free nw1
      have w1r : w1 ≠ r1 := fun z => by rw [z, upd_same] at nw1; cases nw1
      have or1 := k2 _ _ (upd_same : upd H' r1 (.dK fs) r1 = _)
      have ow1 : upd (upd H' r1 (.dK fs)) w1 (.dK (dkT st.2.2.l)) w1 = _ := upd_same
      have Sa := k1.trans k2
      generalize upd (upd H' r1 (.dK fs)) w1 (.dK (dkT st.2.2.l)) = Ha at or1 ow1 Sa
      have lfs : fs.length = q.2.2.l.length := Paired.length B.pf
      have l3' : (dkT st.2.2.l).length ≤ 3 := by
        rw [dkT_len]
        have z := (rok.mp st B.sin).length_eq
        rw [List.length_map] at z
        rw [z]
        exact B.lok.ll
      refine ⟨_, _, rfl, _, rfl, _, rfl, _, rfl, L, 0, c, rfl, rfl, (by rw [sizeLine_eq]; omega), at0, w1, _, rfl, DPut.k (k := Sum.inr (one1 c)) ow1 (by rw [sizeLine_eq]; omega), ?_⟩
      have Sb : Same H' (upd Ha w1 (.dK (putK (dkT st.2.2.l) (Sum.inr (one1 c)) (.str far)))) := fun b o e => by rw [upd_ne (ne_of_none e n1w)]; exact Sa _ _ e
      have or2 : upd Ha w1 (.dK (putK (dkT st.2.2.l) (Sum.inr (one1 c)) (.str far))) r1 = _ := (upd_ne w1r.symm).trans or1
      have ow2 : upd Ha w1 (.dK (putK (dkT st.2.2.l) (Sum.inr (one1 c)) (.str far))) w1 = _ := upd_same
      generalize upd Ha w1 (.dK (putK (dkT st.2.2.l) (Sum.inr (one1 c)) (.str far))) = Hb at Sb or2 ow2
      refine ⟨_, rfl, _, rfl, (by show 2 ≤ sizeLine; decide), fun t nt => ?_⟩
      have kt := same_new (o := .tup [.int st.2.1, .ref w1]) nt
      have ot : upd Hb t (.tup [.int st.2.1, .ref w1]) t = _ := upd_same
      have or3 := kt _ _ or2
      have ow3 := kt _ _ ow2
      have Sc := Sb.trans kt
      have n1t : H' t = none := Sb.free nt
      have tr : t ≠ r1 := fun z => by rw [z, or2] at nt; cases nt
      generalize upd Hb t (.tup [.int st.2.1, .ref w1]) = Hc at kt ot or3 ow3 Sc
      refine ⟨_, rfl, _, rfl, r1, _, rfl, DPut.k (k := Sum.inr st.1) or3 (by rw [sizeLine_eq]; omega), ?_⟩
      have Sd : Same H' (upd Hc r1 (.dK (putK fs (Sum.inr st.1) (.ref t)))) := fun b o e => by rw [upd_ne (ne_of_none e nr1)]; exact Sc _ _ e
      have or4 : upd Hc r1 (.dK (putK fs (Sum.inr st.1) (.ref t))) r1 = _ := upd_same
      have ow4 : upd Hc r1 (.dK (putK fs (Sum.inr st.1) (.ref t))) w1 = _ := (upd_ne w1r).trans ow3
      have ot4 : upd Hc r1 (.dK (putK fs (Sum.inr st.1) (.ref t))) t = _ := (upd_ne tr).trans ot
      generalize upd Hc r1 (.dK (putK fs (Sum.inr st.1) (.ref t))) = Hd at Sd or4 ow4 ot4
      refine ⟨_, rfl, .inl ⟨rfl, os', .inl (.inl (Sd _ _ O'.o))⟩, _, rfl, _, rfl, _, rfl, _, rfl, _, rfl, (by show 2 ≤ sizeLine; decide), fun t1 nt1 => ?_⟩
      have k5 := same_new (o := .tup [.str q.2.1, .ref r1]) nt1
      have ot1 : upd Hd t1 (.tup [.str q.2.1, .ref r1]) t1 = _ := upd_same
      have or5 := k5 _ _ or4
      have ow5 := k5 _ _ ow4
      have ot5 := k5 _ _ ot4
      have Se := Sd.trans k5
      have n1t1 : H' t1 = none := Sd.free nt1
      generalize upd Hd t1 (.tup [.str q.2.1, .ref r1]) = He at k5 ot1 or5 ow5 ot5 Se
      have kk : ∀ b o, Ar b → H0 b = some o → (b ≠ l ∧ b ≠ ls ∧ b ≠ g) ∧ He b = some o := fun b o a e => ⟨B.ar _ a, Se _ _ (up _ _ a e)⟩
      have sok : RdOk L (q.2.1, Dc.mk (putA q.2.2.l st.1 (st.2.1, Dc.mk (putA st.2.2.l (one1 c) far)))) := rok.put B.sin (rok.d0 st B.sin).1 (rok.d0 st B.sin).2 (by show ((putA st.2.2.l (one1 c) far).map (·.1)).Perm (lets L); rw [putA_keys]; exact rok.mp st B.sin) fun z hz => by
        rcases putA_mem (show z ∈ putA st.2.2.l (one1 c) far from hz) with h | ⟨h, _⟩
        · exact rok.mv st B.sin z h
        · rw [h]; exact fin1
      have ndm : (st.2.2.l.map (·.1)).Nodup := (rok.mp st B.sin).nodup_iff.mpr B.lok.lnd
      have atw : PyD.at_ (fun b => b ≠ l ∧ b ≠ ls ∧ b ≠ g) He (.ref w1) (Dc.mk (putA st.2.2.l (one1 c) far)) := ⟨w1, _, rfl, fo _ n1w, ow5, by show ((putA _ _ _).map _).Nodup; rw [putA_keys]; exact ndm, dcA_put (A := fun _ => False) (H := He) (txt_dk st.2.2.l) ((rok.mp st B.sin).mem_iff.mpr cl) rfl fun b o a e => a.elim⟩
      have att : PyD.at_ (fun b => b ≠ l ∧ b ≠ ls ∧ b ≠ g) He (.ref t) ((st.2.1, Dc.mk (putA st.2.2.l (one1 c) far)) : StT) := ⟨t, _, _, rfl, fo _ n1t, ot5, rfl, atw⟩
      have atr : PyD.at_ (fun b => b ≠ l ∧ b ≠ ls ∧ b ≠ g) He (.ref t1) ((q.2.1, Dc.mk (putA q.2.2.l st.1 (st.2.1, Dc.mk (putA st.2.2.l (one1 c) far)))) : RdT) := ⟨t1, _, _, rfl, fo _ n1t1, ot1, rfl, r1, _, rfl, fo _ nr1, or5, by show ((putA _ _ _).map _).Nodup; rw [putA_keys]; exact rok.nd, dcA_put B.pf (List.mem_map_of_mem B.sin) att kk⟩
      refine ⟨D, q.1, .ref t1, rs, _, _, rfl, PyD.kp B.at_ kk, atr, by have := B.few; omega, fun H6 p6 np6 atp k6 => ?_⟩
      refine ⟨(by show 2 ≤ sizeLine; decide), fun t2 nt2 => ?_⟩
      have k7 := same_new (o := .tup [.str L, .ref p6]) nt2
      have Sf := (Se.trans k6).trans k7
      have ot2 : upd H6 t2 (.tup [.str L, .ref p6]) t2 = _ := upd_same
      have atp := PyD.kp atp (A' := fun b => b ≠ l ∧ b ≠ ls ∧ b ≠ g) fun b o a e => ⟨a.elim (fun z => by rw [z]; exact fo _ (Se.free np6)) id, k7 _ _ e⟩
      have n1t2 : H' t2 = none := (Se.trans k6).free nt2
      generalize upd H6 t2 (.tup [.str L, .ref p6]) = Hf at k7 Sf ot2 atp
      have hv : Oth L rs (fun b => b ≠ l ∧ b ≠ ls ∧ b ≠ g) Hf (.ref t2) := ⟨t2, p6, L, _, rfl, fo _ n1t2, ot2, atp, B.lok, B.ok.put B.qin sok, fun _ => eqRs_put B.ok.nd B.qin (eqv_put rok.nd B.sin (eqv_move ndm eold fne))⟩
      have O2 := O'.add Sf hv
      refine ⟨g, os', .ref t2, rfl, rfl, Sf _ _ O'.o, (by have := O'.few; rw [sizeLine_eq]; omega), ⟨_, O2⟩, fun b o nb e => by rw [upd_ne nb]; exact Sf _ _ (kg _ _ nb e), fun b z => ?_, _, _, _, rfl⟩
      by_cases h : b = g
      · rw [h, upd_same] at z; cases z
      · rw [upd_ne h] at z; exact kn _ (Sf.free z)
    · rintro σ' H' ⟨⟨os', O'⟩, kg, kn, t11, t12, t13, rfl⟩
      obtain ⟨D2, es, e1, aD, oD, rnd, pr⟩ := B.at_
      exact m2 l ls g D L rs Ar q H0 H' os' _ Dn (O'.mono (by omega)) B.at_ B.ar (.inr B.lv) B.gl B.gs B.qin B.lok B.ok B.few B.wd B.bok B.bne B.bp rfl rfl rfl rfl fun H' g' os' n1 h1 h2 h3 h4 => fin H' g' os' (s1p.free (kn _ n1)) h1 h2 h3 h4
end
end L2.TB
/-! _law_others: another begin -/
namespace L2.TB
open PySem PySem.Spec PyProof.Rows
section
variable {P : Program} {w : World} {K : PySem.W.Frag} {mg : Str → Option Value} {base : Heap} {f fW : Addr} {fd fdW : FuncData}
theorem oth_beg (FW : Fun K "_law_with" "_law_with" sWith fW fdW) (gW : mg "_law_with" = some (.ref fW)) (gN : mg "len" = none) (gDi : mg "dict" = none) (gL : mg "list" = none) (cdv : Value) (A : Around) (outer : List Env) (s : Shared) (H : Hp) (E : XK) (hr : Room 2 (cxOf CX0 P w K mg base NOt "_law_others" (defScope sOthers) f cdv A outer s H E).nox.A) :
    ∃ t, PSs (cxOf CX0 P w K mg base NOt "_law_others" (defScope sOthers) f cdv A outer s H E).nox ((defBody sOthers).drop 8) t ∧ ∀ (l ls g D d m : Addr) (L : Str) (rs : RsT) (Ar : Addr → Prop) (q : Str × RdT) (st : Str × StT) (fs : List (Key × V)) (H0 H1 : Hp) (os : List V) (s0 s1 s11 s12 s13 : Option V) (Dn : Ends), OSt l ls g L rs 1 H0 H1 os → OB l ls g D d m L rs Ar q st fs H0 →
      (∀ H' g' os', H1 g' = none → H' g' = some (.lst os') → os'.length ≤ 6 → (∀ v ∈ os', Oth L rs (fun b => b ≠ l ∧ b ≠ ls) H' v) → (∀ b o, b ≠ g → H0 b = some o → H' b = some o) → Dn.rt (.ref g') H') → t Dn [s0, s1, some (.str L), some (.ref D), some (.str q.1), some (.str q.2.1), some (.ref d), some (.str st.1), some (.ref g), some (.int st.2.1), some (.ref m), s11, s12, s13, none] H1 := by
  obtain ⟨t2, h2, m2⟩ := oth_way FW gW gN gDi gL cdv A outer s H E hr
  have GW : FnOk P w K mg base CX0 1 fW fdW ["readers", "name", "reader"] spWith := ok_with FW gDi
  have bW := FW.binds (ps := ["readers", "name", "reader"]) fun _ _ _ _ _ _ us hl => match us, hl with | [_, _, _], _ => rfl
  have nd := scOthers.nd
  have hu := hu_of (hr.mono (show 1 ≤ 2 by decide))
  refine ⟨_, pss_cons (ps_for PassesOwn.never rfl (pi_list (pe_slice (r := rSlL K) sl_list (pe_lock (pe_lc (own := [("one", 14)]) (g := gName 14) rfl nd (pi_keys (pv 6)) (blkOk_by (N := NOt) (sc := defScope sOthers) (by decide +kernel)) (fun _ _ _ _ _ => pg_name (i := 14) nd rfl (Or.inl rfl)) (fun _ _ _ _ _ => pts_one (pt_cmpR op_ne (pv 14) (pv 5) rfl)) (fun _ _ _ _ _ => pv 14))) po_none (po_some pe_int))) (pg_name (i := 12) nd rfl (Or.inl rfl))
      (pss_one (ps_expr (pe_bm PySem.F.plainAttrs_list PySem.F.slot_list_append PySem.F.type_list_append mt_append (pv 8) (pa_cons (pe_tup (pa_cons (pv 2) (pa_cons (pe_call GW (hr.mono (by decide)) rfl gW FW.kp bW .nil pass0 (pa_cons (pv 3) (pa_cons (pv 4) (pa_cons (pe_tup (pa_cons (pv 12) (pa_cons (pv 6) pa_nil))) pa_nil)))) pa_nil))) pa_nil))))) h2, ?_⟩
  intro l ls g D d m L rs Ar q st fs H0 H1 os s0 s1 s11 s12 s13 Dn O B fin
  have kf : fs.map (·.1) = (q.2.2.l.map (·.1)).map Sum.inr := dc_keys B.pf
  have rok := B.ok.rd q B.qin
  have l3 := B.lok.l3
  have len6 := rok.n6
  have od1 := O.fr _ _ (B.ar _ B.ad).2.2 B.od
  refine ⟨d, _, od1, trivial, fun oo => ⟨_, rfl, d, oo, rfl, .inl ⟨fs, upd_same, lc_far (names := q.2.2.l.map (·.1)) q.2.1 kf upd_same (by rw [List.length_map]; omega) ?_ ?_⟩⟩⟩
  · intro n H2 C N nin s2 yes no
    refine ⟨rfl, _, rfl, _, rfl, rfl, ?_⟩
    have ed : decide (V.str n = V.str q.2.1) = decide (n = q.2.1) := decide_eq_decide.mpr ⟨fun h => V.str.inj h, fun h => congrArg V.str h⟩
    rw [ed]
    cases e : decide (n = q.2.1) with
    | false => exact ⟨true, rfl, iteT ⟨_, rfl, yes e⟩⟩
    | true => exact ⟨false, rfl, iteF (no e)⟩
  · intro H2 D' nD oD s2
    obtain ⟨b1, s12⟩ := lock_offN od1 s2
    have Dd : D' ≠ d := fun z => by rw [z, upd_same] at nD; cases nD
    have oD3 : upd H2 d (.dK fs) D' = _ := (upd_ne Dd).trans oD
    generalize upd H2 d (.dK fs) = H3 at s12 oD3
    refine ⟨b1, _, rfl, D', _, rfl, SqL.of oD3, fun p np => ?_⟩
    rw [cut_one]
    have kp := same_new (o := .lst (((notX (q.2.2.l.map (·.1)) q.2.1).map V.str).take 1)) np
    have op : upd H3 p (.lst (((notX (q.2.2.l.map (·.1)) q.2.1).map V.str).take 1)) p = _ := upd_same
    have s1p := s12.trans kp
    generalize upd H3 p (.lst (((notX (q.2.2.l.map (·.1)) q.2.1).map V.str).take 1)) = Hs at kp op s1p
    have ltk : (((notX (q.2.2.l.map (·.1)) q.2.1).map V.str).take 1).length ≤ 1 := by rw [List.length_take]; omega
    have Os := O.same s1p
    have pg : p ≠ g := fun z => by rw [z, s12 _ _ O.o] at np; cases np
    refine ⟨p, rfl, ⟨_, SqL.of op⟩, for_list (xs := ((notX (q.2.2.l.map (·.1)) q.2.1).map V.str).take 1) (fun i σ H' => (∃ os', OSt l ls g L rs (1 + i) H0 H' os') ∧ (∀ b o, b ≠ g → Hs b = some o → H' b = some o) ∧ (∀ b, H' b = none → Hs b = none) ∧ ∃ t11 t12 t13, σ = [s0, s1, some (.str L), some (.ref D), some (.str q.1), some (.str q.2.1), some (.ref d), some (.str st.1), some (.ref g), some (.int st.2.1), some (.ref m), t11, t12, t13, none])
      ⟨⟨os, Os⟩, fun _ _ _ e => e, fun _ e => e, _, _, _, rfl⟩ (fun i σ H' _ h => SqL.of (h.2.1 _ _ pg op)) ?_ ?_⟩
    · rintro i x σ' H' ex ⟨⟨os', O'⟩, kg, kn, t11, t12, t13, rfl⟩
      obtain ⟨far, ef, rfl⟩ : ∃ far, far ∈ notX (q.2.2.l.map (·.1)) q.2.1 ∧ V.str far = x := List.mem_map.mp (List.mem_of_mem_take (List.mem_of_getElem? ex))
      have hi : i < 1 := Nat.lt_of_lt_of_le (List.getElem?_eq_some_iff.mp ex).1 ltk
      obtain ⟨fin1, fne⟩ := notX_in ef
      have up : ∀ b o, Ar b → H0 b = some o → H' b = some o := fun b o a e => O'.fr b o (B.ar _ a).2.2 e
      have fo : ∀ b, H' b = none → b ≠ l ∧ b ≠ ls ∧ b ≠ g := fun b n => free_of B.lv B.gl B.gs O'.fr (by rw [O'.o]; exact fun z => by cases z) n
      refine ⟨_, rfl, .inl ⟨rfl, os', .inl (.inl O'.o)⟩, _, rfl, _, rfl, _, rfl, _, rfl, _, rfl, (by show 2 ≤ sizeLine; decide), fun t1 nt1 => ?_⟩
      have Se := same_new (o := .tup [.str far, .ref d]) nt1
      have ot1 : upd H' t1 (.tup [.str far, .ref d]) t1 = _ := upd_same
      generalize upd H' t1 (.tup [.str far, .ref d]) = He at ot1 Se
      have kk : ∀ b o, Ar b → H0 b = some o → (b ≠ l ∧ b ≠ ls ∧ b ≠ g) ∧ He b = some o := fun b o a e => ⟨B.ar _ a, Se _ _ (up _ _ a e)⟩
      have atr : PyD.at_ (fun b => b ≠ l ∧ b ≠ ls ∧ b ≠ g) He (.ref t1) ((far, q.2.2) : RdT) := ⟨t1, _, _, rfl, fo _ nt1, ot1, rfl, d, _, rfl, B.ar _ B.ad, (kk _ _ B.ad B.od).2, rok.nd, Paired.mapP B.pf fun e q h => ⟨h.1, PyD.kp h.2 kk⟩⟩
      refine ⟨D, q.1, .ref t1, rs, _, _, rfl, PyD.kp B.at_ kk, atr, by have := B.few; omega, fun H6 p6 np6 atp k6 => ?_⟩
      refine ⟨(by show 2 ≤ sizeLine; decide), fun t2 nt2 => ?_⟩
      have k7 := same_new (o := .tup [.str L, .ref p6]) nt2
      have Sf := (Se.trans k6).trans k7
      have ot2 : upd H6 t2 (.tup [.str L, .ref p6]) t2 = _ := upd_same
      have atp := PyD.kp atp (A' := fun b => b ≠ l ∧ b ≠ ls ∧ b ≠ g) fun b o a e => ⟨a.elim (fun z => by rw [z]; exact fo _ (Se.free np6)) id, k7 _ _ e⟩
      have n1t2 : H' t2 = none := (Se.trans k6).free nt2
      generalize upd H6 t2 (.tup [.str L, .ref p6]) = Hf at k7 Sf ot2 atp
      have hv : Oth L rs (fun b => b ≠ l ∧ b ≠ ls ∧ b ≠ g) Hf (.ref t2) := ⟨t2, p6, L, _, rfl, fo _ n1t2, ot2, atp, B.lok, B.ok.put B.qin (rok.begin fin1), fun _ => eqRs_put B.ok.nd B.qin (eqv_begin fne)⟩
      have O2 := O'.add Sf hv
      refine ⟨g, os', .ref t2, rfl, rfl, Sf _ _ O'.o, (by have := O'.few; rw [sizeLine_eq]; omega), ⟨_, O2⟩, fun b o nb e => by rw [upd_ne nb]; exact Sf _ _ (kg _ _ nb e), fun b z => ?_, _, _, _, rfl⟩
      by_cases h : b = g
      · rw [h, upd_same] at z; cases z
      · rw [upd_ne h] at z; exact kn _ (Sf.free z)
    · rintro σ' H' ⟨⟨os', O'⟩, kg, kn, t11, t12, t13, rfl⟩
      exact m2 l ls g D d m L rs Ar q st fs H0 H' os' s0 s1 t11 t12 t13 Dn (O'.mono (by omega)) B fun H' g' os' n1 h1 h2 h3 h4 => fin H' g' os' (s1p.free (kn _ n1)) h1 h2 h3 h4
end
end L2.TB
/-! _law_others whole -/
namespace L2.TB
open PySem PySem.Spec PyProof.Rows
def spOth : Sp := fun vs H Q _ => ∃ (l ls pl D : Addr) (L : Str) (rs : RsT) (Ar : Addr → Prop) (N : Int), vs = [.ref l, .ref pl] ∧ Strm H l ls N ∧ N ≤ 800000 ∧ H pl = some (.tup [.str L, .ref D]) ∧ PyD.at_ Ar H (.ref D) (Dc.mk rs) ∧ (∀ b, Ar b → b ≠ l ∧ b ≠ ls) ∧ Alph L ∧ RsOk L rs ∧ rs.length ≤ 10 ∧ (∀ q ∈ rs, ∀ c ∈ q.1.cps.toList, c ∈ wordL) ∧
  ∀ H' g os, H g = none → g ≠ l → g ≠ ls → H' g = some (.lst os) → os.length ≤ 6 → (∀ v ∈ os, Oth L rs (fun b => b ≠ l ∧ b ≠ ls) H' v) → Strm H' l ls (N + 2) → But l ls H H' → Q (.ref g) H'
theorem strm_kept {H H' : Hp} {l ls g : Addr} {N : Int} (h : Strm H l ls N) (gl : g ≠ l) (gs : g ≠ ls) (s : ∀ b o, b ≠ g → H b = some o → H' b = some o) : Strm H' l ls N := by
  obtain ⟨cs, x, k, m, S⟩ := h
  exact ⟨cs, x, k, m, s _ _ (Ne.symm gl) S.o, s _ _ (Ne.symm gs) S.c, S.ne, S.g0, S.k0, S.k1, S.m0, S.m1, S.sz⟩
section
variable {P : Program} {w : World} {K : PySem.W.Frag} {mg : Str → Option Value} {base : Heap} {f fD fP fW : Addr} {fd fdD fdP fdW : FuncData}
theorem ok_others (F : Fun K "_law_others" "_law_others" sOthers f fd) (FD : Fun K "_law_draw" "_law_draw" sDraw fD fdD) (gD : mg "_law_draw" = some (.ref fD)) (FP : Fun K "_law_pick" "_law_pick" sPick fP fdP) (gP : mg "_law_pick" = some (.ref fP)) (FW : Fun K "_law_with" "_law_with" sWith fW fdW) (gW : mg "_law_with" = some (.ref fW))
    (gI : mg "int" = none) (gN : mg "len" = none) (gDi : mg "dict" = none) (gL : mg "list" = none) : FnOk P w K mg base CX0 3 f fd ["stream", "plan"] spOth := by
  have GP : FnOk P w K mg base CX0 2 fP fdP ["stream", "some"] (spPick K) := ok_pick FP FD gD gI gN
  have bP := FP.binds (ps := ["stream", "some"]) fun _ _ _ _ _ _ us hl => match us, hl with | [_, _], _ => rfl
  have GW : FnOk P w K mg base CX0 1 fW fdW ["readers", "name", "reader"] spWith := ok_with FW gDi
  have bW := FW.binds (ps := ["readers", "name", "reader"]) fun _ _ _ _ _ _ us hl => match us, hl with | [_, _, _], _ => rfl
  refine F.ok scOthers (fun vs H Q E h => by obtain ⟨l, ls, pl, D, L, rs, Ar, N, e, _⟩ := h; rw [e]; rfl) fun cdv A outer s H vs Q E hr hsp => ?_
  obtain ⟨l, ls, pl, D, L, rs, Ar0, N, rfl, S, hN, opl, at_, ar0, al, ok, few, wd, hq⟩ := hsp
  obtain ⟨Ar, at_, ar, live⟩ : ∃ Ar : Addr → Prop, PyD.at_ Ar H (.ref D) (Dc.mk rs) ∧ (∀ b, Ar b → b ≠ l ∧ b ≠ ls) ∧ ∀ b, Ar b → H b ≠ none := ⟨fun b => Ar0 b ∧ H b ≠ none, PyD.kp at_ fun b o a e => ⟨⟨a, by rw [e]; exact fun z => by cases z⟩, e⟩, fun b a => ar0 b a.1, fun b a => a.2⟩
  have hr2 := hr
  obtain ⟨t2, h2, m2⟩ := oth_beg FW gW gN gDi gL cdv A outer s H E hr2
  have nd := scOthers.nd
  have hu := hu_of (hr.mono (show 1 ≤ 2 by decide))
  refine ⟨_, pss_cons (ps_asg (pv 1) (pg_tup (n := 2) rfl (pgs_cons (pg_name (i := 2) nd rfl (Or.inr rfl)) (pgs_cons (pg_name (i := 3) nd rfl (Or.inl rfl)) pgs_nil))))
    (pss_cons (ps_set (i := 4) nd rfl (Or.inl rfl) (pe_call GP hr2 rfl gP FP.kp bP .nil pass0 (pa_cons (pv 0) (pa_cons (pe_callTy (call_listD rfl) rfl gL boot_list' (pa_cons (pv 3) pa_nil)) pa_nil))))
    (pss_cons (ps_asg (pe_dget hu (pv 3) (pv 4) (fun _ _ => rfl)) (pg_tup (n := 2) rfl (pgs_cons (pg_name (i := 5) nd rfl (Or.inr rfl)) (pgs_cons (pg_name (i := 6) nd rfl (Or.inl rfl)) pgs_nil))))
    (pss_cons (ps_par (i := 7) (j := 8) rfl nd rfl rfl (by decide) rfl rfl (pa_cons (pe_call GP hr2 rfl gP FP.kp bP .nil pass0 (pa_cons (pv 0) (pa_cons (pe_callTy (call_listD rfl) rfl gL boot_list' (pa_cons (pv 6) pa_nil)) pa_nil))) (pa_cons (pe_lst pa_nil) pa_nil)) (by rfl))
    (pss_cons (ps_asg (pe_dget hu (pv 6) (pv 7) (fun _ _ => rfl)) (pg_tup (n := 2) rfl (pgs_cons (pg_name (i := 9) nd rfl (Or.inl rfl)) (pgs_cons (pg_name (i := 10) nd rfl (Or.inr rfl)) pgs_nil))))
    (pss_cons (ps_set (i := 11) nd rfl (Or.inl rfl) (pe_callTy call_dictD rfl gDi boot_dict' (pa_cons (pv 6) pa_nil)))
    (pss_cons (ps_dput hu (pv 11) (pv 7) (pe_tup (pa_cons (pe_op op_mod (pe_op op_add (pv 9) pe_int) pe_int) (pa_cons (pv 10) pa_nil))) rfl)
    (pss_cons (ps_expr (pe_bm PySem.F.plainAttrs_list PySem.F.slot_list_append PySem.F.type_list_append mt_append (pv 8) (pa_cons (pe_tup (pa_cons (pv 2) (pa_cons (pe_call GW (hr2.mono (by decide)) rfl gW FW.kp bW .nil pass0 (pa_cons (pv 3) (pa_cons (pv 4) (pa_cons (pe_tup (pa_cons (pv 5) (pa_cons (pv 11) pa_nil))) pa_nil)))) pa_nil))) pa_nil))) h2))))))), ?_⟩
  have at0 := at_
  obtain ⟨D', es, e1, aD, oD, rnd, pr⟩ := at_
  obtain rfl := V.ref.inj e1
  have les : es.length = rs.length := Paired.length pr
  have n0 := ok.n0
  have kes : (es.map fun kv => kV kv.1) = (rs.map (·.1)).map V.str := keys_L pr
  refine ⟨_, rfl, pl, _, rfl, SqT.of opl, rfl, _, _, rfl, _, _, rfl, rfl, ?_⟩
  refine ⟨_, rfl, _, rfl, D, es, rfl, .inl oD, fun x1 nx1 => ?_⟩
  have k1 := same_new (o := .lst (es.map fun kv => kV kv.1)) nx1
  have a1 := S.apart (Same.refl _) nx1
  refine ⟨l, ls, x1, _, N, rfl, S.same k1, by omega, a1.1, a1.2, upd_same, by rw [List.length_map]; omega, by rw [List.length_map]; omega, fun H2 y yin S2 B2 => ?_⟩
  rw [kes] at yin
  obtain ⟨n, nin, rfl⟩ := List.mem_map.mp yin
  obtain ⟨q, qin, rfl⟩ := List.mem_map.mp nin
  have BH2 : But l ls H H2 := (But.of k1).trans B2
  have lowB : ∀ b, H2 b = none → H b = none := fun b n => by
    have ap := S2.apart (Same.refl _) n
    cases e : H b with
    | none => rfl
    | some o => rw [BH2 _ _ ap.1 ap.2 e] at n; cases n
  generalize upd H x1 (.lst (es.map fun kv => kV kv.1)) = Hx at k1 B2
  have up2 : ∀ b o, Ar b → H b = some o → H2 b = some o := fun b o a e => BH2 _ _ (ar _ a).1 (ar _ a).2 e
  obtain ⟨v, ev, atv⟩ := rs_val pr rnd qin
  obtain ⟨a, x, y, rfl, aa, oa, hx, d, fs, hy, ad, od, fnd, pf⟩ := atv
  have hx : x = .str q.2.1 := hx
  have hy : y = .ref d := hy
  subst hx hy
  have rok := ok.rd q qin
  refine ⟨_, rfl, _, rfl, D, _, rfl, .inl ⟨es, Sum.inr q.1, .inl (up2 _ _ aD oD), rfl, ev.symm⟩, a, _, rfl, SqT.of (up2 _ _ aa oa), rfl, _, _, rfl, _, _, rfl, rfl, ?_⟩
  have lfs : fs.length = q.2.2.l.length := Paired.length pf
  have m0 := rok.n0
  have m6 := rok.n6
  have kfs : (fs.map fun kv => kV kv.1) = (q.2.2.l.map (·.1)).map V.str := keys_L pf
  refine ⟨_, rfl, _, rfl, d, fs, rfl, .inl (up2 _ _ ad od), fun x2 nx2 => ?_⟩
  have k3 := same_new (o := .lst (fs.map fun kv => kV kv.1)) nx2
  have a3 := S2.apart (Same.refl _) nx2
  refine ⟨l, ls, x2, _, N + 1, rfl, S2.same k3, by omega, a3.1, a3.2, upd_same, by rw [List.length_map]; omega, by rw [List.length_map]; omega, fun H4 y yin S4 B4 => ?_⟩
  rw [kfs] at yin
  obtain ⟨sn, nin2, rfl⟩ := List.mem_map.mp yin
  obtain ⟨st, sin, rfl⟩ := List.mem_map.mp nin2
  have B24 : But l ls H2 H4 := (But.of k3).trans B4
  have BH4 := BH2.trans B24
  have lowC : ∀ b, H4 b = none → H b = none := fun b n => by
    have ap := S4.apart (Same.refl _) n
    cases e : H b with
    | none => rfl
    | some o => rw [BH4 _ _ ap.1 ap.2 e] at n; cases n
  generalize upd H2 x2 (.lst (fs.map fun kv => kV kv.1)) = Hy at k3 B4
  refine ⟨Nat.zero_le _, fun g ng => ?_⟩
  have ag := S4.apart (Same.refl _) ng
  have kg := same_new (o := .lst []) ng
  have og : upd H4 g (.lst []) g = some (.lst []) := upd_same
  have S5 := S4.same kg
  have B5 : But l ls H (upd H4 g (.lst [])) := BH4.trans (.of kg)
  have low5 : ∀ b, upd H4 g (.lst []) b = none → H b = none := fun b n => lowC _ (kg.free n)
  have ngH := lowC _ ng
  have gA : ∀ b, Ar b → b ≠ g := fun b a z => live b a (by rw [z]; exact ngH)
  generalize upd H4 g (.lst []) = H5 at kg og S5 B5 low5
  refine ⟨_, _, rfl, ?_⟩
  have up5 : ∀ b o, Ar b → H b = some o → H5 b = some o := fun b o a e => B5 _ _ (ar _ a).1 (ar _ a).2 e
  obtain ⟨vs, evs, atvs⟩ := val_at pf (lk_mem fnd sin)
  obtain ⟨p, x, y, rfl, ap, op, hx, m, ms, hy, am, om, mnd, pm⟩ := atvs
  have hx : x = .int st.2.1 := hx
  have hy : y = .ref m := hy
  have em := dk_txt pm
  subst hx hy em
  refine ⟨_, rfl, _, rfl, d, _, rfl, .inl ⟨fs, Sum.inr st.1, .inl (up5 _ _ ad od), rfl, evs.symm⟩, p, _, rfl, SqT.of (up5 _ _ ap op), rfl, _, _, rfl, _, _, rfl, rfl, ?_⟩
  refine ⟨_, rfl, d, fs, rfl, .inl (up5 _ _ ad od), fun r1 nr1 => ?_⟩
  have k6 := same_new (o := .dK fs) nr1
  have or1 : upd H5 r1 (.dK fs) r1 = some (.dK fs) := upd_same
  generalize upd H5 r1 (.dK fs) = H6 at k6 or1
  refine ⟨_, rfl, _, _, rfl, rfl, _, _, rfl, rfl, (by show (0 : Int) < 10; decide), _, rfl, (by show 2 ≤ sizeLine; decide), fun t nt => ?_⟩
  have kt := same_new (o := .tup [.int ((st.2.1 + 1) % 10), .ref m]) nt
  have ot : upd H6 t (.tup [.int ((st.2.1 + 1) % 10), .ref m]) t = _ := upd_same
  have or2 := kt _ _ or1
  have tr : t ≠ r1 := fun z => by rw [z, or1] at nt; cases nt
  have n5t := k6.free nt
  have S7 := k6.trans kt
  generalize upd H6 t (.tup [.int ((st.2.1 + 1) % 10), .ref m]) = H7 at kt ot or2 S7
  refine ⟨_, rfl, _, rfl, r1, _, rfl, DPut.k (k := Sum.inr st.1) or2 (by rw [sizeLine_eq]; omega), ?_⟩
  have S8 : Same H5 (upd H7 r1 (.dK (putK fs (Sum.inr st.1) (.ref t)))) := fun b o e => by rw [upd_ne (ne_of_none e nr1)]; exact S7 _ _ e
  have or3 : upd H7 r1 (.dK (putK fs (Sum.inr st.1) (.ref t))) r1 = _ := upd_same
  have ot3 : upd H7 r1 (.dK (putK fs (Sum.inr st.1) (.ref t))) t = _ := (upd_ne tr).trans ot
  generalize upd H7 r1 (.dK (putK fs (Sum.inr st.1) (.ref t))) = H8 at S8 or3 ot3
  have md : m ≠ d := fun z => by
    have o2 := up5 _ _ am om
    rw [z, up5 _ _ ad od] at o2
    have e := HO.dK.inj (Option.some.inj o2)
    have h0 : fs[0]'(by omega) ∈ fs := List.getElem_mem _
    obtain ⟨b0, _, _, p0, m0, e0, _⟩ := paired_mem (Paired.mapP pf fun e q h => at_stG (K := K) h) h0
    have h1 : fs[0]'(by omega) ∈ dkT st.2.2.l := by rw [← e]; exact h0
    unfold dkT at h1
    obtain ⟨z1, _, ez⟩ := List.mem_map.mp h1
    rw [← ez] at e0
    cases e0
  have B0 : OB l ls g D d m L rs Ar q st fs H5 := ⟨PyD.kp at0 (A' := Ar) fun b o a e => ⟨a, up5 _ _ a e⟩, fun b a => ⟨(ar _ a).1, (ar _ a).2, gA _ a⟩, (by
    obtain ⟨⟨o, h1⟩, o', h2⟩ := S5.some
    exact ⟨(by rw [h1]; exact fun z => by cases z), (by rw [h2]; exact fun z => by cases z)⟩), ag.1, ag.2, qin, al.ok, ok, few, wd, al.back, al.ne, al.pm, ad, up5 _ _ ad od, Paired.mapP pf fun e q h => ⟨h.1, PyD.kp h.2 fun b o a e => ⟨a, up5 _ _ a e⟩⟩, am, up5 _ _ am om, md, sin⟩
  have fo : ∀ b, H5 b = none → b ≠ l ∧ b ≠ ls ∧ b ≠ g := fun b n => free_of B0.lv B0.gl B0.gs (fun _ _ _ e => e) (by rw [og]; exact fun z => by cases z) n
  refine ⟨_, rfl, .inl ⟨rfl, [], .inl (.inl (S8 _ _ og))⟩, _, rfl, _, rfl, _, rfl, _, rfl, _, rfl, (by show 2 ≤ sizeLine; decide), fun t1 nt1 => ?_⟩
  have k9 := same_new (o := .tup [.str q.2.1, .ref r1]) nt1
  have ot1 : upd H8 t1 (.tup [.str q.2.1, .ref r1]) t1 = _ := upd_same
  have or4 := k9 _ _ or3
  have ot4 := k9 _ _ ot3
  have Se := S8.trans k9
  have n5t1 : H5 t1 = none := S8.free nt1
  generalize upd H8 t1 (.tup [.str q.2.1, .ref r1]) = He at k9 ot1 or4 ot4 Se
  obtain ⟨dn, d0, d9⟩ := digit_ne (rok.d0 st sin).1 (rok.d0 st sin).2
  have kk : ∀ b o, Ar b → H5 b = some o → (b ≠ l ∧ b ≠ ls ∧ b ≠ g) ∧ He b = some o := fun b o a e => ⟨B0.ar _ a, Se _ _ e⟩
  have sok : RdOk L (q.2.1, Dc.mk (putA q.2.2.l st.1 ((st.2.1 + 1) % 10, st.2.2))) := rok.put sin d0 d9 (rok.mp st sin) (rok.mv st sin)
  have att : PyD.at_ (fun b => b ≠ l ∧ b ≠ ls ∧ b ≠ g) He (.ref t) (((st.2.1 + 1) % 10, st.2.2) : StT) := ⟨t, _, _, rfl, fo _ n5t, ot4, rfl, m, _, rfl, B0.ar _ am, (kk _ _ am B0.om).2, mnd, txt_dk _⟩
  have atr : PyD.at_ (fun b => b ≠ l ∧ b ≠ ls ∧ b ≠ g) He (.ref t1) ((q.2.1, Dc.mk (putA q.2.2.l st.1 ((st.2.1 + 1) % 10, st.2.2))) : RdT) := ⟨t1, _, _, rfl, fo _ n5t1, ot1, rfl, r1, _, rfl, fo _ nr1, or4, by show ((putA _ _ _).map _).Nodup; rw [putA_keys]; exact rok.nd, dcA_put B0.pf (List.mem_map_of_mem sin) att kk⟩
  refine ⟨D, q.1, .ref t1, rs, _, _, rfl, PyD.kp B0.at_ kk, atr, by omega, fun H10 p10 np10 atp k10 => ?_⟩
  refine ⟨(by show 2 ≤ sizeLine; decide), fun t2 nt2 => ?_⟩
  have k11 := same_new (o := .tup [.str L, .ref p10]) nt2
  have Sf := (Se.trans k10).trans k11
  have ot2 : upd H10 t2 (.tup [.str L, .ref p10]) t2 = _ := upd_same
  have atp := PyD.kp atp (A' := fun b => b ≠ l ∧ b ≠ ls ∧ b ≠ g) fun b o a e => ⟨a.elim (fun z => by rw [z]; exact fo _ (Se.free np10)) id, k11 _ _ e⟩
  have n5t2 : H5 t2 = none := (Se.trans k10).free nt2
  generalize upd H10 t2 (.tup [.str L, .ref p10]) = Hf at k11 Sf ot2 atp
  have hv : Oth L rs (fun b => b ≠ l ∧ b ≠ ls ∧ b ≠ g) Hf (.ref t2) := ⟨t2, p10, L, _, rfl, fo _ n5t2, ot2, atp, al.ok, ok.put qin sok, fun _ => eqRs_put ok.nd qin (eqv_put rok.nd sin (eqv_digit dn))⟩
  have O0 : OSt l ls g L rs 0 H5 H5 [] := ⟨og, Nat.le_refl _, fun v h => by (cases h), fun _ _ _ e => e⟩
  have O1 := O0.add Sf hv
  have low9 : ∀ b, upd Hf g (.lst ([] ++ [.ref t2])) b = none → H5 b = none := fun b z => by
    by_cases h : b = g
    · rw [h, upd_same] at z; cases z
    · rw [upd_ne h] at z; exact Sf.free z
  refine ⟨g, [], .ref t2, rfl, rfl, Sf _ _ og, (by rw [sizeLine_eq]; show 0 < _; omega), ?_⟩
  refine m2 l ls g D d m L rs Ar q st fs H5 _ _ _ _ _ _ _ _ O1 B0 fun H' g' os' n1 h1 h2 h3 h4 => ?_
  have n5 := low9 _ n1
  have ag' := fo _ n5
  refine hq H' g' os' (low5 _ n5) ag'.1 ag'.2.1 h1 h2 h3 ?_ fun b o b1 b2 e => h4 _ _ (fun z => by rw [z, ngH] at e; cases e) (B5 _ _ b1 b2 e)
  have S9 := strm_kept S5 ag.1 ag.2 h4
  have e : N + 1 + 1 = N + 2 := by omega
  rw [e] at S9
  exact S9
end
end L2.TB
/-! the law: what it knows -/
namespace L2.TB
open PySem PySem.Spec PyProof.Rows
structure LawL (P : Program) (w : World) (K : PySem.W.Frag) (mg : Str → Option Value) (base : Heap) (C fI : Addr) : Prop where
  S : MaC K C
  gC : mg "Machines" = some (.ref C)
  made : Mk K C fI
  sf : PySem.W.selfFirst K C = true
  ne : PySem.W.findIn K (.ref C) "__ne__" = some (some (.builtin "object.__ne__"))
  ob : PySem.W.mroIn K C (.type "object") = some true
  far : ∀ t ∈ ["NoneType", "int", "dict", "str"], PySem.W.notFirst K C (.type t) = true ∧ PySem.W.kitOne K (.type t) (.ref C) = some false
  init : ∃ fd, Binds K fd ["self", "letters", "readers"] [] ∧ FnOk P w K mg base CX0 5 fI fd ["self", "letters", "readers"] (spMInit K C)
  eq : ∃ f fd, Meth K C "__eq__" f ∧ Binds K fd ["self", "other"] [] ∧ FnOk P w K mg base CX0 1 f fd ["self", "other"] (spMEq C) ∧ FnOk P w K mg base CX0 1 f fd ["self", "other"] (spMEqO K C)
  or_ : ∃ f fd, Meth K C "__or__" f ∧ Binds K fd ["self", "other"] [] ∧ FnOk P w K mg base CX0 7 f fd ["self", "other"] (spMOr C)
  only : ∃ f fd, Meth K C "only" f ∧ Binds K fd ["self", "names"] [] ∧ FnOk P w K mg base CX0 7 f fd ["self", "names"] (spMOnly K C)
  start : ∃ f fd, mg "_law_start" = some (.ref f) ∧ PySem.W.keepIn K (.ref f) = true ∧ Binds K fd ["script"] [] ∧ FnOk P w K mg base CX0 1 f fd ["script"] (spStart K)
  draw : ∃ f fd, mg "_law_draw" = some (.ref f) ∧ PySem.W.keepIn K (.ref f) = true ∧ Binds K fd ["stream", "many"] [] ∧ FnOk P w K mg base CX0 1 f fd ["stream", "many"] spDraw
  pick : ∃ f fd, mg "_law_pick" = some (.ref f) ∧ PySem.W.keepIn K (.ref f) = true ∧ Binds K fd ["stream", "some"] [] ∧ FnOk P w K mg base CX0 2 f fd ["stream", "some"] (spPick K)
  mixed : ∃ f fd, mg "_law_mixed" = some (.ref f) ∧ PySem.W.keepIn K (.ref f) = true ∧ Binds K fd ["stream", "some"] [] ∧ FnOk P w K mg base CX0 2 f fd ["stream", "some"] (spMixed K)
  names : ∃ f fd, mg "_law_names" = some (.ref f) ∧ PySem.W.keepIn K (.ref f) = true ∧ Binds K fd ["stream", "many"] [] ∧ FnOk P w K mg base CX0 4 f fd ["stream", "many"] spNames
  reader : ∃ f fd, mg "_law_m_reader" = some (.ref f) ∧ PySem.W.keepIn K (.ref f) = true ∧ Binds K fd ["stream", "letters", "most", "digits"] [] ∧ FnOk P w K mg base CX0 5 f fd ["stream", "letters", "most", "digits"] spReaderL
  turned : ∃ f fd, mg "_law_turned" = some (.ref f) ∧ PySem.W.keepIn K (.ref f) = true ∧ Binds K fd ["stream", "readers"] [] ∧ FnOk P w K mg base CX0 3 f fd ["stream", "readers"] spTurned
  handed : ∃ f fd, mg "_law_handed" = some (.ref f) ∧ PySem.W.keepIn K (.ref f) = true ∧ Binds K fd ["stream", "readers"] [] ∧ FnOk P w K mg base CX0 3 f fd ["stream", "readers"] (spHanded K)
  spoil : ∃ f fd, mg "_law_spoil" = some (.ref f) ∧ PySem.W.keepIn K (.ref f) = true ∧ Binds K fd ["handed"] [] ∧ FnOk P w K mg base CX0 1 f fd ["handed"] (spSpoil K)
  tells : ∃ f fd, mg "_law_tells" = some (.ref f) ∧ PySem.W.keepIn K (.ref f) = true ∧ Binds K fd ["stream", "field", "plan"] [] ∧ FnOk P w K mg base CX0 4 f fd ["stream", "field", "plan"] (spTells C)
  others : ∃ f fd, mg "_law_others" = some (.ref f) ∧ PySem.W.keepIn K (.ref f) = true ∧ Binds K fd ["stream", "plan"] [] ∧ FnOk P w K mg base CX0 3 f fd ["stream", "plan"] spOth
  part : ∃ f fd, mg "_law_part" = some (.ref f) ∧ PySem.W.keepIn K (.ref f) = true ∧ Binds K fd ["readers", "names"] [] ∧ FnOk P w K mg base CX0 1 f fd ["readers", "names"] spPart
  nDi : mg "dict" = none
  nL : mg "list" = none
  nT : mg "tuple" = none
  nY : mg "any" = none
  nR : mg "range" = none
  nN : mg "len" = none
abbrev NLw : List Str := ["script", "stream", "turn", "letters", "readers", "names", "name", "plan", "handed", "field", "far", "both", "less", "thing", "other", "letter"]
theorem scLaw : FnScope NLw ["script"] (defScope sLaw) := ⟨rfl, rfl, rfl, by decide +kernel, rfl, by decide +kernel, by decide +kernel⟩
def forB : Stmt → List Stmt
  | .For _ _ b _ _ => b
  | _ => []
abbrev bodyT : List Stmt := forB ((defBody sLaw).getD 1 (.Pass ⟨0, 0, 0, 0⟩))
/-- the drawn readers -/
structure DrwA (l ls D : Addr) (L : Str) (rs : RsT) (N : Int) (H : Hp) : Prop where
  S : Strm H l ls N
  hD : PyD.at_ (fun b => b ≠ l ∧ b ≠ ls) H (.ref D) (Dc.mk rs)
  al : Alph L
  ok : RsOk L rs
  few : rs.length ≤ 10
  wd : ∀ q ∈ rs, ∀ c ∈ q.1.cps.toList, c ∈ wordL
theorem DrwA.but {l ls D : Addr} {L : Str} {rs : RsT} {N N' : Int} {H H' : Hp} (h : DrwA l ls D L rs N H) (B : But l ls H H') (S : Strm H' l ls N') : DrwA l ls D L rs N' H' :=
  ⟨S, PyD.kp h.hD fun b o a e => ⟨a, B _ _ a.1 a.2 e⟩, h.al, h.ok, h.few, h.wd⟩
/-- with the plan and the field that is made of them -/
structure TSt (C l ls D pl x : Addr) (L : Str) (rs : RsT) (N : Int) (H : Hp) : Prop where
  d : DrwA l ls D L rs N H
  hp : H pl = some (.tup [.str L, .ref D]) ∧ pl ≠ l ∧ pl ≠ ls
  hx : MachA (fun b => b ≠ l ∧ b ≠ ls ∧ b ≠ D) H C x L rs ∧ x ≠ l ∧ x ≠ ls
theorem TSt.but {C l ls D pl x : Addr} {L : Str} {rs : RsT} {N N' : Int} {H H' : Hp} (h : TSt C l ls D pl x L rs N H) (B : But l ls H H') (S : Strm H' l ls N') : TSt C l ls D pl x L rs N' H' :=
  ⟨h.d.but B S, ⟨B _ _ h.hp.2.1 h.hp.2.2 h.hp.1, h.hp.2⟩, ⟨h.hx.1.keep (fun o e => B _ _ h.hx.2.1 h.hx.2.2 e) fun b o a e => ⟨a, B _ _ a.1 a.2.1 e⟩, h.hx.2⟩⟩
theorem TSt.same {C l ls D pl x : Addr} {L : Str} {rs : RsT} {N : Int} {H H' : Hp} (h : TSt C l ls D pl x L rs N H) (s : Same H H') : TSt C l ls D pl x L rs N H' := h.but (.of s) (h.d.S.same s)
end L2.TB
/-! the law: readers are drawn -/
namespace L2.TB
open PySem PySem.Spec PyProof.Rows
section
variable {P : Program} {w : World} {K : PySem.W.Frag} {mg : Str → Option Value} {base : Heap} {f C fI : Addr}
theorem turn_a (L : LawL P w K mg base C fI) {cdv : Value} {A : Around} {outer : List Env} {s : Shared} {H : Hp} {E : XK} (hr : Room 7 (A.deeper (envOfC "law" (defScope sLaw) s.heap.objs.size f cdv))) {rest : List Stmt} {u : TS} (hrest : PSs (cxOf CX0 P w K mg base NLw "law" (defScope sLaw) f cdv A outer s H E).nox rest u) :
    ∃ t, PSs (cxOf CX0 P w K mg base NLw "law" (defScope sLaw) f cdv A outer s H E).nox (bodyT.take 5 ++ rest) t ∧ ∀ (Dn : Ends) (H0 : Hp) (s0 s2 s3 s4 s5 s6 s7 s8 s9 s10 s11 s12 s13 s14 s15 : Option V) (l ls : Addr) (N : Int), Strm H0 l ls N → N ≤ 100000 →
      (∀ H' D X rs t5 t6, DrwA l ls D X rs (N + 1000) H' → u Dn [s0, some (.ref l), s2, some (.str X), some (.ref D), t5, t6, s7, s8, s9, s10, s11, s12, s13, s14, s15] H') →
      t Dn [s0, some (.ref l), s2, s3, s4, s5, s6, s7, s8, s9, s10, s11, s12, s13, s14, s15] H0 := by
  obtain ⟨fP, fdP, gP, kP, bP, GP⟩ := L.pick
  obtain ⟨fD, fdD, gD, kD, bD, GD⟩ := L.draw
  obtain ⟨fN, fdN, gN, kN, bN, GN⟩ := L.names
  obtain ⟨fR, fdR, gR, kR, bR, GR⟩ := L.reader
  obtain ⟨fT, fdT, gT, kT, bT, GT⟩ := L.turned
  have nd := scLaw.nd
  have hu := hu_of (hr.mono (show 1 ≤ 7 by decide))
  refine ⟨_, pss_cons (ps_set (i := 3) nd rfl (Or.inl rfl) (pe_call GP (hr.mono (by decide)) rfl gP kP bP .nil pass0 (pa_cons (pv 1) (pa_cons (pe_lst (pa_cons pe_str (pa_cons pe_str (pa_cons pe_str (pa_cons pe_str pa_nil))))) pa_nil))))
    (pss_cons (ps_set (i := 4) nd rfl (Or.inl rfl) pe_dnewK)
    (pss_cons (ps_set (i := 5) nd rfl (Or.inl rfl) (pe_call GN (hr.mono (by decide)) rfl gN kN bN .nil pass0 (pa_cons (pv 1) (pa_cons (pe_op op_add pe_int (pe_call GD (hr.mono (by decide)) rfl gD kD bD .nil pass0 (pa_cons (pv 1) (pa_cons pe_int pa_nil)))) pa_nil))))
    (pss_cons (ps_for PassesOwn.never rfl (pi_list (pv 5)) (pg_name (i := 6) nd rfl (Or.inl rfl))
      (pss_one (ps_dput hu (pv 4) (pv 6) (pe_call GR (hr.mono (by decide)) rfl gR kR bR .nil pass0 (pa_cons (pv 1) (pa_cons (pv 3) (pa_cons (pe_ifExp (pt_cmpR op_eq (pe_callB call_len rfl L.nN boot_len (pa_cons (pv 5) pa_nil)) pe_int (nomark _)) pe_int pe_int) (pa_cons pe_int pa_nil))))) rfl)))
    (pss_cons (ps_set (i := 4) nd rfl (Or.inl rfl) (pe_call GT (hr.mono (by decide)) rfl gT kT bT .nil pass0 (pa_cons (pv 1) (pa_cons (pv 4) pa_nil)))) hrest)))), ?_⟩
  intro Dn H0 s0 s2 s3 s4 s5 s6 s7 s8 s9 s10 s11 s12 s13 s14 s15 l ls N S hN fin
  refine ⟨_, rfl, (by show 4 ≤ sizeLine; decide), fun p np => ?_⟩
  have kp := same_new (o := .lst [.str (Str.ofString "z"), .str (Str.ofString "ab"), .str (Str.ofString "ba"), .str (Str.ofString "cab")]) np
  have ap := S.apart (Same.refl _) np
  refine ⟨l, ls, p, _, N, rfl, S.same kp, by omega, ap.1, ap.2, upd_same, by show 0 < 4; decide, by show 4 < 1000; decide, fun H1 y yin S1 B1 => ?_⟩
  obtain ⟨X, rfl, al⟩ : ∃ X, y = .str X ∧ Alph X := by
    simp only [List.mem_cons, List.not_mem_nil, or_false] at yin
    rcases yin with rfl | rfl | rfl | rfl
    · exact ⟨_, rfl, alph_z⟩
    · exact ⟨_, rfl, alph_ab⟩
    · exact ⟨_, rfl, alph_ba⟩
    · exact ⟨_, rfl, alph_cab⟩
  refine fun D nD => ?_
  have kD1 := same_new (o := .dK []) nD
  have oD : upd H1 D (.dK []) D = some (.dK []) := upd_same
  have aD := S1.apart (Same.refl _) nD
  have S2 := S1.same kD1
  generalize upd H1 D (.dK []) = H2 at kD1 oD S2
  refine ⟨_, rfl, _, rfl, l, ls, 2, N + 1, rfl, S2, by omega, by decide, by decide, fun H3 r r0 r1 S3 B3 => ?_⟩
  have oD3 := B3 _ _ aD.1 aD.2 oD
  refine ⟨_, _, rfl, rfl, l, ls, _, N + 1 + 1, rfl, S3, by omega, by omega, by omega, fun H4 q ns nl nnd nok nq oq S4 B4 => ?_⟩
  have nl2 : ns.length ≤ 2 := by omega
  have nl1 : 0 < ns.length := by omega
  have oD4 := B4 _ _ aD.1 aD.2 oD3
  have aq := S3.apart (Same.refl _) nq
  have qD : q ≠ D := fun z => by rw [z, oD3] at nq; cases nq
  refine ⟨_, rfl, q, rfl, ⟨_, SqL.of oq⟩, for_list (xs := ns.map V.str) (fun i σ H' => Strm H' l ls (N + 20 + 100 * i) ∧ H' q = some (.lst (ns.map V.str)) ∧ (∃ es rs, H' D = some (.dK es) ∧ Paired (DcE (fun b => b ≠ l ∧ b ≠ ls ∧ b ≠ D) H') es rs ∧ rs.map (·.1) = ns.take i ∧ ∀ z ∈ rs, RdOk X z.2) ∧ ∃ s6, σ = [s0, some (.ref l), s2, some (.str X), some (.ref D), some (.ref q), s6, s7, s8, s9, s10, s11, s12, s13, s14, s15])
    ⟨S4.mono (by omega), oq, ⟨[], [], oD4, .nil, by rw [List.take_zero]; rfl, fun z hz => by cases hz⟩, _, rfl⟩ (fun i σ H' _ h => SqL.of h.2.1) ?_ ?_⟩
  · rintro i v σ H5 ev ⟨S5, oq5, ⟨es, rs, oD5, pr, ek, rok⟩, s6, rfl⟩
    rw [List.getElem?_map] at ev
    obtain ⟨n, en, rfl⟩ := Option.map_eq_some_iff.mp ev
    have li : i < ns.length := (List.getElem?_eq_some_iff.mp en).1
    have les : es.length = i := by
      have z := congrArg List.length ek
      rw [List.length_map, List.length_take] at z
      rw [Paired.length pr]
      omega
    have out : n ∉ rs.map (·.1) := fun h => by
      have et : ns.take (i + 1) = ns.take i ++ [n] := by rw [List.take_succ, en]; rfl
      have z := nnd.sublist (List.take_sublist (i + 1) ns)
      rw [et, List.nodup_append] at z
      exact z.2.2 n (by rw [← ek]; exact h) n (List.mem_singleton.mpr rfl) rfl
    refine ⟨_, rfl, _, rfl, _, rfl, .ref q, ns.length, rfl, .inl ⟨_, SqL.of oq5, by rw [List.length_map]⟩, rfl, _, rfl, ite2 (fun e => ?_) (fun e => ?_)⟩
    all_goals
      refine ⟨l, ls, X, _, _, rfl, S5, by omega, al.ok, by decide, by decide, fun H6 v r rr atv S6 B6 => ?_⟩
      have oD6 := B6 _ _ aD.1 aD.2 oD5
      refine ⟨_, rfl, _, rfl, D, _, rfl, DPut.k (k := Sum.inr n) oD6 (by rw [sizeLine_eq]; omega), ?_⟩
      have up : ∀ b o, b ≠ D → H6 b = some o → upd H6 D (.dK (putK es (Sum.inr n) v)) b = some o := fun b o nb e => by rw [upd_ne nb]; exact e
      have S7 := strm_kept S6 (Ne.symm aD.1.symm) (Ne.symm aD.2.symm) up
      have p7 : Paired (DcE (fun b => b ≠ l ∧ b ≠ ls ∧ b ≠ D) (upd H6 D (.dK (putK es (Sum.inr n) v)))) (putK es (Sum.inr n) v) (putR rs n r) :=
        dc_put (A := fun b => b ≠ l ∧ b ≠ ls ∧ b ≠ D) (H := H6) (Paired.mapP pr fun e q h => ⟨h.1, PyD.kp h.2 fun b o a e => ⟨a, B6 _ _ a.1 a.2.1 e⟩⟩) (PyD.kp atv fun b o a e => ⟨⟨a.2.1, a.2.2, fun z => by rw [z, oD5] at a; cases a.1⟩, up _ _ (fun z => by rw [z, oD5] at a; cases a.1) e⟩) fun b o a e => ⟨a, up _ _ a.2.2 e⟩
      have er : putR rs n r = rs ++ [(n, r)] := by unfold putR; rw [if_neg out]
      refine ⟨S7.mono (by omega), up _ _ qD (B6 _ _ aq.1 aq.2 oq5), ⟨_, _, upd_same, p7, ?_, ?_⟩, _, rfl⟩
      · rw [er, List.map_append, ek, List.take_succ, en]; rfl
      · rw [er]
        intro z hz
        rcases List.mem_append.mp hz with h | h
        · exact rok z h
        · rw [List.mem_singleton.mp h]; exact rr
  · rintro σ H5 ⟨S5, oq5, ⟨es, rs, oD5, pr, ek, rok⟩, s6, rfl⟩
    rw [List.length_map] at S5 ek
    rw [List.take_length] at ek
    have lrs : rs.length = ns.length := by rw [← ek, List.length_map]
    have mem : ∀ z ∈ rs, NmS z.1 := fun z hz => nok _ (by rw [← ek]; exact List.mem_map_of_mem hz)
    have rsok : RsOk X rs := ⟨by omega, by omega, by rw [ek]; exact nnd, fun z hz => (mem z hz).1, rok⟩
    have at5 : PyD.at_ (fun b => b ≠ l ∧ b ≠ ls) H5 (.ref D) (Dc.mk rs) := ⟨D, es, rfl, aD, oD5, by show (rs.map (·.1)).Nodup; rw [ek]; exact nnd, Paired.mapP pr fun e q h => ⟨h.1, PyD.kp h.2 fun b o a e => ⟨⟨a.1, a.2.1⟩, e⟩⟩⟩
    refine ⟨_, rfl, _, rfl, l, ls, D, rs, _, _, rfl, S5, by omega, at5, fun b a => a, fun z => by rw [z] at lrs; simp at lrs; omega, by omega, fun z hz => ⟨(rok z hz).s al.ok, (rok z hz).n6, fun st hst => ?_⟩, fun H6 g rs' gl gs at6 tu S6 B6 => ?_⟩
    · have z2 := ((rok z hz).mp st hst).length_eq
      rw [List.length_map] at z2
      rw [z2]
      exact al.ok.ll
    have kn := turn_keys tu
    exact fin H6 g X rs' _ _ ⟨S6.mono (by omega), PyD.kp at6 fun b o a e => ⟨a.2, e⟩, al, rsok.turn tu, by rw [← (Paired.length tu)]; omega, fun z hz => by
      have m : z.1 ∈ rs.map (·.1) := by rw [← kn]; exact List.mem_map_of_mem hz
      obtain ⟨z0, hz0, e0⟩ := List.mem_map.mp m
      have w := (mem z0 hz0).2.2
      rw [show z0.1 = z.1 from e0] at w
      exact w⟩
end
end L2.TB
/-! the law: the field is made, what was handed is spoiled -/
namespace L2.TB
open PySem PySem.Spec PyProof.Rows
section
variable {P : Program} {w : World} {K : PySem.W.Frag} {mg : Str → Option Value} {base : Heap} {f C fI : Addr}
theorem turn_b (L : LawL P w K mg base C fI) {cdv : Value} {A : Around} {outer : List Env} {s : Shared} {H : Hp} {E : XK} (hr : Room 7 (A.deeper (envOfC "law" (defScope sLaw) s.heap.objs.size f cdv))) {rest : List Stmt} {u : TS} (hrest : PSs (cxOf CX0 P w K mg base NLw "law" (defScope sLaw) f cdv A outer s H E).nox rest u) :
    ∃ t, PSs (cxOf CX0 P w K mg base NLw "law" (defScope sLaw) f cdv A outer s H E).nox ((bodyT.drop 5).take 3 ++ rest) t ∧ ∀ (Dn : Ends) (H0 : Hp) (s0 s2 s5 s6 s7 s8 s9 s10 s11 s12 s13 s14 s15 : Option V) (l ls D : Addr) (X : Str) (rs : RsT) (N : Int), DrwA l ls D X rs N H0 → N ≤ 200000 →
      (∀ H' pl x t8, TSt C l ls D pl x X rs (N + 80) H' → u Dn [s0, some (.ref l), s2, some (.str X), some (.ref D), s5, s6, some (.ref pl), t8, some (.ref x), s10, s11, s12, s13, s14, s15] H') →
      t Dn [s0, some (.ref l), s2, some (.str X), some (.ref D), s5, s6, s7, s8, s9, s10, s11, s12, s13, s14, s15] H0 := by
  obtain ⟨fdI, bI, GI⟩ := L.init
  obtain ⟨fH, fdH, gH, kH, bH, GH⟩ := L.handed
  obtain ⟨fS, fdS, gS, kS, bS, GS⟩ := L.spoil
  have gC := L.gC
  have nd := scLaw.nd
  refine ⟨_, pss_cons (ps_par (i := 7) (j := 8) rfl nd rfl rfl (by decide) rfl rfl (pa_cons (pe_tup (pa_cons (pv 3) (pa_cons (pv 4) pa_nil))) (pa_cons (pe_call GH (hr.mono (by decide)) rfl gH kH bH .nil pass0 (pa_cons (pv 1) (pa_cons (pv 4) pa_nil))) pa_nil)) (by rfl))
    (pss_cons (ps_set (i := 9) nd rfl (Or.inr rfl) (pe_make L.made GI (hr.mono (by decide)) rfl gC bI .nil pass0 (pa_cons (pv 3) (pa_cons (pv 8) pa_nil))))
    (pss_cons (ps_expr (pe_call GS (hr.mono (by decide)) rfl gS kS bS .nil pass0 (pa_cons (pv 8) pa_nil))) hrest)), ?_⟩
  intro Dn H0 s0 s2 s5 s6 s7 s8 s9 s10 s11 s12 s13 s14 s15 l ls D X rs N d hN fin
  have n0 := d.ok.n0
  have few := d.few
  refine ⟨_, rfl, _, rfl, (by show 2 ≤ sizeLine; decide), fun pl npl => ?_⟩
  have kp := same_new (o := .tup [.str X, .ref D]) npl
  have opl : upd H0 pl (.tup [.str X, .ref D]) pl = _ := upd_same
  have apl := d.S.apart (Same.refl _) npl
  have d1 := d.but (.of kp) (d.S.same kp)
  generalize upd H0 pl (.tup [.str X, .ref D]) = H1 at kp opl d1
  refine ⟨_, rfl, _, rfl, l, ls, D, rs, _, N, rfl, d1.S, by omega, d1.hD, fun b a => a, fun z => by rw [z] at n0; simp at n0, few, fun q hq => ⟨(d.ok.rd q hq).s d.al.ok, (d.ok.rd q hq).n6⟩, fun H2 g es qs ng gl gs og hp eqs nd1 S2 B2 => ⟨_, _, rfl, ?_⟩⟩
  have hp' : Paired (HandR K (fun _ => True) H2) es rs := by
    rw [← eqs]
    exact Paired.mapP (hp_hr hp) fun e q h => h.keep fun b o a e => ⟨trivial, e⟩
  refine ⟨_, rfl, _, rfl, made_ma d.al.ok og hp' d.ok fun H3 x nx Tx k3 => ?_⟩
  have lqs : qs.length = rs.length := by rw [← eqs, List.length_map]
  refine ⟨_, rfl, g, es, qs, (fun b => H1 b = none ∧ b ≠ l ∧ b ≠ ls ∧ H2 b ≠ none), rfl, ⟨ng, gl, gs, by rw [og]; exact fun z => by cases z⟩, k3 _ _ og, Paired.mapP hp fun e q h => h.keep fun b o a e => ⟨⟨a.1, a.2.1, a.2.2, by rw [e]; exact fun z => by cases z⟩, k3 _ _ e⟩, nd1, by rw [eqs]; exact d.ok.nd, fun z => by rw [z] at lqs; simp at lqs; omega, by omega, fun q hq => (d.ok.rd q.2 (by rw [← eqs]; exact List.mem_map_of_mem hq)).s d.al.ok, fun H4 k4 => ?_⟩
  have S4 : Strm H4 l ls (N + 80) := by
    obtain ⟨cs, gg, k, m, Z⟩ := S2.same k3
    exact ⟨cs, gg, k, m, k4 _ _ (fun z => z.2.1 rfl) Z.o, k4 _ _ (fun z => z.2.2.1 rfl) Z.c, Z.ne, Z.g0, Z.k0, Z.k1, Z.m0, Z.m1, Z.sz⟩
  have B4 : But l ls H1 H4 := fun b o h1 h2 e => k4 _ _ (fun z => by rw [z.1] at e; cases e) (k3 _ _ (B2 _ _ h1 h2 e))
  have new3 : ∀ b o, H2 b = none → H3 b = some o → H4 b = some o := fun b o n e => k4 _ _ (fun z => z.2.2.2 n) e
  have d4 := d1.but B4 S4
  have ax := S2.apart (Same.refl _) nx
  obtain ⟨D', es0, e1, aD, oD, _⟩ := d1.hD
  obtain rfl := V.ref.inj e1
  exact fin H4 pl x _ ⟨d4, ⟨B4 _ _ apl.1 apl.2 opl, apl⟩, ⟨Tx.keep (fun o e => new3 _ _ nx e) fun b o a e => ⟨⟨(S2.apart (Same.refl _) a).1, (S2.apart (Same.refl _) a).2, fun z => by rw [z, B2 _ _ aD.1 aD.2 oD] at a; cases a⟩, new3 _ _ a e⟩, ax⟩⟩
end
end L2.TB
/-! the law: what the field tells, what it is equal to -/
namespace L2.TB
open PySem PySem.Spec PyProof.Rows
theorem hand_of {K : PySem.W.Frag} {A : Addr → Prop} {H : Hp} {D : Addr} {rs : RsT} (h : PyD.at_ A H (.ref D) (Dc.mk rs)) : ∃ es, H D = some (.dK es) ∧ Paired (HandR K (fun _ => True) H) es rs := by
  obtain ⟨D', es, e1, aD, oD, rnd, pr⟩ := h
  obtain rfl := V.ref.inj e1
  exact ⟨es, oD, Paired.mapP pr fun e q h => ⟨h.1, (at_rdG h.2).keep fun b o a e => ⟨trivial, e⟩⟩⟩
theorem cmp_ma {C : Addr} {H' : Hp} {x y : Addr} {X X' : Str} {rs rs' : RsT} {A A' : Addr → Prop} {R : VK} (gb : Bool → Bool) (Tx : MachA A H' C x X rs) (Ty : MachA A' H' C y X' rs') (hR : ∀ H2, Same H' H2 → R (.bl (gb (decide (X = X') && eqRs rs rs'))) H2) : rEqI C (spMEq C) E0 gb (.ref x) (.ref y) H' R := by
  obtain ⟨dx, D1, hx, _⟩ := id Tx.ex
  obtain ⟨dy, D2, hy, _⟩ := id Ty.ex
  exact ⟨x, y, dx, dy, _, _, rfl, rfl, hx, hy, x, y, X, X', rs, rs', _, _, rfl, Tx, Ty, fun H2 k2 => ⟨_, rfl, hR H2 k2⟩⟩
theorem TSt.mono {C l ls D pl x : Addr} {L : Str} {rs : RsT} {N M : Int} {H : Hp} (h : TSt C l ls D pl x L rs N H) (le : N ≤ M) : TSt C l ls D pl x L rs M H := ⟨⟨h.d.S.mono le, h.d.hD, h.d.al, h.d.ok, h.d.few, h.d.wd⟩, h.hp, h.hx⟩
section
variable {P : Program} {w : World} {K : PySem.W.Frag} {mg : Str → Option Value} {base : Heap} {f C fI : Addr}
theorem turn_c (L : LawL P w K mg base C fI) {cdv : Value} {A : Around} {outer : List Env} {s : Shared} {H : Hp} {E : XK} (hr : Room 7 (A.deeper (envOfC "law" (defScope sLaw) s.heap.objs.size f cdv))) {rest : List Stmt} {u : TS} (hrest : PSs (cxOf CX0 P w K mg base NLw "law" (defScope sLaw) f cdv A outer s H E).nox rest u) :
    ∃ t, PSs (cxOf CX0 P w K mg base NLw "law" (defScope sLaw) f cdv A outer s H E).nox ((bodyT.drop 8).take 3 ++ rest) t ∧ ∀ (Dn : Ends) (H0 : Hp) (s0 s2 s5 s6 s8 s10 s11 s12 s14 s15 : Option V) (l ls D pl x : Addr) (X : Str) (rs : RsT) (N : Int), TSt C l ls D pl x X rs N H0 → N ≤ 300000 →
      (∀ H', TSt C l ls D pl x X rs (N + 44) H' → u Dn [s0, some (.ref l), s2, some (.str X), some (.ref D), s5, s6, some (.ref pl), s8, some (.ref x), s10, s11, s12, none, s14, s15] H') →
      t Dn [s0, some (.ref l), s2, some (.str X), some (.ref D), s5, s6, some (.ref pl), s8, some (.ref x), s10, s11, s12, none, s14, s15] H0 := by
  obtain ⟨fdI, bI, GI⟩ := L.init
  obtain ⟨fT, fdT, gT, kT, bT, GT⟩ := L.tells
  obtain ⟨fE, fdE, mE, bE, GE, GO⟩ := L.eq
  have gC := L.gC
  have nd := scLaw.nd
  refine ⟨_, pss_cons (ps_if (PW.pt (pw_or (pt_not (pt_val (pe_call GT (hr.mono (by decide)) rfl gT kT bT .nil pass0 (pa_cons (pv 1) (pa_cons (pv 9) (pa_cons (pv 7) pa_nil))))))
        (pw_or1 (pt_not (pt_val (pe_call GT (hr.mono (by decide)) rfl gT kT bT .nil pass0 (pa_cons (pv 1) (pa_cons (pv 9) (pa_cons (pv 7) pa_nil))))))))) (pss_one ps_never) pss_nil)
    (pss_cons (ps_if (PW.pt (pw_or (pt_not (pt_cmpR (op_eqI (E := E0) GE (hr.mono (by decide)) mE bE pass0) (pv 9) (pe_make L.made GI (hr.mono (by decide)) rfl gC bI .nil pass0 (pa_cons (pv 3) (pa_cons (pv 4) pa_nil))) (nomark _)))
        (pw_or1 (pt_cmpR (op_neI (E := E0) GE (hr.mono (by decide)) mE L.ne L.ob bE pass0) (pv 9) (pe_make L.made GI (hr.mono (by decide)) rfl gC bI .nil pass0 (pa_cons (pv 3) (pa_cons (pv 4) pa_nil))) (nomark _))))) (pss_one ps_never) pss_nil)
    (pss_cons (ps_if (pt_val (pe_callB (cr_any rfl) rfl L.nY boot_anyN (pa_cons (pe_lc (own := [("thing", 13)]) (tt := tYes) (g := gName 13) (te := tOp (rEqO K C (spMEqO K C) E0) (tVar 9) (tVar 13)) rfl nd (pi_seq (pe_tup (pa_cons pe_non (pa_cons (pv 3) (pa_cons (pv 4) (pa_cons pe_int pa_nil)))))) (blkOk_by (N := NLw) (sc := defScope sLaw) (by decide +kernel)) (fun _ _ _ _ _ => pg_name (i := 13) nd rfl (Or.inl rfl)) (fun _ _ _ _ _ => pts_nil)
          (fun _ _ _ _ _ => pe_cmpR (r := rEqO K C (spMEqO K C) E0) (op_eqO (k := 1) (E := E0) GO (hr.mono (by decide)) mE bE pass0) (pv 9) (pv 13) (nomark _))) pa_nil))) (pss_one ps_never) pss_nil) hrest)), ?_⟩
  intro Dn H0 s0 s2 s5 s6 s8 s10 s11 s12 s14 s15 l ls D pl x X rs N T0 hN fin
  have ee : (decide (X = X) && eqRs rs rs) = true := by rw [decide_eq_true rfl, eqRs_refl (T0.d.ok.s T0.d.al.ok)]; rfl
  refine ⟨_, rfl, _, rfl, _, rfl, l, ls, x, pl, D, X, rs, _, _, _, rfl, T0.d.S, by omega, T0.hp.1, T0.hx.1, T0.d.hD, fun b a => a, fun b a => a, T0.d.al.ok, T0.d.al.ix, T0.d.ok, fun H1 S1 B1 => ⟨_, rfl, iteF ?_⟩⟩
  have T1 := T0.but B1 S1
  refine ⟨_, rfl, _, rfl, _, rfl, l, ls, x, pl, D, X, rs, _, _, _, rfl, T1.d.S, by omega, T1.hp.1, T1.hx.1, T1.d.hD, fun b a => a, fun b a => a, T1.d.al.ok, T1.d.al.ix, T1.d.ok, fun H2 S2 B2 => ⟨_, rfl, iteF ?_⟩⟩
  have T2 := T1.but B2 S2
  -- equal ones
  obtain ⟨es, oD, hp⟩ := hand_of (K := K) T2.d.hD
  refine ⟨_, rfl, _, rfl, _, rfl, made_ma T2.d.al.ok oD hp T2.d.ok fun H3 y ny Ty k3 => cmp_ma _ (T2.same k3).hx.1 Ty fun H4 k4 => ⟨true, by rw [ee]; rfl, ?_⟩⟩
  have T4 := (T2.same k3).same k4
  have k24 := k3.trans k4
  refine iteF ?_
  have hp4 : Paired (HandR K (fun _ => True) H4) es rs := Paired.mapP hp fun e q h => h.keep fun b o a e => ⟨a, k24 _ _ e⟩
  refine ⟨_, rfl, _, rfl, _, rfl, made_ma T2.d.al.ok (k24 _ _ oD) hp4 T2.d.ok fun H5 y2 ny2 Ty2 k5 => cmp_ma _ (T4.same k5).hx.1 Ty2 fun H6 k6 => ⟨false, by rw [ee]; rfl, iteF ?_⟩⟩
  have T6 := (T4.same k5).same k6
  have k26 := (k24.trans k5).trans k6
  clear T4 k24 k3 k4 k5 k6 hp4 Ty Ty2 ny ny2
  -- things of other kinds
  refine ⟨_, rfl, _, rfl, (by show 4 ≤ sizeLine; decide), fun c nc => ?_⟩
  have kc := same_new (o := .tup [.non, .str X, .ref D, .int 5]) nc
  have oc : upd H6 c (.tup [.non, .str X, .ref D, .int 5]) c = some (.tup [.non, .str X, .ref D, .int 5]) := upd_same
  have T7 := T6.same kc
  have k27 := k26.trans kc
  generalize upd H6 c (.tup [.non, .str X, .ref D, .int 5]) = H7 at oc T7 k27 ⊢
  refine ⟨c, _, rfl, .inr ⟨SqT.of oc, ?_⟩⟩
  refine lc_gen ((List.replicate 4 false).map V.bl) (by show 4 < 1000000; decide) (fun i H' s lt => ⟨_, _, SqT.of (s _ _ oc), List.getElem?_eq_getElem (by simpa using lt)⟩) (fun H' s => ⟨_, SqT.of (s _ _ oc), by show 4 ≤ 4; decide⟩) ?_ ?_
  · rintro i v y' H8 H9 Cn Nn ey s8 ⟨rfl, ev⟩ yes
    have ev := ev _ (SqT.of (s8 _ _ oc))
    obtain rfl : y' = .bl false := by
      rw [List.getElem?_map, List.getElem?_replicate] at ey
      by_cases c7 : i < 4
      · rw [if_pos c7] at ey
        exact (Option.some.inj ey).symm
      · rw [if_neg c7] at ey
        cases ey
    have T9 := T7.same s8
    obtain ⟨dx, _, hx', _⟩ := id T9.hx.1.ex
    obtain ⟨t, ht, ty⟩ : ∃ t : String, t ∈ ["NoneType", "int", "dict", "str"] ∧ TyX K H9 v (.type t) := by
      have m := List.mem_of_getElem? ev
      simp only [List.mem_cons, List.not_mem_nil, or_false] at m
      rcases m with rfl | rfl | rfl | rfl
      · exact ⟨"NoneType", by simp, .base .non⟩
      · exact ⟨"str", by simp, .base (.str X)⟩
      · exact ⟨"dict", by simp, .base (.dK (s8 _ _ (k27 _ _ oD)))⟩
      · exact ⟨"int", by simp, .base (.int 5)⟩
    refine ⟨rfl, ?_⟩
    exact ⟨_, rfl, _, rfl, x, dx, _, .type t, rfl, hx', ty, (L.far t ht).1, x, v, .type t, rfl, ty, (L.far t ht).2, _, rfl, yes H9 (Same.refl _)⟩
  intro H8 D2 nD2 oD2 s8
  refine ⟨D2, _, rfl, SqL.of oD2, _, rfl, ?_⟩
  have e3 : (List.replicate 4 false).any id = false := by decide
  rw [e3]
  refine iteF ?_
  exact fin _ ((T7.same s8).mono (by omega))
end
end L2.TB
/-! the law: turned ones, other ones -/
namespace L2.TB
open PySem PySem.Spec PyProof.Rows
section
variable {P : Program} {w : World} {K : PySem.W.Frag} {mg : Str → Option Value} {base : Heap} {f C fI : Addr}
theorem turn_d (L : LawL P w K mg base C fI) {cdv : Value} {A : Around} {outer : List Env} {s : Shared} {H : Hp} {E : XK} (hr : Room 7 (A.deeper (envOfC "law" (defScope sLaw) s.heap.objs.size f cdv))) {rest : List Stmt} {u : TS} (hrest : PSs (cxOf CX0 P w K mg base NLw "law" (defScope sLaw) f cdv A outer s H E).nox rest u) :
    ∃ t, PSs (cxOf CX0 P w K mg base NLw "law" (defScope sLaw) f cdv A outer s H E).nox ((bodyT.drop 11).take 2 ++ rest) t ∧ ∀ (Dn : Ends) (H0 : Hp) (s0 s2 s5 s6 s8 s10 s11 s12 s13 s15 : Option V) (l ls D pl x : Addr) (X : Str) (rs : RsT) (N : Int), TSt C l ls D pl x X rs N H0 → N ≤ 300000 →
      (∀ H', TSt C l ls D pl x X rs (N + 302) H' → u Dn [s0, some (.ref l), s2, some (.str X), some (.ref D), s5, s6, some (.ref pl), s8, some (.ref x), s10, s11, s12, s13, none, s15] H') →
      t Dn [s0, some (.ref l), s2, some (.str X), some (.ref D), s5, s6, some (.ref pl), s8, some (.ref x), s10, s11, s12, s13, none, s15] H0 := by
  obtain ⟨fdI, bI, GI⟩ := L.init
  obtain ⟨fT, fdT, gT, kT, bT, GT⟩ := L.turned
  obtain ⟨fO, fdO, gO, kO, bO, GOt⟩ := L.others
  obtain ⟨fE, fdE, mE, bE, GE, GO⟩ := L.eq
  have gC := L.gC
  have nd := scLaw.nd
  refine ⟨_, pss_cons (ps_if (pt_cmpR (op_neI (E := E0) GE (hr.mono (by decide)) mE L.ne L.ob bE pass0) (pv 9) (pe_make L.made GI (hr.mono (by decide)) rfl gC bI .nil pass0 (pa_cons (pv 3) (pa_cons (pe_call GT (hr.mono (by decide)) rfl gT kT bT .nil pass0 (pa_cons (pv 1) (pa_cons (pv 4) pa_nil))) pa_nil))) (nomark _)) (pss_one ps_never) pss_nil)
    (pss_cons (ps_if (pt_val (pe_callB (cr_any rfl) rfl L.nY boot_anyN (pa_cons (pe_lc (own := [("other", 14)]) (tt := tYes) (g := gName 14) rfl nd (pi_list (pe_call GOt (hr.mono (by decide)) rfl gO kO bO .nil pass0 (pa_cons (pv 1) (pa_cons (pv 7) pa_nil)))) (blkOk_by (N := NLw) (sc := defScope sLaw) (by decide +kernel)) (fun _ _ _ _ _ => pg_name (i := 14) nd rfl (Or.inl rfl)) (fun _ _ _ _ _ => pts_nil)
          (fun _ _ _ _ _ => pe_cmpR (op_eqI (E := E0) GE (hr.mono (by decide)) mE bE pass0) (pv 9) (pe_make L.made GI (hr.mono (by decide)) rfl gC bI .nil pass0 (pa_cons (pe_ix (r := rIx K) ix_seq (pv 14) pe_int (fun _ _ => rfl)) (pa_cons (pe_ix (r := rIx K) ix_seq (pv 14) pe_int (fun _ _ => rfl)) pa_nil))) (nomark _))) pa_nil))) (pss_one ps_never) pss_nil) hrest), ?_⟩
  intro Dn H0 s0 s2 s5 s6 s8 s10 s11 s12 s13 s15 l ls D pl x X rs N T0 hN fin
  have n0 := T0.d.ok.n0
  have few := T0.d.few
  refine ⟨_, rfl, _, rfl, _, rfl, _, rfl, l, ls, D, rs, _, N, rfl, T0.d.S, by omega, T0.d.hD, fun b a => a, fun z => by rw [z] at n0; simp at n0, few, fun q hq => ⟨(T0.d.ok.rd q hq).s T0.d.al.ok, (T0.d.ok.rd q hq).n6, fun st hst => ?_⟩, fun H1 g rs' gl gs at1 tu S1 B1 => ?_⟩
  · have z2 := ((T0.d.ok.rd q hq).mp st hst).length_eq
    rw [List.length_map] at z2
    rw [z2]
    exact T0.d.al.ok.ll
  have T1 := T0.but B1 S1
  obtain ⟨es, og, hp⟩ := hand_of (K := K) at1
  have ee : (decide (X = X) && eqRs rs rs') = true := by rw [decide_eq_true rfl, eqRs_turn (T0.d.ok.s T0.d.al.ok) tu]; rfl
  refine made_ma T0.d.al.ok og hp (T0.d.ok.turn tu) fun H2 y ny Ty k2 => cmp_ma _ (T1.same k2).hx.1 Ty fun H3 k3 => ⟨false, by rw [ee]; rfl, iteF ?_⟩
  have T3 := (T1.same k2).same k3
  clear T1 og hp Ty k2 k3 at1 B1 S1 ny
  -- the other ones
  refine ⟨_, rfl, _, rfl, l, ls, pl, D, X, rs, _, _, rfl, T3.d.S, by omega, T3.hp.1, T3.d.hD, fun b a => a, T3.d.al, T3.d.ok, few, T3.d.wd, fun H4 g2 os ng2 gl2 gs2 og2 few6 oks S4 B4 => ?_⟩
  have T4 := T3.but B4 S4
  refine ⟨g2, rfl, ⟨_, SqL.of og2⟩, lc_gen ((List.replicate os.length false).map V.bl) (by rw [List.length_map, List.length_replicate]; omega) (fun i H' s lt => ⟨_, _, SqL.of (s _ _ og2), List.getElem?_eq_getElem (by simpa using lt)⟩) (fun H' s => ⟨_, SqL.of (s _ _ og2), by rw [List.length_map, List.length_replicate]; exact Nat.le_refl _⟩) ?_ ?_⟩
  · rintro i v y' H8 H9 Cn Nn ey s8 ⟨rfl, ev⟩ yes
    have ev := ev _ (SqL.of (s8 _ _ og2))
    obtain rfl : y' = .bl false := by
      rw [List.getElem?_map, List.getElem?_replicate] at ey
      by_cases c7 : i < os.length
      · rw [if_pos c7] at ey
        exact (Option.some.inj ey).symm
      · rw [if_neg c7] at ey
        cases ey
    have T9 := T4.same s8
    obtain ⟨t, D2, Lo, ro, rfl, _, ot, at2, lok2, ok2, ne2⟩ := ((oks v (List.mem_of_getElem? ev)).keep fun b o a e => ⟨a, s8 _ _ e⟩ : Oth X rs (fun b => b ≠ l ∧ b ≠ ls) H9 v).ex
    obtain ⟨es2, oD2, hp2⟩ := hand_of (K := K) at2
    have ixt : ∀ {j : Int} {v : V} {R : VK}, atI [V.str Lo, .ref D2] j = some v → R v H9 → rIx K (.ref t) (.int j) H9 R := fun e r => .inr (.inl ⟨t, _, _, _, rfl, rfl, SqT.of ot, e, r⟩)
    have e4 : (decide (X = Lo) && eqRs rs ro) = false := by
      by_cases h : X = Lo
      · rw [ne2 h, Bool.and_false]
      · rw [decide_eq_false h]; rfl
    refine ⟨rfl, ?_⟩
    refine ⟨_, rfl, _, rfl, ixt rfl ⟨_, rfl, ixt rfl (made_ma lok2 oD2 hp2 ok2 fun H10 y ny Ty k10 => cmp_ma _ (T9.same k10).hx.1 Ty fun H11 k11 => by rw [e4]; exact yes _ (k10.trans k11))⟩⟩
  · intro H8 D2 nD2 oD2 s8
    refine ⟨D2, _, rfl, SqL.of oD2, _, rfl, ?_⟩
    have e3 : (List.replicate os.length false).any id = false := by
      rw [List.any_eq_false]
      intro b hb
      rw [(List.mem_replicate.mp hb).2]
      simp
    rw [e3]
    refine iteF ?_
    exact fin _ ((T4.same s8).mono (by omega))
end
end L2.TB
/-! the law: two fields in one -/
namespace L2.TB
open PySem PySem.Spec PyProof.Rows
abbrev sQ8 : Str := Str.ofString "q8"
structure BothT (C l ls y : Addr) (X : Str) (rs : RsT) (H : Hp) : Prop where
  m : MachA (fun b => b ≠ l ∧ b ≠ ls) H C y X (rs ++ [(sQ8, farR X)])
  y1 : y ≠ l
  y2 : y ≠ ls
theorem BothT.but {C l ls y : Addr} {X : Str} {rs : RsT} {H H' : Hp} (h : BothT C l ls y X rs H) (B : But l ls H H') : BothT C l ls y X rs H' := ⟨h.m.keep (fun o e => B _ _ h.y1 h.y2 e) fun b o a e => ⟨a, B _ _ a.1 a.2 e⟩, h.y1, h.y2⟩
def farE (X : Str) (c : Nat) : Option (Key × V) := some (Sum.inr (one1 c), .str sS)
theorem far_list (X : Str) : X.cps.toList.filterMap (farE X) = dkT ((lets X).map fun c => (c, sS)) := by
  unfold lets
  generalize X.cps.toList = l
  induction l with
  | nil => rfl
  | cons c l ih =>
    rw [List.filterMap_cons_some (f := farE X) (a := c) (b := ((Sum.inr (one1 c) : Key), V.str sS)) rfl, ih]
    rfl
section
variable {P : Program} {w : World} {K : PySem.W.Frag} {mg : Str → Option Value} {base : Heap} {f C fI : Addr}
theorem turn_e (L : LawL P w K mg base C fI) {cdv : Value} {A : Around} {outer : List Env} {s : Shared} {H : Hp} {E : XK} (hr : Room 7 (A.deeper (envOfC "law" (defScope sLaw) s.heap.objs.size f cdv))) {rest : List Stmt} {u : TS} (hrest : PSs (cxOf CX0 P w K mg base NLw "law" (defScope sLaw) f cdv A outer s H E).nox rest u) :
    ∃ t, PSs (cxOf CX0 P w K mg base NLw "law" (defScope sLaw) f cdv A outer s H E).nox ((bodyT.drop 13).take 3 ++ rest) t ∧ ∀ (Dn : Ends) (H0 : Hp) (s0 s2 s5 s6 s8 s10 s11 s12 s13 s14 : Option V) (l ls D pl x : Addr) (X : Str) (rs : RsT) (N : Int), TSt C l ls D pl x X rs N H0 →
      (∀ H' y t10, TSt C l ls D pl x X rs N H' → BothT C l ls y X rs H' → u Dn [s0, some (.ref l), s2, some (.str X), some (.ref D), s5, s6, some (.ref pl), s8, some (.ref x), t10, some (.ref y), s12, s13, s14, none] H') →
      t Dn [s0, some (.ref l), s2, some (.str X), some (.ref D), s5, s6, some (.ref pl), s8, some (.ref x), s10, s11, s12, s13, s14, none] H0 := by
  obtain ⟨fdI, bI, GI⟩ := L.init
  obtain ⟨fE, fdE, mE, bE, GE, GO⟩ := L.eq
  obtain ⟨fO, fdO, mO, bO, GOr⟩ := L.or_
  have gC := L.gC
  have nd := scLaw.nd
  refine ⟨_, pss_cons (ps_set (i := 10) nd rfl (Or.inl rfl) (pe_disp (pps_cons pe_str (pe_tup (pa_cons pe_str (pa_cons (pe_disp (pps_cons pe_str (pe_tup (pa_cons pe_int (pa_cons (pe_callTy (r := rDk K) (call_dk rfl) rfl L.nDi boot_dict' (pa_cons (pe_lc (own := [("letter", 15)]) (tt := tYes) (g := gName 15) (te := tTup (tCons (tVar 15) (tCons (tC (.str sS)) tNil))) rfl nd (pi_str (pv 3)) (blkOk_by (N := NLw) (sc := defScope sLaw) (by decide +kernel)) (fun _ _ _ _ _ => pg_name (i := 15) nd rfl (Or.inl rfl)) (fun _ _ _ _ _ => pts_nil)
          (fun _ _ _ _ _ => pe_tup (pa_cons (pv 15) (pa_cons pe_str pa_nil)))) pa_nil)) pa_nil))) pps_nil) rfl rfl (by decide) (by decide)) pa_nil))) pps_nil) rfl rfl (by decide) (by decide)))
    (pss_cons (ps_set (i := 11) nd rfl (Or.inl rfl) (pe_op (op_orI (E := E0) GOr (hr.mono (by decide)) mO L.sf bO pass0) (pv 9) (pe_make L.made GI (hr.mono (by decide)) rfl gC bI .nil pass0 (pa_cons (pv 3) (pa_cons (pv 10) pa_nil)))))
    (pss_cons (ps_if (pt_cmpR (op_neI (E := E0) GE (hr.mono (by decide)) mE L.ne L.ob bE pass0) (pv 11) (pe_make L.made GI (hr.mono (by decide)) rfl gC bI .nil pass0 (pa_cons (pv 3) (pa_cons (pe_callTy (r := rDk K) (call_dk rfl) rfl L.nDi boot_dict' (pa_cons (pe_op op_cat (LiI.pe_listItems rfl (pv 4) rfl L.nL boot_list') (LiI.pe_listItems rfl (pv 10) rfl L.nL boot_list')) pa_nil)) pa_nil))) (nomark _)) (pss_one ps_never) pss_nil) hrest)), ?_⟩
  intro Dn H0 s0 s2 s5 s6 s8 s10 s11 s12 s13 s14 l ls D pl x X rs N T0 fin
  have lok := T0.d.al.ok
  have few := T0.d.few
  have bok := both_ok T0.d.ok few T0.d.wd
  have fok : RsOk X [(sQ8, farR X)] := bok.part (fun q hq => List.mem_append_right _ hq) (by simp) (by show 0 < 1; decide) (by show 1 < 1000; decide)
  refine fun F nF => ?_
  have kF := same_new (o := .dK []) nF
  have oF : upd H0 F (.dK []) F = some (.dK []) := upd_same
  generalize upd H0 F (.dK []) = H1 at kF oF
  refine fun G nG => ?_
  have kG := same_new (o := .dK []) nG
  have oG : upd H1 G (.dK []) G = some (.dK []) := upd_same
  have GF : G ≠ F := fun z => by rw [z, oF] at nG; cases nG
  have oF2 := kG _ _ oF
  have k02 := kF.trans kG
  have nG0 := kF.free nG
  generalize upd H1 G (.dK []) = H2 at kG oG oF2 k02
  refine ⟨_, rfl, X, rfl, opt_lc X.cps.toList (farE X) (by rw [len_cps]; have := lok.l3; omega) (fun i H' _ lt => by rw [Array.length_toList] at lt; exact lt) (fun H' _ => by rw [Array.length_toList]; exact Nat.le_refl _) ?_ ?_⟩
  · rintro i v c H3 H4 Cn Nn ec s3 ⟨rfl, c', ec', rfl⟩ yes no
    have ec2 : X.cps.toList[i]? = some c' := by rw [Array.getElem?_toList]; exact ec'
    rw [ec] at ec2
    obtain rfl := Option.some.inj ec2
    refine ⟨rfl, ?_⟩
    exact ⟨_, rfl, (by show 2 ≤ sizeLine; decide), fun t nt => yes (Sum.inr (one1 c)) _ rfl t _ upd_same (same_new nt)⟩
  intro H3 LT ps nLT oLT pp k3
  rw [far_list] at pp
  refine ⟨LT, ps, _, rfl, SqL.of oLT, Paired.mapP pp fun p kv h => SqT.of h, fun d nd2 => ?_⟩
  have lk3 : (((lets X).map fun c => (c, sS)).map (·.1)) = lets X := by
    rw [List.map_map]
    show (lets X).map (fun c => c) = _
    rw [List.map_id']
  rw [merge_nd (by rw [dkT_keys, lk3]; exact nd_inr lok.lnd)]
  have kd := same_new (o := .dK (dkT ((lets X).map fun c => (c, sS)))) nd2
  have od : upd H3 d (.dK (dkT ((lets X).map fun c => (c, sS)))) d = _ := upd_same
  have k24 := k3.trans kd
  have nd0 := k02.free (k3.free nd2)
  generalize upd H3 d (.dK (dkT ((lets X).map fun c => (c, sS)))) = H4 at kd od k24
  refine ⟨(by show 2 ≤ sizeLine; decide), fun t1 nt1 => ?_⟩
  have kt1 := same_new (o := .tup [.int 0, .ref d]) nt1
  have ot1 : upd H4 t1 (.tup [.int 0, .ref d]) t1 = _ := upd_same
  have od5 := kt1 _ _ od
  have k25 := k24.trans kt1
  have nt10 := (k02.trans k24).free nt1
  generalize upd H4 t1 (.tup [.int 0, .ref d]) = H5 at kt1 ot1 od5 k25
  refine ⟨k25 _ _ oG, [(Sum.inr sS, .ref t1)], rfl, (by show 1 ≤ 15; decide), ?_⟩
  have eG : mergeK [] [((Sum.inr sS : Key), V.ref t1)] = [(Sum.inr sS, .ref t1)] := rfl
  rw [eG]
  have dG : d ≠ G := fun z => by rw [z] at nd2; rw [k3 _ _ oG] at nd2; cases nd2
  have dF : d ≠ F := fun z => by rw [z] at nd2; rw [k3 _ _ oF2] at nd2; cases nd2
  have t1G : t1 ≠ G := fun z => by rw [z, k24 _ _ oG] at nt1; cases nt1
  have S6 : Same H0 (upd H5 G (.dK [(Sum.inr sS, .ref t1)])) := fun b o e => by rw [upd_ne (ne_of_none e nG0)]; exact k25 _ _ (k02 _ _ e)
  have oG6 : upd H5 G (.dK [(Sum.inr sS, .ref t1)]) G = _ := upd_same
  have od6 : upd H5 G (.dK [(Sum.inr sS, .ref t1)]) d = _ := (upd_ne dG).trans od5
  have ot16 : upd H5 G (.dK [(Sum.inr sS, .ref t1)]) t1 = _ := (upd_ne t1G).trans ot1
  have oF6 : upd H5 G (.dK [(Sum.inr sS, .ref t1)]) F = _ := (upd_ne (Ne.symm GF)).trans (k25 _ _ oF2)
  generalize upd H5 G (.dK [(Sum.inr sS, .ref t1)]) = H6 at S6 oG6 od6 ot16 oF6
  refine ⟨(by show 2 ≤ sizeLine; decide), fun t2 nt2 => ?_⟩
  have kt2 := same_new (o := .tup [.str sS, .ref G]) nt2
  have ot2 : upd H6 t2 (.tup [.str sS, .ref G]) t2 = _ := upd_same
  have t2F : t2 ≠ F := fun z => by rw [z, oF6] at nt2; cases nt2
  have nt20 := S6.free nt2
  have oF7 := kt2 _ _ oF6
  refine ⟨oF7, [(Sum.inr sQ8, .ref t2)], rfl, (by show 1 ≤ 15; decide), ?_⟩
  have eF : mergeK [] [((Sum.inr sQ8 : Key), V.ref t2)] = [(Sum.inr sQ8, .ref t2)] := rfl
  rw [eF]
  have up8 : ∀ b o, b ≠ F → H6 b = some o → upd (upd H6 t2 (.tup [.str sS, .ref G])) F (.dK [(Sum.inr sQ8, .ref t2)]) b = some o := fun b o nb e => by rw [upd_ne nb]; exact kt2 _ _ e
  have S8 : Same H0 (upd (upd H6 t2 (.tup [.str sS, .ref G])) F (.dK [(Sum.inr sQ8, .ref t2)])) := fun b o e => up8 _ _ (ne_of_none e nF) (S6 _ _ e)
  have oF8 : upd (upd H6 t2 (.tup [.str sS, .ref G])) F (.dK [(Sum.inr sQ8, .ref t2)]) F = _ := upd_same
  have ot28 : upd (upd H6 t2 (.tup [.str sS, .ref G])) F (.dK [(Sum.inr sQ8, .ref t2)]) t2 = _ := (upd_ne t2F).trans ot2
  have t1F : t1 ≠ F := fun z => by rw [z, oF6] at ot16; cases ot16
  have oG8 := up8 _ _ GF oG6
  have od8 := up8 _ _ dF od6
  have ot18 := up8 _ _ t1F ot16
  generalize upd (upd H6 t2 (.tup [.str sS, .ref G])) F (.dK [(Sum.inr sQ8, .ref t2)]) = H8 at S8 oF8 ot28 oG8 od8 ot18
  have atF : PyD.at_ (fun b => H0 b = none) H8 (.ref F) (Dc.mk [(sQ8, farR X)]) := by
    refine ⟨F, _, rfl, nF, oF8, by simp, .cons ⟨rfl, ?_⟩ .nil⟩
    refine ⟨t2, _, _, rfl, nt20, ot28, rfl, G, _, rfl, nG0, oG8, by show [sS].Nodup; simp, .cons ⟨rfl, ?_⟩ .nil⟩
    exact ⟨t1, _, _, rfl, nt10, ot18, rfl, d, _, rfl, nd0, od8, by rw [lk3]; exact lok.lnd, txt_dk _⟩
  clear kF oF kG oG oF2 k02 k3 oLT pp kd od k24 kt1 ot1 od5 k25 eG dG t1G S6 oG6 od6 ot16 oF6 kt2 ot2 t2F oF7 eF up8 oF8 ot28 dF t1F oG8 od8 ot18 nt2 nt1 nd2 nLT
  -- both
  have T8 := T0.same S8
  obtain ⟨es8, oF8, hpF⟩ := hand_of (K := K) atF
  refine ⟨_, rfl, _, rfl, _, rfl, made_ma lok oF8 hpF fok fun H9 z nz Tz k9 => ?_⟩
  have T9 := T8.same k9
  obtain ⟨dx, _, hx, _⟩ := id T9.hx.1.ex
  obtain ⟨dz, _, hz, _⟩ := id Tz.ex
  refine ⟨x, z, dx, dz, _, _, rfl, rfl, hx, hz, x, z, X, rs, [(sQ8, farR X)], _, _, rfl, T9.hx.1, Tz, lok, bok, (by simp), fun H10 y ny Ty k10 => ⟨y, rfl, ?_⟩⟩
  have T10 := T9.same k10
  have k810 := k9.trans k10
  have ay := T9.d.S.apart (Same.refl _) ny
  have B10 : BothT C l ls y X rs H10 := ⟨Ty.keep (fun o e => e) fun b o a e => ⟨T9.d.S.apart (Same.refl _) a, e⟩, ay.1, ay.2⟩
  have atF10 := PyD.kp atF (A' := fun _ => True) fun b o a e => ⟨trivial, k810 _ _ e⟩
  clear Tz hz hx ny Ty oF8 hpF
  obtain ⟨D', es, e1, aD, oD, rnd, pr⟩ := id T10.d.hD
  obtain rfl := V.ref.inj e1
  obtain ⟨F', esF, e1, _, oF, fnd, pF⟩ := id atF10
  obtain rfl := V.ref.inj e1
  have ke : es.map (·.1) = (rs.map (·.1)).map Sum.inr := dc_keys pr
  have kF : esF.map (·.1) = ([(sQ8, farR X)].map (·.1)).map Sum.inr := dc_keys pF
  have les : es.length = rs.length := Paired.length pr
  have lF : esF.length = 1 := Paired.length pF
  refine ⟨_, rfl, _, rfl, _, rfl, D, es, rfl, oD, fun H11 p1 ts1 k11 n1 _ _ o1 q1 => ?_⟩
  have k11 : Same H10 H11 := k11
  refine ⟨_, rfl, F, esF, rfl, k11 _ _ oF, fun H12 p2 ts2 k12 n2 _ _ o2 q2 => ?_⟩
  have k12 : Same H11 H12 := k12
  have l1 : ts1.length = es.length := Paired.length q1
  have l2 : ts2.length = esF.length := Paired.length q2
  refine ⟨p1, p2, _, _, rfl, rfl, k12 _ _ o1, o2, (by rw [List.length_map, List.length_map, sizeLine_eq]; omega), fun c nc => ?_⟩
  rw [← List.map_append]
  have kc := same_new (o := .lst ((ts1 ++ ts2).map V.ref)) nc
  have oc : upd H12 c (.lst ((ts1 ++ ts2).map V.ref)) c = _ := upd_same
  have k1013 := (k11.trans k12).trans kc
  have qq : Paired (fun (t : Addr) (q : Key × V) => upd H12 c (.lst ((ts1 ++ ts2).map V.ref)) t = some (.tup [kV q.1, q.2])) (ts1 ++ ts2) (es ++ esF) := paired_app (Paired.mapP q1 fun t e h => kc _ _ (k12 _ _ h)) (Paired.mapP q2 fun t e h => kc _ _ h)
  generalize upd H12 c (.lst ((ts1 ++ ts2).map V.ref)) = H13 at kc oc k1013 qq
  refine ⟨c, ts1 ++ ts2, es ++ esF, rfl, SqL.of oc, Paired.mapP qq fun t e h => SqT.of h, fun dd ndd => ?_⟩
  rw [merge_nd (by
    rw [List.map_append, ke, kF, ← List.map_append, ← List.map_append]
    exact nd_inr bok.nd)]
  have kdd := same_new (o := .dK (es ++ esF)) ndd
  have odd : upd H13 dd (.dK (es ++ esF)) dd = _ := upd_same
  have k1014 := k1013.trans kdd
  generalize upd H13 dd (.dK (es ++ esF)) = H14 at kdd odd k1014
  have hpB : Paired (HandR K (fun _ => True) H14) (es ++ esF) (rs ++ [(sQ8, farR X)]) := paired_app (Paired.mapP pr fun e q h => ⟨h.1, (at_rdG h.2).keep fun b o a e => ⟨trivial, k1014 _ _ e⟩⟩) (Paired.mapP pF fun e q h => ⟨h.1, (at_rdG h.2).keep fun b o a e => ⟨trivial, k1014 _ _ e⟩⟩)
  have ee : (decide (X = X) && eqRs (rs ++ [(sQ8, farR X)]) (rs ++ [(sQ8, farR X)])) = true := by rw [decide_eq_true rfl, eqRs_refl (bok.s lok)]; rfl
  refine made_ma lok odd hpB bok fun H15 y2 ny2 Ty2 k15 => cmp_ma _ ((B10.but (.of k1014)).but (.of k15)).m Ty2 fun H16 k16 => ⟨false, by rw [ee]; rfl, iteF ?_⟩
  have k1016 := (k1014.trans k15).trans k16
  exact fin H16 y _ (T10.same k1016) (B10.but (.of k1016))
end
end L2.TB
/-! tuple(d) of a dict -/
namespace L2.TB
open PySem PySem.Spec PyProof.Rows PySem.W
section
variable {pg : Program} {ww : World} {B : Around} {W2 : Value → Shared → Prop} {z : Shared} {T : String} {r d : Addr} {n : Nat} {Pn : Nat → Value → Prop} {Okh : Heap → Prop}
/-- what stood stays, the new one holds the things -/
def TdEnd (Pn : Nat → Value → Prop) (n : Nat) (z : Shared) (rr : Result) (z' : Shared) : Prop := rr = .ok (.ret (.ref z.heap.objs.size)) ∧ ∃ (hp : Heap) (k : Nat) (xs : Array Value) (c : Nat), z' = { z with heap := hp, toks := k } ∧
  (∀ b o, z.heap.get? b = some o → hp.get? b = some o) ∧ hp.get? z.heap.objs.size = some { cls := .type "list", dict := none, data := .seq xs c, slots := #[] } ∧ ItemsOf Pn xs n
theorem td_gather {Q : List Value → Shared → Prop} (src : KdlSrc pg ww T r d n Pn Okh) (hh : B.handled = none) (hok : Okh z.heap) (hn : n ≤ sizeLine)
    (hQ : ∀ (hp : Heap) (k : Nat) (xs : Array Value), (∀ b o, z.heap.get? b = some o → hp.get? b = some o) → ItemsOf Pn xs n → Q xs.toList { z with heap := hp, toks := k }) : wpAny (model pg ww) B (collect (.ref r)) Q W2 z := by
  have lt := src.there _ hok
  have new : (z.heap.push { cls := .type "list", data := .seq ([] : List Value).toArray }).get? z.heap.objs.size = some { cls := .type "list", data := .seq #[] 0 } := Heap.get?_push_size _ rfl
  have ok2 := src.keep z.heap (z.heap.push { cls := .type "list", data := .seq ([] : List Value).toArray }) hok fun b _ o e => Heap.get?_push_of_some _ e
  unfold collect
  refine wpAny_bind (wpAny_runValue (codeAny_builtin PySem.F.entry_proto_collect (by
    rw [Around.under_plainId PySem.F.plain_proto_collect _]; show wpAny _ B.in1 (newList [] >>= fun q => again (.builtin "list.__iadd__" ⟨[q, .ref r], []⟩)) _ _ z
    refine wpAny_bind (wpAny_newObj_type (wpAny_pure ⟨plainId_quiet PySem.F.plain_list_iadd _, codeAny_builtin PySem.F.entry_list_iadd ?_⟩))
    rw [Around.under_plainId PySem.F.plain_list_iadd _]; show wpAny _ B.in1 (Builtin.List.listExtendWith (.ref z.heap.objs.size) (.ref r) (.ref z.heap.objs.size)) _ _ _
    refine wpAny_mono (kdl_extend (A := B) (R := TdEnd Pn n z) (s := { z with heap := z.heap.push { cls := .type "list", data := .seq ([] : List Value).toArray } }) src hh ok2 _ (Nat.ne_of_gt lt.1) (Nat.ne_of_gt lt.2) _ 0 new
      (fun hp k xs c kp e it => ⟨rfl, hp, k, xs, c, rfl, fun b o q => kp b o (Nat.ne_of_lt (Heap.lt_size q)) (Heap.get?_push_of_some _ q), e, it⟩) hn) (fun fin z' h => ?_) (fun e z' h => absurd h.1 (by simp))
    cases fin with
    | done f =>
      obtain ⟨ef, hp, k, xs, c, rfl, kp, e2, it⟩ := h
      cases ef
      show wpAny _ B (load z.heap.objs.size >>= _) _ _ _
      refine wpAny_bind (wpAny_load e2 (wpAny_pure ?_))
      exact hQ hp k xs kp it
    | again c' =>
      refine ⟨h.1, codeAny_mono h.2 fun rr z' q => ?_⟩
      obtain ⟨rfl, hp, k, xs, c, rfl, kp, e2, it⟩ := q
      show wpAny _ B (load z.heap.objs.size >>= _) _ _ _
      refine wpAny_bind (wpAny_load e2 (wpAny_pure ?_))
      exact hQ hp k xs kp it)))
theorem td_code {Q1 : Value → Shared → Prop} (src : KdlSrc pg ww "dict" r d n Pn Okh) (hh : B.handled = none) (hok : Okh z.heap) (hn : n ≤ sizeLine)
    (h : ∀ (hp : Heap) (k : Nat) (xs : Array Value), (∀ b o, z.heap.get? b = some o → hp.get? b = some o) → ItemsOf Pn xs n → Q1 (.ref hp.objs.size) { z with heap := hp.push { cls := .type "tuple", data := .seq xs }, toks := k }) :
    codeAny (model pg ww) B (.call (.builtin "tuple.__new__") ⟨[.type "tuple", .ref r], []⟩) (wants Q1 W2) z := by
  refine codeAny_of_tree (show wpAny _ B.in1 (do checkBuiltinCall "tuple.__new__" ⟨[.type "tuple", .ref r], []⟩; again (.builtin "tuple.__new__" ⟨[.type "tuple", .ref r], []⟩)) _ _ z from ?_)
  refine wpAny_bind (wpAny_of_eq (PySem.F.newCall_tuple_1 _) (wpAny_pure ⟨plainId_quiet PySem.F.plain_tuple_new _, codeAny_builtin PySem.F.entry_tuple_new (by
    rw [Around.under_plainId PySem.F.plain_tuple_new _]
    have q1 := sub_tuple_self; have q2 := init_tuple_lookup; have q3 := madeHere_tuple
    have q4 := src.type z hok; have q5 : B.in1.handled = none := hh
    wp_walk using wpAny_typeOf q4, td_gather (B := B.in1) src q5 hok hn
    intro hp k xs kp it
    have sz : xs.toList.toArray.size ≤ sizeLine := by rw [Array.toArray_toList, it.1]; exact hn
    show wpAny _ _ (Builtin.Tuple.tupleExact xs.toList.toArray >>= fun v => ret v) _ _ _
    unfold Builtin.Tuple.tupleExact; refine wpAny_bind (wpAny_newObj_type (wpAny_pure ?_) sz)
    rw [Array.toArray_toList]; exact h hp k xs kp it)⟩))
theorem td_call {Q : Value → Shared → Prop} (src : KdlSrc pg ww "dict" r d n Pn Okh) (hh : B.handled = none) (hok : Okh z.heap) (hn : n ≤ sizeLine)
    (hQ : ∀ (hp : Heap) (k : Nat) (xs : Array Value), (∀ b o, z.heap.get? b = some o → hp.get? b = some o) → ItemsOf Pn xs n → Q (.ref hp.objs.size) { z with heap := hp.push { cls := .type "tuple", data := .seq xs }, toks := k }) :
    wpAny (model pg ww) B (call (.type "tuple") [.ref r]) Q W2 z := by
  refine callType_codes (Q₁ := fun v z1 => z1.TypeIs v "tuple" ∧ Q v z1) PySem.F.called_tuple (PySem.F.typeCall_tuple_1 _) PySem.F.entry_object_init
    (td_code (B := B.in1) src hh hok hn fun hp k xs kp it => ⟨⟨_, Heap.get?_push_size _ rfl, rfl⟩, hQ hp k xs kp it⟩) fun v z1 q => ⟨q.1, PySem.F.args_object_init_2 v _, ?_⟩
  exact object_init_meets PySem.F.called_tuple.init.lookup PySem.F.called_tuple.made (by decide) pg ww B.in1 _ z1 ⟨q.1, rfl, q.2⟩
end
section
variable {X : Cx}
theorem call_tupD (calm : X.calm = true) : CallR X (.type "tuple") (fun xs H Q => ∃ (a : Addr) (kvs : List (Key × V)), xs = [.ref a] ∧ Rd H a (.dK kvs) ∧ ∀ p, H p = none → Q (.ref p) (upd H p (.tup (kvs.map fun kv => kV kv.1)))) := by
  intro pins s σ H xs us Q I rs ⟨a, kvs, ex, hd, q⟩
  subst ex
  obtain ⟨u, rfl, rx⟩ := vals1 rs
  cases rx
  obtain ⟨len, lo, vs, rel, dd⟩ := dk_rd I.hok hd
  obtain ⟨ep, hat⟩ := dd.dictAt
  have e := congrArg (List.map kV) rel.keys; rw [List.map_map, List.map_map] at e
  have ek : (kvs.map fun kv => kV kv.1) = (vs.map fun kv => kV kv.1) := e
  refine td_call (kdl_dict (knd := mixKind X.prog X.w) (kvs := vs) (ep := ep) lo) (I.ok.hd calm) hat (by rw [← rel.length]; exact len) fun hp k acc kp it => ?_
  have hv : Vals (vs.map fun p => kV p.1) acc.toList := keys_at (by rw [Array.length_toList]; exact it.1) fun j v e => it.2 j v (by rw [← Array.getElem?_toList]; exact e)
  have I1 : Inv X pins σ H { s with heap := hp, toks := k } := I.kept (t' := k) kp
  have I2 : Inv X pins σ (upd H hp.objs.size (.tup (kvs.map fun kv => kV kv.1))) { s with heap := hp.push { cls := .type "tuple", data := .seq acc }, toks := k } :=
    I1.laid (t' := k) (fun b o e => Heap.get?_push_of_some _ e) (Nat.le_refl _) (show ObjOk X.prog X.w _ _ _ (.tup (kvs.map fun kv => kV kv.1)) from ⟨by rw [List.length_map]; exact len, acc.toList, by rw [ek]; exact hv, by rw [Array.toArray_toList]; exact IsTup.new _ _⟩)
  exact ⟨.ref hp.objs.size, _, I2, rfl, q _ (I1.hok.fresh (Nat.le_refl _))⟩
end
end L2.TB
/-! the law: parts of a field -/
namespace L2.TB
open PySem PySem.Spec PyProof.Rows
theorem cut_toN (xs : List V) (r : Int) (h0 : 0 ≤ r) (h1 : r < xs.length + 1) : cutV xs none (some r) = xs.take r.toNat := by
  have e2 : HT.sIx xs.length xs.length (some r) = r.toNat := by
    unfold HT.sIx
    simp only []
    rw [if_neg (show ¬ r < 0 by omega)]; omega
  unfold cutV
  rw [show HT.sIx xs.length 0 none = 0 from rfl, e2]; simp
section
variable {P : Program} {w : World} {K : PySem.W.Frag} {mg : Str → Option Value} {base : Heap} {f C fI : Addr}
theorem turn_f (L : LawL P w K mg base C fI) {cdv : Value} {A : Around} {outer : List Env} {s : Shared} {H : Hp} {E : XK} (hr : Room 7 (A.deeper (envOfC "law" (defScope sLaw) s.heap.objs.size f cdv))) :
    ∃ t, PSs (cxOf CX0 P w K mg base NLw "law" (defScope sLaw) f cdv A outer s H E).nox (bodyT.drop 16) t ∧ ∀ (Dn : Ends) (H0 : Hp) (s0 s2 s5 s6 s8 s10 s12 s13 s14 s15 : Option V) (l ls D pl x y : Addr) (X : Str) (rs : RsT) (N : Int), TSt C l ls D pl x X rs N H0 → BothT C l ls y X rs H0 → N ≤ 300000 →
      (∀ H' t5 t12, Strm H' l ls (N + 100) → Dn.nx [s0, some (.ref l), s2, some (.str X), some (.ref D), t5, s6, some (.ref pl), s8, some (.ref x), s10, some (.ref y), t12, s13, s14, s15] H') →
      t Dn [s0, some (.ref l), s2, some (.str X), some (.ref D), s5, s6, some (.ref pl), s8, some (.ref x), s10, some (.ref y), s12, s13, s14, s15] H0 := by
  obtain ⟨fdI, bI, GI⟩ := L.init
  obtain ⟨fE, fdE, mE, bE, GE, GO⟩ := L.eq
  obtain ⟨fM, fdM, gM, kM, bM, GM⟩ := L.mixed
  obtain ⟨fD, fdD, gD, kD, bD, GD⟩ := L.draw
  obtain ⟨fN, fdN, mN, bN, GN⟩ := L.only
  obtain ⟨fP, fdP, gP, kP, bP, GP⟩ := L.part
  obtain ⟨fT, fdT, gT, kT, bT, GT⟩ := L.tells
  have gC := L.gC
  have S := L.S
  have nd := scLaw.nd
  refine ⟨_, pss_cons (ps_set (i := 5) nd rfl (Or.inl rfl) (pe_slice (r := rSlL K) sl_list (pe_call GM (hr.mono (by decide)) rfl gM kM bM .nil pass0 (pa_cons (pv 1) (pa_cons (pe_callTy (call_listD rfl) rfl L.nL boot_list' (pa_cons (pv 4) pa_nil)) pa_nil))) po_none (po_some (pe_op op_add pe_int (pe_call GD (hr.mono (by decide)) rfl gD kD bD .nil pass0 (pa_cons (pv 1) (pa_cons (pe_callB call_lenD rfl L.nN boot_len (pa_cons (pv 4) pa_nil)) pa_nil)))))))
    (pss_cons (ps_if (pt_cmpR (op_neI (E := E0) GE (hr.mono (by decide)) mE L.ne L.ob bE pass0) (pe_meth (pv 9) S.cl mN GN (hr.mono (by decide)) bN .nil pass0 (pa_cons (pv 5) pa_nil)) (pe_make L.made GI (hr.mono (by decide)) rfl gC bI .nil pass0 (pa_cons (pv 3) (pa_cons (pe_call GP (hr.mono (by decide)) rfl gP kP bP .nil pass0 (pa_cons (pv 4) (pa_cons (pv 5) pa_nil))) pa_nil))) (nomark _)) (pss_one ps_never) pss_nil)
    (pss_cons (ps_if (pt_cmpR (op_neI (E := E0) GE (hr.mono (by decide)) mE L.ne L.ob bE pass0) (pe_meth (pv 11) S.cl mN GN (hr.mono (by decide)) bN .nil pass0 (pa_cons (pe_callTy (call_tupD rfl) rfl L.nT boot_tuple' (pa_cons (pv 4) pa_nil)) pa_nil)) (pv 9) (nomark _)) (pss_one ps_never) pss_nil)
    (pss_cons (ps_set (i := 12) nd rfl (Or.inl rfl) (pe_tup (pa_cons (pv 3) (pa_cons (pe_call GP (hr.mono (by decide)) rfl gP kP bP .nil pass0 (pa_cons (pv 4) (pa_cons (pv 5) pa_nil))) pa_nil))))
    (pss_one (ps_if (PW.pt (pw_or (pt_not (pt_val (pe_call GT (hr.mono (by decide)) rfl gT kT bT .nil pass0 (pa_cons (pv 1) (pa_cons (pe_meth (pv 9) S.cl mN GN (hr.mono (by decide)) bN .nil pass0 (pa_cons (pv 5) pa_nil)) (pa_cons (pv 12) pa_nil))))))
        (pw_or1 (pt_not (pt_val (pe_call GT (hr.mono (by decide)) rfl gT kT bT .nil pass0 (pa_cons (pv 1) (pa_cons (pv 9) (pa_cons (pv 7) pa_nil))))))))) (pss_one ps_never) pss_nil))))), ?_⟩
  intro Dn H0 s0 s2 s5 s6 s8 s10 s12 s13 s14 s15 l ls D pl x y X rs N T0 B0 hN fin
  have lok := T0.d.al.ok
  have few := T0.d.few
  have n0 := T0.d.ok.n0
  obtain ⟨D', es, e1, aD, oD, rnd, pr⟩ := id T0.d.hD
  obtain rfl := V.ref.inj e1
  have les : es.length = rs.length := Paired.length pr
  have kes : (es.map fun kv => kV kv.1) = (rs.map (·.1)).map V.str := keys_L pr
  refine ⟨_, rfl, _, rfl, D, es, rfl, .inl oD, fun x1 nx1 => ?_⟩
  have k1 := same_new (o := .lst (es.map fun kv => kV kv.1)) nx1
  refine ⟨l, ls, x1, _, N, rfl, T0.d.S.same k1, by omega, SqL.of upd_same, by rw [List.length_map]; omega, fun H2 q ys pm nq oq S2 B2 => ?_⟩
  have aq := (T0.d.S.same k1).apart (Same.refl _) nq
  rw [kes] at pm
  obtain ⟨ks, pks, rfl⟩ := perm_lift pm rfl
  have lks : ks.length = rs.length := by rw [pks.length_eq, List.length_map]
  rw [List.length_map, les] at S2
  have B02 : But l ls H0 H2 := (But.of k1).trans B2
  have T2 := T0.but B02 S2
  have Bo2 := B0.but B02
  generalize upd H0 x1 (.lst (es.map fun kv => kV kv.1)) = Hx at k1 B2
  have oD2 := B02 _ _ aD.1 aD.2 oD
  refine ⟨_, rfl, _, rfl, D, es, rfl, oD2, l, ls, _, _, rfl, S2, by omega, by omega, by omega, fun H3 r r0 r1 S3 B3 => ?_⟩
  have oq3 := B3 _ _ aq.1 aq.2 oq
  have T3 := T2.but B3 S3
  have Bo3 := Bo2.but B3
  refine ⟨_, _, rfl, rfl, _, rfl, q, _, rfl, SqL.of oq3, fun p np => ?_⟩
  rw [cut_toN _ _ (by omega) (by rw [List.length_map]; omega), ← List.map_take]
  obtain ⟨sub, esub, sin⟩ := sub_of (rs := rs) (ks := ks.take (1 + r).toNat) fun n hn => pks.mem_iff.mp (List.mem_of_mem_take hn)
  have lsub : sub.length = (1 + r).toNat := by
    have z := congrArg List.length esub
    rw [List.length_map, List.length_take] at z
    omega
  have snd : (sub.map (·.1)).Nodup := by rw [esub]; exact (pks.nodup_iff.mpr rnd).sublist (List.take_sublist _ _)
  have sok : RsOk X sub := T0.d.ok.part sin snd (by omega) (by omega)
  rw [← esub]
  have kp := same_new (o := .lst ((sub.map (·.1)).map V.str)) np
  have op : upd H3 p (.lst ((sub.map (·.1)).map V.str)) p = _ := upd_same
  have T4 := T3.same kp
  have Bo4 := Bo3.but (.of kp)
  generalize upd H3 p (.lst ((sub.map (·.1)).map V.str)) = H4 at kp op T4 Bo4
  clear kes pm pks oq oq3 oD2 T3 Bo3 T2 Bo2 B02 B2 k1 B3 S2 S3
  -- only some
  obtain ⟨dx, _, hx, _⟩ := id T4.hx.1.ex
  refine ⟨_, rfl, x, dx, _, rfl, hx, rfl, _, rfl, x, p, X, rs, sub, _, rfl, T4.hx.1, .inl op, sin, lok, sok, fun H5 y5 ny5 Ty5 k5 => ?_⟩
  have T5 := T4.same k5
  refine ⟨_, rfl, _, rfl, _, rfl, D, p, rs, sub, _, rfl, T5.d.hD, k5 _ _ op, sin, snd, by omega, fun H6 g6 ng6 at6 k6 => ?_⟩
  obtain ⟨es6, og6, hp6⟩ := hand_of (K := K) at6
  have ee : ∀ {zs : RsT}, RsOk X zs → (decide (X = X) && eqRs zs zs) = true := fun h => by rw [decide_eq_true rfl, eqRs_refl (h.s lok)]; rfl
  refine made_ma lok og6 hp6 sok fun H7 y7 ny7 Ty7 k7 => cmp_ma _ (Ty5.same (k6.trans k7)) Ty7 fun H8 k8 => ⟨false, by rw [ee sok]; rfl, iteF ?_⟩
  have k48 := ((k5.trans k6).trans k7).trans k8
  have T8 := T4.same k48
  have Bo8 := Bo4.but (.of k48)
  have op8 := k48 _ _ op
  clear T4 T5 Bo4 k5 k6 k7 k8 k48 ny5 Ty5 ny7 Ty7 at6 og6 hp6 ng6 hx kp
  -- all of both but one
  obtain ⟨dy, _, hy, _⟩ := id Bo8.m.ex
  obtain ⟨D', es, e1, aD, oD, rnd, pr⟩ := id T8.d.hD
  obtain rfl := V.ref.inj e1
  refine ⟨_, rfl, y, dy, _, rfl, hy, rfl, _, rfl, D, es, rfl, .inl oD, fun c nc => ?_⟩
  have kes : (es.map fun kv => kV kv.1) = (rs.map (·.1)).map V.str := keys_L pr
  rw [kes]
  have kc := same_new (o := .tup ((rs.map (·.1)).map V.str)) nc
  refine ⟨y, c, X, _, rs, _, rfl, (Bo8.but (.of kc)).m, .inr upd_same, fun q hq => List.mem_append_left _ hq, lok, T8.d.ok, fun H9 y9 ny9 Ty9 k9 => ?_⟩
  have T9 := (T8.same kc).same k9
  refine ⟨_, rfl, cmp_ma _ Ty9 T9.hx.1 fun H10 k10 => ⟨false, by rw [ee T8.d.ok]; rfl, iteF ?_⟩⟩
  have T10 := T9.same k10
  have op10 := k10 _ _ (k9 _ _ (kc _ _ op8))
  clear T8 Bo8 T9 Ty9 ny9 k9 k10 kc op8 hy oD pr nc
  -- what they tell
  refine ⟨_, rfl, _, rfl, _, rfl, D, p, rs, sub, _, rfl, T10.d.hD, op10, sin, snd, by omega, fun H11 g ng at11 k11 => ?_⟩
  have ag := T10.d.S.apart (Same.refl _) ng
  refine ⟨(by show 2 ≤ sizeLine; decide), fun pl2 npl2 => ?_⟩
  have kq := same_new (o := .tup [.str X, .ref g]) npl2
  have oq : upd H11 pl2 (.tup [.str X, .ref g]) pl2 = _ := upd_same
  have T12 := (T10.same k11).same kq
  have op12 := kq _ _ (k11 _ _ op10)
  have at12 : PyD.at_ (fun b => b ≠ l ∧ b ≠ ls) (upd H11 pl2 (.tup [.str X, .ref g])) (.ref g) (Dc.mk sub) := PyD.kp at11 fun b o a e => ⟨a.elim (fun z => by rw [z]; exact ag) id, kq _ _ e⟩
  generalize upd H11 pl2 (.tup [.str X, .ref g]) = H12 at oq T12 op12 at12
  obtain ⟨dx, _, hx, _⟩ := id T12.hx.1.ex
  refine ⟨_, rfl, _, rfl, x, dx, _, rfl, hx, rfl, _, rfl, x, p, X, rs, sub, _, rfl, T12.hx.1, .inl op12, sin, lok, sok, fun H13 y13 ny13 Ty13 k13 => ?_⟩
  have T13 := T12.same k13
  have gin : H12 g ≠ none := fun z => by
    obtain ⟨g', eg, e1, _, og, _⟩ := at12
    obtain rfl := V.ref.inj e1
    rw [og] at z
    cases z
  refine ⟨_, rfl, l, ls, y13, pl2, g, X, sub, _, _, _, rfl, T13.d.S, by omega, k13 _ _ oq, Ty13, PyD.kp at12 fun b o a e => ⟨a, k13 _ _ e⟩, fun b a => ⟨(T12.d.S.apart (Same.refl _) a).1, (T12.d.S.apart (Same.refl _) a).2, fun z => gin (by rw [← z]; exact a)⟩, fun b a => a, lok, T0.d.al.ix, sok, fun H14 S14 B14 => ⟨_, rfl, iteF ?_⟩⟩
  have T14 := T13.but B14 S14
  refine ⟨_, rfl, _, rfl, _, rfl, l, ls, x, pl, D, X, rs, _, _, _, rfl, T14.d.S, by omega, T14.hp.1, T14.hx.1, T14.d.hD, fun b a => a, fun b a => a, lok, T0.d.al.ix, T14.d.ok, fun H15 S15 B15 => ⟨_, rfl, iteF ?_⟩⟩
  exact fin H15 _ _ (S15.mono (by omega))
end
end L2.TB
/-! the law -/
namespace L2.TB
open PySem PySem.Spec PyProof.Rows
def spLawT (K : PySem.W.Frag) : Sp := fun vs H Q _ => ∃ (a : Addr) (ns : List Int), vs = [.ref a] ∧ SqL K H a (ns.map V.int) ∧ ns.length ≤ 63 ∧ ∀ H', Q (.bl true) H'
section
variable {P : Program} {w : World} {K : PySem.W.Frag} {mg : Str → Option Value} {base : Heap} {f C fI : Addr} {fd : FuncData}
theorem ok_law (F : Fun K "law" "law" sLaw f fd) (L : LawL P w K mg base C fI) : FnOk P w K mg base CX0 8 f fd ["script"] (spLawT K) := by
  obtain ⟨fS, fdS, gS, kS, bS, GS⟩ := L.start
  refine F.ok scLaw (fun vs H Q E h => by obtain ⟨a, ns, e, _⟩ := h; rw [e]; rfl) fun cdv A outer s H vs Q E hr hsp => ?_
  obtain ⟨a, cs, rfl, hS, hn, hq⟩ := hsp
  have nd := scLaw.nd
  obtain ⟨tF, pF, rF⟩ := turn_f L (outer := outer) (H := H) (E := E) hr
  obtain ⟨tE, pE, rE⟩ := turn_e L (outer := outer) (H := H) (E := E) hr pF
  obtain ⟨tD, pD, rD⟩ := turn_d L (outer := outer) (H := H) (E := E) hr pE
  obtain ⟨tC, pC, rC⟩ := turn_c L (outer := outer) (H := H) (E := E) hr pD
  obtain ⟨tB, pB, rB⟩ := turn_b L (outer := outer) (H := H) (E := E) hr pC
  obtain ⟨tA, pA, rA⟩ := turn_a L (outer := outer) (H := H) (E := E) hr pB
  refine ⟨_, pss_cons (ps_set (i := 1) nd rfl (Or.inl rfl) (pe_call GS (hr.mono (by decide)) rfl gS kS bS .nil pass0 (pa_cons (pv 0) pa_nil)))
    (pss_cons (ps_for PassesOwn.never rfl (pi_range1 rfl L.nR (pa_cons pe_int pa_nil)) (pg_name (i := 2) nd rfl (Or.inl rfl)) pA)
    (pss_one (ps_ret pe_bl))), ?_⟩
  refine ⟨_, rfl, a, cs, rfl, hS, by omega, fun H1 l ls nl k1 S1 nls => ?_⟩
  refine ⟨4, rfl, by decide, by decide, for_range (n := 4) (fun i σ H' => Strm H' l ls (1600 * (i : Int)) ∧ ∃ s2 s3 s4 s5 s6 s7 s8 s9 s10 s11 s12, σ = [some (.ref a), some (.ref l), s2, s3, s4, s5, s6, s7, s8, s9, s10, s11, s12, none, none, none])
    ⟨by simpa using S1, _, _, _, _, _, _, _, _, _, _, _, rfl⟩ ?_ ?_⟩
  · rintro i σ H2 hi ⟨S2, s2, s3, s4, s5, s6, s7, s8, s9, s10, s11, s12, rfl⟩
    refine rA _ H2 _ _ s3 s4 s5 s6 s7 s8 s9 s10 s11 s12 none none none l ls _ S2 (by omega) fun H3 D X rs t5 t6 T3 => ?_
    refine rB _ H3 _ _ t5 t6 s7 s8 s9 s10 s11 s12 none none none l ls D X rs _ T3 (by omega) fun H4 pl x t8 T4 => ?_
    refine rC _ H4 _ _ t5 t6 t8 s10 s11 s12 none none l ls D pl x X rs _ T4 (by omega) fun H5 T5 => ?_
    refine rD _ H5 _ _ t5 t6 t8 s10 s11 s12 none none l ls D pl x X rs _ T5 (by omega) fun H6 T6 => ?_
    refine rE _ H6 _ _ t5 t6 t8 s10 s11 s12 none none l ls D pl x X rs _ T6 fun H7 y t10 T7 B7 => ?_
    refine rF _ H7 _ _ t5 t6 t8 t10 s12 none none none l ls D pl x y X rs _ T7 B7 (by omega) fun H8 u5 u12 S8 => ?_
    exact ⟨S8.mono (by omega), _, _, _, _, _, _, _, _, _, _, _, rfl⟩
  · rintro σ H2 ⟨S2, s2, s3, s4, s5, s6, s7, s8, s9, s10, s11, s12, rfl⟩
    exact hq H2
end
end L2.TB
namespace L2.TB
open PySem PySem.Spec PyProof.Rows
section
variable {K : PySem.W.Frag} {h : Heap} {mg : Str → Option Value}
theorem fun_ofD {x q : Str} {st : Stmt} {f : Addr} {fd : FuncData} (F : FunD K x q (defArgs st) (defBody st) (defScope st) [] [] f fd) : Fun K x q st f fd := by
  obtain ⟨⟨oc, od, dV, kV, doc, pm, an, cdv, ct, osl, e, lk, hc, hd, hk⟩, kp⟩ := F
  obtain rfl : dV = .none := hd.elim (fun z => z.2) fun z => absurd rfl z.1
  exact ⟨⟨oc, od, kV, doc, pm, an, cdv, ct, osl, e, lk, hc⟩, kp⟩
theorem def_at (c : He.SaysD faT fnT K) (X : K.In h) (G : h.Ns mainGlobals mg) (i k : Nat) {x : Str} {st : Stmt} (ei : faT[i]? = some (.glo x)) (ek : fnT[k]? = some (dd (x, none) x x st [])) :
    mg x = some (.ref (He.ga K x)) ∧ ∃ fd, Fun K x x st (He.ga K x) fd := by
  obtain ⟨fd, F⟩ := c.def_ k ek
  exact ⟨He.glo_ok X G (c.fact i ei), fd, fun_ofD F⟩
theorem cmeth_at (c : He.SaysD faT fnT K) (i k : Nat) {C m q : Str} {st : Stmt} (ei : faT[i]? = some (.meth C m)) (ek : fnT[k]? = some (dd (C, some m) m q st [])) :
    Meth K (He.ga K C) m (He.ma K (He.ga K C) m) ∧ ∃ fd, Fun K m q st (He.ma K (He.ga K C) m) fd := by
  obtain ⟨fd, F⟩ := c.def_ k ek
  exact ⟨He.meth_ok (c.fact i ei), fd, fun_ofD F⟩
theorem init_at (c : He.SaysD faT fnT K) (k : Nat) {C q : Str} {st : Stmt} (ek : fnT[k]? = some (dd (C, some "__init__") "__init__" q st [])) : ∃ fd, Fun K "__init__" q st (He.ma K (He.ga K C) "__init__") fd := by
  obtain ⟨fd, F⟩ := c.def_ k ek
  exact ⟨fd, fun_ofD F⟩
/-- of a class with an own == and | -/
theorem own_ok {C : Addr} (cl : Cls K C) (h : ownQ K C = true) : PySem.W.selfFirst K C = true ∧ C8.InsC K C ∧ PySem.W.findIn K (.ref C) "__ne__" = some (some (.builtin "object.__ne__")) ∧ PySem.W.mroIn K C (.type "object") = some true ∧ ∀ t ∈ ["NoneType", "int", "dict", "str"], PySem.W.notFirst K C (.type t) = true ∧ PySem.W.kitOne K (.type t) (.ref C) = some false := by
  obtain ⟨h0, h2⟩ := He.ba h
  obtain ⟨h0, h1⟩ := He.ba h0
  obtain ⟨h3, h4⟩ := He.ba h2
  obtain ⟨v1, h5⟩ := He.ba h1
  obtain ⟨v2, h6⟩ := He.ba h5
  obtain ⟨v3, v4⟩ := He.ba h6
  refine ⟨h0, ⟨cl, He.eqO_ok v1, He.eqO_ok v2, of_decide_eq_true v3, of_decide_eq_true v4, by unfold PySem.W.kitOne; rw [if_pos (by simp)]⟩, He.eqO_ok h3, of_decide_eq_true v4, fun t ht => ?_⟩
  obtain ⟨z1, z2⟩ := He.ba (List.all_eq_true.mp h4 t ht)
  exact ⟨z1, of_decide_eq_true z2⟩
end
theorem facts {P : Program} {w : World} {K : PySem.W.Frag} {h : Heap} {mg : Str → Option Value} {f : Addr} (X : K.In h) (G : h.Ns mainGlobals mg) (hfa : mg ("law" : Str) = some (.ref f)) (cc : SaysK h K) :
    ∃ fd : FuncData, (∀ (s : Shared) (v : Value), BindsTo s fd ⟨[v], []⟩ [("script", v)]) ∧ ∀ base : Heap, K.In base → base.Ns mainGlobals mg → (∀ p ∈ csL K, LamX.TabB base mg p.1 p.2) → FnOk P w K mg base CX0 8 f fd ["script"] (spLawT K) := by
  have c := cc.d
  obtain ⟨gStart, dStart, FStart⟩ := def_at c X G 0 0 (x := "_law_start") (st := sStart) rfl rfl
  obtain ⟨gDraw, dDraw, FDraw⟩ := def_at c X G 1 1 (x := "_law_draw") (st := sDraw) rfl rfl
  obtain ⟨gPick, dPick, FPick⟩ := def_at c X G 2 2 (x := "_law_pick") (st := sPick) rfl rfl
  obtain ⟨gMixed, dMixed, FMixed⟩ := def_at c X G 3 3 (x := "_law_mixed") (st := sMixed) rfl rfl
  obtain ⟨gSame, dSame, FSame⟩ := def_at c X G 4 4 (x := "_law_same") (st := sSame) rfl rfl
  obtain ⟨gNameL, dNameL, FNameL⟩ := def_at c X G 5 5 (x := "_law_name") (st := sNameL) rfl rfl
  obtain ⟨gNamesL, dNamesL, FNamesL⟩ := def_at c X G 6 6 (x := "_law_names") (st := sNamesL) rfl rfl
  obtain ⟨gReaderL, dReaderL, FReaderL⟩ := def_at c X G 7 7 (x := "_law_m_reader") (st := sReaderL) rfl rfl
  obtain ⟨gToldL, dToldL, FToldL⟩ := def_at c X G 8 8 (x := "_law_m_told") (st := sToldL) rfl rfl
  obtain ⟨gWordL, dWordL, FWordL⟩ := def_at c X G 9 9 (x := "_law_m_word") (st := sWordL) rfl rfl
  obtain ⟨gHanded, dHanded, FHanded⟩ := def_at c X G 10 10 (x := "_law_handed") (st := sHanded) rfl rfl
  obtain ⟨gSpoil, dSpoil, FSpoil⟩ := def_at c X G 11 11 (x := "_law_spoil") (st := sSpoil) rfl rfl
  obtain ⟨gOthers, dOthers, FOthers⟩ := def_at c X G 12 12 (x := "_law_others") (st := sOthers) rfl rfl
  obtain ⟨gWith, dWith, FWith⟩ := def_at c X G 13 13 (x := "_law_with") (st := sWith) rfl rfl
  obtain ⟨gInOrder, dInOrder, FInOrder⟩ := def_at c X G 14 14 (x := "_law_in_order") (st := sInOrder) rfl rfl
  obtain ⟨gTurned, dTurned, FTurned⟩ := def_at c X G 15 15 (x := "_law_turned") (st := sTurned) rfl rfl
  obtain ⟨gTells, dTells, FTells⟩ := def_at c X G 16 16 (x := "_law_tells") (st := sTells) rfl rfl
  obtain ⟨gPart, dPart, FPart⟩ := def_at c X G 17 17 (x := "_law_part") (st := sPart) rfl rfl
  obtain ⟨gLaw, dLaw, FLaw⟩ := def_at c X G 18 18 (x := "law") (st := sLaw) rfl rfl
  obtain ⟨gIsInt, dIsInt, FIsInt⟩ := def_at c X G 19 19 (x := "is_integer") (st := sIsInt) rfl rfl
  obtain ⟨gIsCount, dIsCount, FIsCount⟩ := def_at c X G 20 20 (x := "is_count") (st := sIsCount) rfl rfl
  obtain ⟨gIsList, dIsList, FIsList⟩ := def_at c X G 21 21 (x := "is_list") (st := sIsList) rfl rfl
  obtain ⟨gIsPair, dIsPair, FIsPair⟩ := def_at c X G 22 22 (x := "is_pair") (st := sIsPair) rfl rfl
  obtain ⟨gIsName, dIsName, FIsName⟩ := def_at c X G 23 23 (x := "is_name") (st := sIsName) rfl rfl
  obtain ⟨gIsOne, dIsOne, FIsOne⟩ := def_at c X G 24 24 (x := "is_one_of") (st := sIsOne) rfl rfl
  obtain ⟨gIsStr, dIsStr, FIsStr⟩ := def_at c X G 25 25 (x := "is_string_of") (st := sIsStr) rfl rfl
  obtain ⟨gIsWord, dIsWord, FIsWord⟩ := def_at c X G 26 26 (x := "is_word") (st := sIsWord) rfl rfl
  obtain ⟨gAreLet, dAreLet, FAreLet⟩ := def_at c X G 27 27 (x := "are_letters") (st := sAreLet) rfl rfl
  obtain ⟨gIsDigit, dIsDigit, FIsDigit⟩ := def_at c X G 28 28 (x := "is_digit") (st := sIsDigit) rfl rfl
  obtain ⟨gHasJust, dHasJust, FHasJust⟩ := def_at c X G 29 29 (x := "has_just") (st := sHasJust) rfl rfl
  obtain ⟨gFirst, dFirst, FFirst⟩ := def_at c X G 30 30 (x := "first_bad") (st := sFirst) rfl rfl
  obtain ⟨gCkK, dCkK, FCkK⟩ := def_at c X G 31 31 (x := "check_known") (st := sCkK) rfl rfl
  obtain ⟨gCkA, dCkA, FCkA⟩ := def_at c X G 32 32 (x := "check_asked") (st := sCkA) rfl rfl
  obtain ⟨gCkB, dCkB, FCkB⟩ := def_at c X G 33 33 (x := "check_both") (st := sCkB) rfl rfl
  obtain ⟨gCkLet, dCkLet, FCkLet⟩ := def_at c X G 34 34 (x := "check_letters") (st := sCkLet) rfl rfl
  obtain ⟨gJoint, dJoint, FJoint⟩ := def_at c X G 35 35 (x := "joint_of") (st := sJoint) rfl rfl
  obtain ⟨gAlong, dAlong, FAlong⟩ := def_at c X G 36 36 (x := "told_along") (st := sAlong) rfl rfl
  obtain ⟨gIsReader, dIsReader, FIsReader⟩ := def_at c X G 37 37 (x := "_is_reader") (st := sIsReader) rfl rfl
  obtain ⟨gOwn, dOwn, FOwn⟩ := def_at c X G 38 38 (x := "_own") (st := sOwn) rfl rfl
  obtain ⟨dInit, FInit⟩ := init_at c 39 (C := "Machines") (q := "Machines.__init__") (st := sInit) rfl
  obtain ⟨mEqM, dEqM, FEqM⟩ := cmeth_at c 62 40 (C := "Machines") (m := "__eq__") (q := "Machines.__eq__") (st := sEqM) rfl rfl
  obtain ⟨mOr, dOr, FOr⟩ := cmeth_at c 63 41 (C := "Machines") (m := "__or__") (q := "Machines.__or__") (st := sOr) rfl rfl
  obtain ⟨mLetters, dLetters, FLetters⟩ := cmeth_at c 64 42 (C := "Machines") (m := "letters") (q := "Machines.letters") (st := sLetters) rfl rfl
  obtain ⟨mReader, dReader, FReader⟩ := cmeth_at c 65 43 (C := "Machines") (m := "reader") (q := "Machines.reader") (st := sReader) rfl rfl
  obtain ⟨mQs, dQs, FQs⟩ := cmeth_at c 66 44 (C := "Machines") (m := "questions") (q := "Machines.questions") (st := sQs) rfl rfl
  obtain ⟨mHome, dHome, FHome⟩ := cmeth_at c 67 45 (C := "Machines") (m := "home") (q := "Machines.home") (st := sHome) rfl rfl
  obtain ⟨mAnswers, dAnswers, FAnswers⟩ := cmeth_at c 68 46 (C := "Machines") (m := "answers") (q := "Machines.answers") (st := sAnswers) rfl rfl
  obtain ⟨mOnly, dOnly, FOnly⟩ := cmeth_at c 69 47 (C := "Machines") (m := "only") (q := "Machines.only") (st := sOnly) rfl rfl
  obtain ⟨mJointM, dJointM, FJointM⟩ := cmeth_at c 70 48 (C := "Machines") (m := "_joint") (q := "Machines._joint") (st := sJointM) rfl rfl
  obtain ⟨mCkSome, dCkSome, FCkSome⟩ := cmeth_at c 71 49 (C := "Machines") (m := "_check_some") (q := "Machines._check_some") (st := sCkSome) rfl rfl
  have n_list : mg "list" = none := He.free_ok X G (c.fact 40 rfl)
  have n_len : mg "len" = none := He.free_ok X G (c.fact 41 rfl)
  have n_int : mg "int" = none := He.free_ok X G (c.fact 42 rfl)
  have n_str : mg "str" = none := He.free_ok X G (c.fact 43 rfl)
  have n_range : mg "range" = none := He.free_ok X G (c.fact 44 rfl)
  have n_dict : mg "dict" = none := He.free_ok X G (c.fact 45 rfl)
  have n_tuple : mg "tuple" = none := He.free_ok X G (c.fact 46 rfl)
  have n_bool : mg "bool" = none := He.free_ok X G (c.fact 47 rfl)
  have n_isinstance : mg "isinstance" = none := He.free_ok X G (c.fact 48 rfl)
  have n_all : mg "all" = none := He.free_ok X G (c.fact 49 rfl)
  have n_any : mg "any" = none := He.free_ok X G (c.fact 50 rfl)
  have n_enumerate : mg "enumerate" = none := He.free_ok X G (c.fact 51 rfl)
  have n_zip : mg "zip" = none := He.free_ok X G (c.fact 52 rfl)
  have n_set : mg "set" = none := He.free_ok X G (c.fact 53 rfl)
  have gC : mg "Machines" = some (.ref (He.ga K "Machines")) := He.glo_ok X G (c.fact 39 rfl)
  have gLo := He.int_ok X G (c.fact (f := .int "LONGEST" 40) 54 rfl)
  have gMl := He.int_ok X G (c.fact (f := .int "MOST_LETTERS" 3) 55 rfl)
  have gMs := He.int_ok X G (c.fact (f := .int "MOST_STATES" 6) 56 rfl)
  have gSg := He.str_ok X G (c.fact (f := .str "SIGNS" "abcdefghijklmnopqrstuvwxyz0123456789.") 57 rfl)
  have gSl := He.str_ok X G (c.fact (f := .str "SMALL_LETTERS" "abcdefghijklmnopqrstuvwxyz") 58 rfl)
  have S0 : MaC K (He.ga K "Machines") := ⟨He.cls_ok (c.fact 59 rfl), He.noat_ok (c.fact 60 rfl), He.noat_ok (c.fact 61 rfl)⟩
  have M : Sm mg := ⟨n_isinstance, n_list, n_tuple, n_int, n_bool, n_len, n_all, n_zip⟩
  have Mk0 := He.mkr_ok (c.fact (f := .mkr "Machines") 73 rfl)
  obtain ⟨sf1, IC1, ne1, ob1, far1⟩ := own_ok S0.cl cc.mo
  have e := hfa.symm.trans gLaw
  cases e
  obtain ⟨oc, od, kV, doc, pm, an, cdv, ct, osl, rfl, lk, hcd⟩ := id FLaw.ex
  refine ⟨PySem.W.fnOf "law" "law" (defArgs sLaw) (defBody sLaw) (defScope sLaw) .none kV doc pm an cdv ct, fun s v => .of_eq rfl, fun base _ _ _ => ?_⟩
  have bStart := FStart.binds (ps := ["script"]) fun _ _ _ _ _ _ us hl => match us, hl with | [_], _ => rfl
  have bDraw := FDraw.binds (ps := ["stream", "many"]) fun _ _ _ _ _ _ us hl => match us, hl with | [_, _], _ => rfl
  have bPick := FPick.binds (ps := ["stream", "some"]) fun _ _ _ _ _ _ us hl => match us, hl with | [_, _], _ => rfl
  have bMixed := FMixed.binds (ps := ["stream", "some"]) fun _ _ _ _ _ _ us hl => match us, hl with | [_, _], _ => rfl
  have bNamesL := FNamesL.binds (ps := ["stream", "many"]) fun _ _ _ _ _ _ us hl => match us, hl with | [_, _], _ => rfl
  have bReaderL := FReaderL.binds (ps := ["stream", "letters", "most", "digits"]) fun _ _ _ _ _ _ us hl => match us, hl with | [_, _, _, _], _ => rfl
  have bTurned := FTurned.binds (ps := ["stream", "readers"]) fun _ _ _ _ _ _ us hl => match us, hl with | [_, _], _ => rfl
  have bHanded := FHanded.binds (ps := ["stream", "readers"]) fun _ _ _ _ _ _ us hl => match us, hl with | [_, _], _ => rfl
  have bSpoil := FSpoil.binds (ps := ["handed"]) fun _ _ _ _ _ _ us hl => match us, hl with | [_], _ => rfl
  have bTells := FTells.binds (ps := ["stream", "field", "plan"]) fun _ _ _ _ _ _ us hl => match us, hl with | [_, _, _], _ => rfl
  have bOthers := FOthers.binds (ps := ["stream", "plan"]) fun _ _ _ _ _ _ us hl => match us, hl with | [_, _], _ => rfl
  have bPart := FPart.binds (ps := ["readers", "names"]) fun _ _ _ _ _ _ us hl => match us, hl with | [_, _], _ => rfl
  have bEqM := FEqM.binds (ps := ["self", "other"]) fun _ _ _ _ _ _ us hl => match us, hl with | [_, _], _ => rfl
  have bOr := FOr.binds (ps := ["self", "other"]) fun _ _ _ _ _ _ us hl => match us, hl with | [_, _], _ => rfl
  have bOnly := FOnly.binds (ps := ["self", "names"]) fun _ _ _ _ _ _ us hl => match us, hl with | [_, _], _ => rfl
  have bLetters := FLetters.binds (ps := ["self"]) fun _ _ _ _ _ _ us hl => match us, hl with | [_], _ => rfl
  have bQs := FQs.binds (ps := ["self"]) fun _ _ _ _ _ _ us hl => match us, hl with | [_], _ => rfl
  have bHome := FHome.binds (ps := ["self"]) fun _ _ _ _ _ _ us hl => match us, hl with | [_], _ => rfl
  have bReader := FReader.binds (ps := ["self", "name"]) fun _ _ _ _ _ _ us hl => match us, hl with | [_, _], _ => rfl
  have bAnswers := FAnswers.binds (ps := ["self", "world"]) fun _ _ _ _ _ _ us hl => match us, hl with | [_, _], _ => rfl
  have bJointM := FJointM.binds (ps := ["self", "names"]) fun _ _ _ _ _ _ us hl => match us, hl with | [_, _], _ => rfl
  have bCkSome := FCkSome.binds (ps := ["self", "known"]) fun _ _ _ _ _ _ us hl => match us, hl with | [_, _], _ => rfl
  have bInit := FInit.binds (ps := ["self", "letters", "readers"]) fun _ _ _ _ _ _ us hl => match us, hl with | [_, _, _], _ => rfl
  have GDr : FnOk P w K mg base CX0 1 _ _ ["stream", "many"] spDraw := ok_draw FDraw n_int
  have GPi : FnOk P w K mg base CX0 2 _ _ ["stream", "some"] (spPick K) := ok_pick FPick FDraw gDraw n_int n_len
  have GNm := ok_names (P := P) (w := w) (base := base) FNamesL FNameL gNameL FPick gPick FDraw gDraw n_int n_len n_range
  have GMi := ok_mixed (P := P) (w := w) (base := base) FMixed FDraw gDraw n_int n_len n_list n_range
  have GRl := ok_readerL (P := P) (w := w) (base := base) FReaderL FDraw gDraw FPick gPick FNamesL gNamesL GNm n_int n_len n_dict
  have GTu := ok_turned (P := P) (w := w) (base := base) FTurned gMixed FMixed.kp GMi bMixed n_dict n_list
  have GHa := ok_handed (P := P) (w := w) (base := base) FHanded FDraw gDraw FPick gPick n_int n_len n_dict n_list
  have GSo := ok_spoil (P := P) (w := w) (mg := mg) (base := base) FSpoil
  have GOt := ok_others (P := P) (w := w) (base := base) FOthers FDraw gDraw FPick gPick FWith gWith n_int n_len n_dict n_list
  have GPt := ok_part (P := P) (w := w) (base := base) FPart n_dict
  have GWo := ok_wordL (P := P) (w := w) (base := base) FWordL FDraw gDraw FPick gPick n_int n_len n_range
  have GNa : FnOk P w K mg base CX0 1 _ _ ["thing"] spIsName := ok_isName FIsName n_isinstance n_str n_len n_all gLo gSg
  have GIs := ok_isStr (P := P) (w := w) (base := base) FIsStr n_isinstance n_str n_all
  have GIw := ok_isWord (P := P) (w := w) (base := base) FIsWord FIsStr gIsStr n_isinstance n_str n_all n_len
  have GAl := ok_areLet (P := P) (w := w) (base := base) FAreLet FIsWord gIsWord GIw gSl n_len n_set
  have GCl := ok_ckLet (P := P) (w := w) (base := base) FCkLet FAreLet gAreLet GAl gMl n_len
  have GIc := ok_isCount (P := P) (w := w) (base := base) FIsCount FIsInt gIsInt n_isinstance n_int n_bool
  have GId := ok_isDigit (P := P) (w := w) (base := base) FIsDigit FIsCount gIsCount GIc
  have GPa := ok_pairA (P := P) (w := w) (base := base) FIsPair FIsList gIsList n_isinstance n_list n_tuple n_len
  have GIr := ok_isRd (P := P) (w := w) (base := base) FIsReader FIsPair gIsPair GPa FIsOne gIsOne FIsName gIsName GNa FIsDigit gIsDigit GId FHasJust gHasJust n_isinstance n_str n_dict n_len n_all gMs
  have GIn := ok_mInit (P := P) (w := w) (base := base) FInit S0 FCkLet gCkLet GCl FIsName gIsName GNa FIsReader gIsReader GIr FOwn gOwn n_isinstance n_dict n_len
  have GCa := ok_ckAD (P := P) (w := w) (base := base) FCkA FIsOne gIsOne n_isinstance n_str
  have GRe := ok_mReader (P := P) (w := w) (base := base) FReader S0 FCkA gCkA GCa FOwn gOwn
  have GFb := ok_firstD (P := P) (w := w) (base := base) FFirst FIsList gIsList FIsOne gIsOne n_isinstance n_list n_tuple n_str n_enumerate
  have GCk := ok_ckKD (P := P) (w := w) (base := base) FCkK FFirst gFirst GFb
  have GCs := ok_mSome (P := P) (w := w) (base := base) FCkSome S0 FCkK gCkK GCk n_len
  have GOr := ok_mOr (P := P) (w := w) (base := base) FOr S0 IC1 Mk0 gC GIn bInit n_isinstance
  have GOn := ok_mOnly (P := P) (w := w) (base := base) FOnly S0 Mk0 gC GIn bInit mCkSome GCs bCkSome
  have GJo := ok_joint (P := P) (w := w) (base := base) FJoint n_tuple n_len n_zip n_str rfl
  have GJm := ok_mJoint (P := P) (w := w) (base := base) FJointM S0 FJoint gJoint GJo
  have GAn := ok_mAns (P := P) (w := w) (base := base) FAnswers S0 FIsStr gIsStr GIs FAlong gAlong mJointM GJm bJointM
  have T0 : FldT P w K mg base (He.ga K "Machines") := { cl := S0.cl, qs := ⟨_, _, mQs, bQs, ok_mQs FQs S0 n_list⟩, le := ⟨_, _, mLetters, bLetters, ok_mLet FLetters S0⟩, ho := ⟨_, _, mHome, bHome, ok_mHome FHome⟩, re := ⟨_, _, mReader, bReader, GRe⟩, an := ⟨_, _, mAnswers, bAnswers, GAn⟩ }
  have GTe := ok_tells (P := P) (w := w) (base := base) FTells T0 M FSame gSame FInOrder gInOrder FWordL gWordL GWo FToldL gToldL n_str n_dict
  exact ok_law FLaw { S := S0, gC := gC, made := Mk0, sf := sf1, ne := ne1, ob := ob1, far := far1, init := ⟨_, bInit, GIn⟩, eq := ⟨_, _, mEqM, bEqM, ok_mEq FEqM S0 IC1 gC n_isinstance n_list, ok_mEqO FEqM gC n_isinstance⟩, or_ := ⟨_, _, mOr, bOr, GOr⟩, only := ⟨_, _, mOnly, bOnly, GOn⟩, start := ⟨_, _, gStart, FStart.kp, bStart, ok_start FStart n_list⟩, draw := ⟨_, _, gDraw, FDraw.kp, bDraw, GDr⟩, pick := ⟨_, _, gPick, FPick.kp, bPick, GPi⟩, mixed := ⟨_, _, gMixed, FMixed.kp, bMixed, GMi⟩, names := ⟨_, _, gNamesL, FNamesL.kp, bNamesL, GNm⟩, reader := ⟨_, _, gReaderL, FReaderL.kp, bReaderL, GRl⟩, turned := ⟨_, _, gTurned, FTurned.kp, bTurned, GTu⟩, handed := ⟨_, _, gHanded, FHanded.kp, bHanded, GHa⟩, spoil := ⟨_, _, gSpoil, FSpoil.kp, bSpoil, GSo⟩, tells := ⟨_, _, gTells, FTells.kp, bTells, GTe⟩, others := ⟨_, _, gOthers, FOthers.kp, bOthers, GOt⟩, part := ⟨_, _, gPart, FPart.kp, bPart, GPt⟩, nDi := n_dict, nL := n_list, nT := n_tuple, nY := n_any, nR := n_range, nN := n_len }
end L2.TB
open PySem PySem.W PySem.Calls PyProof.Rows
set_option maxHeartbeats 0 in
theorem PySem.Challenge.cw_twoworlds_k72_machines_made_holds : PySem.Challenge.rw_twoworlds_k72_machines_made.Holds := by
  w_on; o_law
  refine HandSHeadRun.head_any (r := L2.TB.HdR.R) (q := L2.TB.HdR.qv) (H := L2.TB.hookK) (ob := L2.TB.obT) (M := 16000) (loose := L2.TB.HdR.names)
    (d := HandSHeadRun.topDef L2.TB.HdR.R.prog 77) (kwd := []) L2.TB.obT_eq
    (by kernel_rfl) (fun s => by kernel_rfl) L2.TB.HdR.run (by kernel_rfl) (by kernel_rfl) (by kernel_rfl) (by rfl)
    (by first | assumption | decide +kernel) (by decide +kernel) ⟨rfl, rfl, rfl, rfl, rfl, by decide +kernel⟩ ?hw ?hc
  case hw => w_witness2
  case hc =>
    refine LamX.walk_ofTsE (l := PySem.Challenge.rw_twoworlds_k72_machines_made) (n := 63) (k := 8) (x := "script") (CX := fun _ => L2.CX0)
      rfl (by decide) (by kernel_rfl) ⟨rfl, by decide, by decide⟩ ?F (fun _ _ _ _ _ z => z)
    intro w mg fa h Y G hmg0
    obtain ⟨K, KX, c⟩ := Y
    have hmg : mg ("law" : PySem.Str) = some (.ref fa) := by
      have e : (HandSHeadRun.topDef L2.TB.HdR.R.prog 77).name = ("law" : PySem.Str) := by kernel_rfl
      rw [← e]; exact hmg0
    obtain ⟨fd, hb, hF⟩ := L2.TB.facts (P := PySem.Challenge.rw_twoworlds_k72_machines_made.prog) (w := w) KX G hmg c
    exact ⟨K, KX, fd, L2.TB.csL K, L2.TB.spLawT K, fun p hp => c.emptyC hp, fun p hp => c.outC hp, fun p hp => PySem.W.codeHd_of_K KX (c.hdC hp), hb, fun H a ns hl _ _ hS => ⟨a, ns, rfl, hS, by omega, fun _ => rfl⟩, hF⟩
