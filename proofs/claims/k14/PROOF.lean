import PyProof.Rows.All
import Wide.All
import OpenK.AllK
import Wide.FinOn
import HandS.ForMost
import HandS.Exc
import HandS.ExcInit
import HandS.IsInst
import HandS.Defaults
import HandS.Wide
import HandS.Conv
import HandS.Dict
import HandS.DictTup
import HandS.DictComp
import HandS.Flow
import HandS.Style
import HandS.TupSets
import HandS.NoneIn
import HandS.ForExc
import HandS.TryMany
import HandS.ExcField
import HandS.WordsExc
import HandS.HeadHook1
import HandS.HeadHook2
import HandS.Head0
import HandS.Head1
import HandS.Head2
import HandS.Head3
import HandS.HeadEnd
import HandS.HeadHook4
import HandS.Nested
import HandS.Iter
import KE.GoesEnum
import HandS.More
import HandS.Walk
import HandS.WordsDict
import HandS.OwnEq
import PyProof.InstEq
import KE.DatumMore
import KE.DataEq
import HandS.ListItems
import HandS.Codes
import HandS.Zip
import HandS.HeadWalk
import PySem.Challenge.RW_twoworlds_k14_sums_made
set_option Elab.async false
set_option linter.all false
set_option maxRecDepth 100000
set_option maxHeartbeats 40000000
namespace L2.TB
open PySem PySem.Spec PyProof.Rows
def topS (i : Nat) : Stmt := PySem.Challenge.pw_twoworlds_k14_sums_made.main.body.getD i (.Pass ⟨0, 0, 0, 0⟩)
abbrev sStart : Stmt := topS 51
abbrev sDraw : Stmt := topS 52
abbrev sPick : Stmt := topS 53
abbrev sMixed : Stmt := topS 54
abbrev sSame : Stmt := topS 55
abbrev sNameL : Stmt := topS 56
abbrev sNamesL : Stmt := topS 57
abbrev sSpare : Stmt := topS 58
abbrev sSumsL : Stmt := topS 59
abbrev sHanded : Stmt := topS 60
abbrev sWorldL : Stmt := topS 61
abbrev sAnswerL : Stmt := topS 62
abbrev sIsWorldL : Stmt := topS 63
abbrev sSharesL : Stmt := topS 64
abbrev sNumber : Stmt := topS 65
abbrev sOthers : Stmt := topS 66
abbrev sShTold : Stmt := topS 67
abbrev sShMade : Stmt := topS 68
abbrev sLaw : Stmt := topS 69
abbrev sIsInt : Stmt := topS 28
abbrev sIsList : Stmt := topS 29
abbrev sIsPair : Stmt := topS 30
abbrev sIsName : Stmt := topS 31
abbrev sIsOne : Stmt := topS 33
abbrev sHasJust : Stmt := topS 34
abbrev sFirst : Stmt := topS 35
abbrev sNoName : Stmt := topS 36
abbrev sCkK : Stmt := topS 37
abbrev sCkA : Stmt := topS 38
abbrev sCkB : Stmt := topS 39
abbrev sCkLack : Stmt := topS 40
abbrev sDot : Stmt := topS 3
abbrev sVec : Stmt := topS 4
abbrev sRem : Stmt := topS 6
abbrev sIsSide : Stmt := topS 44
abbrev sIsRow : Stmt := topS 45
abbrev sCkPrime : Stmt := topS 49
abbrev sTable : Stmt := topS 42
abbrev sSearch : Stmt := topS 48
abbrev sSInit : Stmt := inClass sSearch 0
abbrev sSEq : Stmt := inClass sSearch 1
abbrev sSQs : Stmt := inClass sSearch 2
abbrev sSUnk : Stmt := inClass sSearch 11
abbrev sSRow : Stmt := inClass sSearch 12
abbrev sInit : Stmt := inClass sTable 0
abbrev sEqM : Stmt := inClass sTable 1
abbrev sQs : Stmt := inClass sTable 2
abbrev sHome : Stmt := inClass sTable 3
abbrev sAnswers : Stmt := inClass sTable 4
abbrev sUnk : Stmt := inClass sTable 11
abbrev sRowM : Stmt := inClass sTable 12
abbrev sIsWorld : Stmt := inClass sTable 13
end L2.TB
/-! several except clauses, each with a name for the exception or without one -/
namespace TA
open PySem PySem.Spec PyProof.Rows L2
abbrev Cl := Value × Option Nat × (Addr → Value → Option Addr → TS)
/-- the ends of a suite whose name goes behind it -/
def goesE (i : Nat) (D : Ends) : Ends := { nx := fun σ H => D.nx (σ.set i none) H, rt := D.rt, bk := fun σ H => D.bk (σ.set i none) H, ct := fun σ H => D.ct (σ.set i none) H }
/-- what a clause does with the exception at a -/
def cl1 (k : Cl) (D : Ends) (a : Addr) (cls : Value) (d : Option Addr) (σ : L2.St) (H : Hp) : Prop := match k.2.1 with
  | none => k.2.2 a cls d D σ H
  | some i => k.2.2 a cls d (goesE i D) (σ.set i (some (.ref a))) H
def wCls (K : PySem.W.Frag) (Wout : WX) (D : Ends) : List Cl → WX
  | [] => Wout
  | k :: r => fun cls d σ H => ∃ b, PySem.W.exmOne K cls k.1 = some b ∧ (b = true → ∀ a, H a = none → cl1 k D a cls d σ H) ∧ (b = false → wCls K Wout D r cls d σ H)
/-- the name of a clause is a slot -/
def NamedAs (X : Cx) : Option Str → Option Nat → Prop
  | none, none => True
  | some n, some i => X.N[i]? = some n ∧ X.env.kindOf n = some .local
  | _, _ => False
inductive Cls (X : Cx) : List ExceptHandler → List Cl → Prop
  | nil : Cls X [] []
  | cons {x : Str} {on : Option Str} {k : Cl} {b₀ : Stmt} {suite : List Stmt} {np q : Pos} {hds : List ExceptHandler} {l : List Cl} (hn : NamedAs X on k.2.1) (hc : Names X x k.1)
      (hsu : ∀ (a : Addr) (oe : Obj) (cls : Value) (d : Option Addr) (pn : List (Addr × Obj)), Zc cls d oe → (∃ vs, oe.data = .fields vs) → PSs (X.suite a ((a, oe) :: pn)) (b₀ :: suite) (k.2.2 a cls d)) (r : Cls X hds l) :
      Cls X (.ExceptHandler (some (.Name x np)) on (b₀ :: suite) q :: hds) (k :: l)
section
variable {X : Cx} {body : List Stmt} {h₀ : ExceptHandler} {hds : List ExceptHandler} {l : List Cl} {pos : Pos} {tb : WX → TS} {Wout : WX}
theorem ps_try_cls (hs : X.stack = X.env :: X.outer) (hf : X.env.frame = some X.env.locals) (hN : X.N.Nodup) (tk : Takes X Wout)
    (hb : ∀ (W : WX) (pn : List (Addr × Obj)) (xe : Value → Shared → Prop), Takes (X.tr pn xe) W → PassesOwn (model X.prog X.w) X.A X.env xe → PSs (X.tr pn xe) body (tb W))
    (hh : Cls X (h₀ :: hds) l) : PS X (.Try body (h₀ :: hds) [] [] pos) (fun D σ H => tb (wCls X.K Wout D l) D σ H) := by
  refine ⟨fun pins s σ H D I reading => ?_⟩
  have okX := I.ok
  have frA : X.A.frames = some (X.env :: X.outer) := by rw [okX.frames, hs]
  refine wpAny_Try_except (wpAny_mono ((hb (wCls X.K Wout D l) (X.pn ++ pins) (fun e s1 => wpAny (model X.prog X.w) X.A (noteFrame e X.env)
    (fun _ s2 => wpAny (model X.prog X.w) X.A (setFlight e none) (fun _ s3 => wpAny (model X.prog X.w) X.A (handleBy e X.env (h₀ :: hds)) (SP X pins D) X.xe s3) X.xe s2) X.xe s1)
    (fun ev s1 caught => ?_) PassesOwn.looking).run [] s σ H D (I.toTry _) reading) (fun fl s1 done => ?_) (fun _ _ z => z))
  · obtain ⟨a, B, sI, pinsT, σ1, H1, cls, d, rfl, JT, nb, up1, sky, fresh, osE, bare, wish⟩ := caught
    have J : Inv X pins σ1 H1 sI := JT.ofTry okX
    show wpAny (model X.prog X.w) X.A (noteFrame (.ref a) X.env) _ _ _
    refine Sky.land Zc.steady frA hf (by rw [← hs]; exact sky) fun hL landed upL => ?_
    have JL : Inv X pins σ1 H1 { s1 with heap := hL } := J.landed nb landed.1 (up1.trans upL) osE bare
    obtain ⟨oL, vL, eL, zL, dL⟩ := landed.there
    have offFrames : a ∉ frs (X.env :: X.outer) := fun hm => by
      obtain ⟨_, o2, e2, no⟩ := landed.2.2.1.mem hm
      rw [eL] at e2
      cases e2
      exact no _ dL
    have offLocals : a ≠ X.env.locals := fun z => offFrames (List.mem_filterMap.mpr ⟨X.env, List.mem_cons_self, by rw [hf, z]⟩)
    have offFs : a ∉ X.fs := fun hm => by
      obtain ⟨e, he, q⟩ := List.mem_filterMap.mp hm
      exact offFrames (List.mem_filterMap.mpr ⟨e, List.mem_cons_of_mem _ he, q⟩)
    have SL := JL.suite eL dL fresh offLocals offFs
    have along : ∀ {hd2 : List ExceptHandler} {l2 : List Cl}, Cls X hd2 l2 → wCls X.K Wout D l2 cls d σ1 H1 → wpAny (model X.prog X.w) X.A (handleBy (.ref a) X.env hd2) (SP X pins D) X.xe { s1 with heap := hL } := by
      intro hd2 l2 hk
      induction hk with
      | nil =>
        intro w
        refine wpAny_handleBy_nil ?_
        obtain ⟨_, _, _, oe, vs, T, oT, _, he, _, hd, h1, _⟩ := id landed
        unfold PySem.passOn
        refine wpAny_bind (wpAny_field he hd h1 ?_)
        rw [if_neg (by simp)]
        have out : wpAny (model X.prog X.w) X.A (setFlight (.ref a) X.env.frame) (fun _ s4 => wpAny (model X.prog X.w) X.A (throw (.ref a) : Sem Flow) (SP X pins D) X.xe s4) X.xe { s1 with heap := hL } := by
          rw [hf]
          exact HandSPX.setFlight_upZ landed fun h4 up4 more => wpAny_throw (tk _ _ ⟨a, B, sI, pins, σ1, H1, cls, d, rfl, J, nb, (up1.trans upL).trans more, .inr (.inr (by rw [hs]; exact up4)), fresh, osE, bare, w⟩)
        first
          | exact wpAny_bind (wpAny_pure (wpAny_bind out))
          | exact wpAny_bind out
      | @cons x on k b₀ suite np q hds3 l3 hn hc hsu r ih =>
        intro w
        obtain ⟨b, isIt, yes, no⟩ := w
        refine wpAny_handleBy_cons (codeAny_handlers_test ?_) (fun z => by cases z)
        have seesClass : PySem.W.Looks (model X.prog X.w) hL (typeOf (.ref a)) cls := fun A Q E s2 kk go => wpAny_typeOf_ref (kk _ _ eL) (by rw [zL.1]; exact go)
        have matched := PySem.W.exm_one (M := model X.prog X.w) JL.kIn seesClass isIt
        have named : ∀ {Q E : Value → Shared → Prop}, Q k.1 { s1 with heap := hL } → wpAny (model X.prog X.w) (X.A.mark (some (.ref a))) (eval (.Name x np) X.env) Q E { s1 with heap := hL } := fun {Q E} go => by
          rcases hc with ⟨g1, g2, g3 | ⟨g3, g4, g5⟩⟩
          · exact ld_glob (X := X.suite a ((a, oL) :: (X.pn ++ pins))) SL g1 g3 go g2
          · exact ld_blt (X := X.suite a ((a, oL) :: (X.pn ++ pins))) SL g1 g3 g4 go g5 g2
        refine named (matched.here ?_)
        cases b with
        | false => exact ih (no rfl)
        | true =>
          obtain ⟨kc, oi, kt⟩ := k
          match on, oi, hn with
          | none, none, _ =>
            refine codeAny_handlers_suite (HandSPX.lands_againZ landed fun h4 l4 up4 => ?_)
            have J4 : Inv X pins σ1 H1 { s1 with heap := h4 } := J.landed nb l4.1 ((up1.trans upL).trans up4) osE bare
            obtain ⟨o4, v4, e4, z4, d4⟩ := l4.there
            have S4 := J4.suite e4 d4 fresh offLocals offFs
            refine wpAny_mono ((hsu a o4 cls d (X.pn ++ pins) z4 ⟨_, d4⟩).run [] _ σ1 H1 D S4 (yes rfl a fresh)) (fun f2 s6 hsp => ?_) (fun _ _ z => False.elim z)
            cases f2 with
            | ret u =>
              obtain ⟨v6, σ6, H6, S6, r6, q6⟩ := hsp
              exact ⟨v6, σ6, H6, S6.unsuite okX, r6, q6⟩
            | next => exact hsp.imp fun σ6 z => z.imp fun H6 z => ⟨z.1.unsuite okX, z.2⟩
            | brk => exact hsp.imp fun σ6 z => z.imp fun H6 z => ⟨z.1.unsuite okX, z.2⟩
            | cont => exact hsp.imp fun σ6 z => z.imp fun H6 z => ⟨z.1.unsuite okX, z.2⟩
          | some n, some i, hn =>
            refine codeAny_handlers_suite_as (HandSPX.lands_againZ landed fun h4 l4 up4 => ?_)
            have J4 : Inv X pins σ1 H1 { s1 with heap := h4 } := J.landed nb l4.1 ((up1.trans upL).trans up4) osE bare
            obtain ⟨o4, v4, e4, z4, d4⟩ := l4.there
            have S4 := J4.suite e4 d4 fresh offLocals offFs
            refine store_ok (X := X.suite a ((a, o4) :: (X.pn ++ pins))) (v := .ref a) S4 hN hn.1 (.inl hn.2) rfl (fun s5 S5 => ?_) (.inr hn.2)
            refine wpAny_mono ((hsu a o4 cls d (X.pn ++ pins) z4 ⟨_, d4⟩).run [] s5 _ H1 _ S5 (yes rfl a fresh)) (fun f2 s6 hsp => ?_) (fun _ _ z => False.elim z)
            have gone : ∀ {σ6 : L2.St} {H6 : Hp} {Q : Shared → Prop}, Inv (X.suite a ((a, o4) :: (X.pn ++ pins))) [] σ6 H6 s6 → (∀ s7, Inv X pins (σ6.set i none) H6 s7 → Q s7) →
                wpAny (model X.prog X.w) X.A (do bindName X.env n .none; unbindBehindTheSuite X.env n q) (fun _ s7 => Q s7) X.xe s6 := fun S6 go => gone_ok (S6.unsuite okX) hN hn.1 hn.2 go
            cases f2 with
            | ret u =>
              obtain ⟨v6, σ6, H6, S6, r6, q6⟩ := hsp
              exact gone S6 fun _ J7 => ⟨v6, _, H6, J7, r6, q6⟩
            | next => obtain ⟨σ6, H6, S6, q6⟩ := hsp; exact gone S6 fun _ J7 => ⟨_, H6, J7, q6⟩
            | brk => obtain ⟨σ6, H6, S6, q6⟩ := hsp; exact gone S6 fun _ J7 => ⟨_, H6, J7, q6⟩
            | cont => obtain ⟨σ6, H6, S6, q6⟩ := hsp; exact gone S6 fun _ J7 => ⟨_, H6, J7, q6⟩
    exact along hh wish
  · cases fl with
    | ret u =>
      obtain ⟨v, σ1, H1, J1, r, q⟩ := done
      exact ⟨v, σ1, H1, J1.ofTry okX, r, q⟩
    | next =>
      obtain ⟨σ1, H1, J1, q⟩ := done
      exact wpAny_execs_nil ⟨σ1, H1, J1.ofTry okX, q⟩
    | brk => exact done.imp fun σ1 z => z.imp fun H1 z => ⟨z.1.ofTry okX, z.2⟩
    | cont => exact done.imp fun σ1 z => z.imp fun H1 z => ⟨z.1.ofTry okX, z.2⟩
end
end TA
/-! classes of errors with an `__init__` of one parameter: what the top's end must say, how such an error is raised -/
namespace L2.TB
open PySem PySem.Spec PyProof.Rows
/-- the class at C: an error over ValueError whose own bases are classes -/
def ownB (K : PySem.W.Frag) (C : Addr) : Bool := match K.lookup C with
  | some ⟨.type "type", _, .cls cd, sl⟩ => (match cd.mro, sl.toList with
    | .ref C' :: bm, [_, _, _, _, some (.builtin n), _] => C' == C && (n == "ValueError.__new__" && (!cd.hasDel && (cd.hasDict && PySem.HandSPX.refsVE bm)))
    | _, _ => false)
  | _ => false
theorem ownB_ok {K : PySem.W.Frag} {C : Addr} (h : ownB K C = true) :
    ∃ nm q N bs bm sn sub ab col dd k0 k1 k2 k3 k5, K.lookup C = some (excClassObj nm q C N bs bm true sn sub ab col dd k0 k1 k2 k3 k5 "ValueError.__new__") ∧ PySem.HandSPX.refsVE bm = true := by
  unfold ownB at h
  split at h
  · rename_i dd cd sl lk
    split at h
    · rename_i C' bm k0 k1 k2 k3 n k5 em es
      simp only [Bool.and_eq_true, beq_iff_eq, Bool.not_eq_true'] at h
      obtain ⟨rfl, rfl, hd, hh, hr⟩ := h
      obtain ⟨nm, bs, mro, ns, qn, hdc, sn, sub, ab, col, del⟩ := cd
      dsimp only at em hd hh
      subst em hd hh
      have e : sl = #[k0, k1, k2, k3, some (.builtin "ValueError.__new__"), k5] := by
        obtain ⟨l⟩ := sl
        simp only at es
        rw [es]
      subst e
      exact ⟨nm, qn, ns, bs, bm, sn, sub, ab, col, dd, k0, k1, k2, k3, k5, lk, hr⟩
    · cases h
  · cases h
def errB (K : PySem.W.Frag) (x f : Str) : Bool := ownB K (He.ga K x) &&
  (He.eqO (PySem.W.findIn K (.ref (He.ga K x)) "__setattr__") (some (some (.builtin "object.__setattr__"))) &&
  (decide (PySem.W.subIn K (.ref (He.ga K x)) (.type "BaseException") = some true) && (decide (PySem.W.typeIn K (.ref (He.ga K x)) = some (.type "type")) && (PySem.W.keepIn K (.ref (He.ga K x)) &&
  (He.eqO (PySem.W.findIn K (.ref (He.ga K x)) f) (some none) && (He.eqO (PySem.W.findIn K (.ref (He.ga K x)) "__init__") (some (some (.ref (He.ma K (He.ga K x) "__init__")))) &&
  (decide (PySem.W.typeIn K (.ref (He.ma K (He.ga K x) "__init__")) = some (.type "function")) && xfB K (He.ga K x))))))))
/-- a class of errors at C, its `__init__` at fI, its one field fld -/
structure ErrC (K : PySem.W.Frag) (C fI : Addr) (fld : Str) : Prop where
  o : OexC K C
  no : PySem.W.findIn K (.ref C) fld = some none
  ini : PySem.W.findIn K (.ref C) "__init__" = some (some (.ref fI))
  fn : PySem.W.typeIn K (.ref fI) = some (.type "function")
  xf : XfC K C
theorem errB_ok {K : PySem.W.Frag} {x f : Str} (h : errB K x f = true) : ErrC K (He.ga K x) (He.ma K (He.ga K x) "__init__") f := by
  obtain ⟨h1, h⟩ := He.ba h
  obtain ⟨h2, h⟩ := He.ba h
  obtain ⟨h3, h⟩ := He.ba h
  obtain ⟨h4, h⟩ := He.ba h
  obtain ⟨h5, h⟩ := He.ba h
  obtain ⟨h6, h⟩ := He.ba h
  obtain ⟨h7, h⟩ := He.ba h
  obtain ⟨h8, h9⟩ := He.ba h
  exact ⟨⟨ownB_ok h1, He.eqO_ok h2, of_decide_eq_true h3, of_decide_eq_true h4, h5⟩, He.eqO_ok h6, He.eqO_ok h7, of_decide_eq_true h8, xfB_ok h9⟩
/-- self.fld = it -/
def spErr (K : PySem.W.Frag) (fld : Str) : Sp := fun vs H Q _ => ∃ (a C : Addr) (v : V), vs = [.ref a, v] ∧ OexC K C ∧ PySem.W.findIn K (.ref C) fld = some none ∧ H a = some (exo a C none) ∧
  ∀ dx, H dx = none → dx ≠ a → Q .non (upd (upd H dx (exd dx [(fld, v)])) a (exo a C (some dx)))
section
variable {P : Program} {w : World} {K : PySem.W.Frag} {mg : Str → Option Value} {base : Heap} {f : Addr} {fd : FuncData}
theorem ok_errInit {q y fld : Str} {st : Stmt} {p0 p1 p2 p3 : Pos} (F : Fun K "__init__" q st f fd) (S : FnScope ["self", y] ["self", y] (defScope st)) (hb : defBody st = [.Assign [.Attribute (.Name "self" p0) fld p1] (.Name y p2) p3])
    (hv0 : Vis (defScope st) "self") (hv1 : Vis (defScope st) y) (hdy : (y == ("__debug__" : Str)) = false) (hcy : (y == ("__classdict__" : Str)) = false) : FnOk P w K mg base CX0 1 f fd ["self", y] (spErr K fld) := by
  refine F.ok S (fun vs H Q E h => by obtain ⟨a, C, v, e, _⟩ := h; rw [e]; rfl) fun cdv A outer s H vs Q E hr hsp => ?_
  obtain ⟨a, C, v, rfl, T, no, ha, hq⟩ := hsp
  rw [hb]
  refine ⟨_, pss_one (ps_ost (pe_var (i := 0) rfl hv0 (by decide) (by decide)) (pe_var (i := 1) rfl hv1 hdy hcy) rfl), ?_⟩
  exact ⟨_, rfl, _, rfl, a, C, rfl, T, no, .inl ⟨ha, hq⟩⟩
end
/-- x(e), to be raised -/
theorem pmk_err {X : Cx} {x fld : Str} {C fI : Addr} {fd : FuncData} {y : Str} {e : Expr} {te : TE} {p pos : Pos} (E : ErrC X.K C fI fld) (F : FnOk X.prog X.w X.K X.mg X.base CX0 1 fI fd ["self", y] (spErr X.K fld)) (hb : Binds X.K fd ["self", y] [])
    (hr : Room 2 X.A) (hg : Gl X x) (hm : X.mg x = some (.ref C)) (he : PE X e te) (hdb : (x == ("__debug__" : Str)) = false := by decide) (hs : starEach [e] X.env = (false, eval e X.env) :: starEach [] X.env := by rfl) :
    PMk X (.Call (.Name x p) [e] [] pos) (tMkO C (spErr X.K fld) [] (tCons te tNil)) := pmk_oex (x := x) (es := []) (ta := tCons te tNil) (ds := []) (dvs := []) E.o E.ini E.fn F hr hb .nil pass0 hg hm (pa_cons he pa_nil (hs := hs)) hdb hs rfl
/-- what must hold where x(v) flies: d is its dict -/
theorem mk_rs {K : PySem.W.Frag} {fld : Str} {C fI : Addr} {v : V} {H1 : Hp} {Q : XK} (E : ErrC K C fI fld) (h : ∀ d, H1 d = none → Q (.ref C) (some d) (upd H1 d (.xd [(fld, v)]))) :
    [v].length ≤ 1000 ∧ ∀ a, H1 a = none → spErr K fld (.ref a :: ([v] ++ [])) (upd H1 a (exo a C none))
      (fun v H2 => v = .non ∧ ∃ (d : Addr) (fs : List (Str × V)), H2 a = some (exo a C (some d)) ∧ H2 d = some (exd d fs) ∧ H1 d = none ∧ Q (.ref C) (some d) (upd (del H2 a) d (.xd fs))) (fun _ _ _ => False) := by
  refine ⟨by show 1 ≤ 1000; omega, fun a ha => ⟨a, C, v, rfl, E.o, E.no, upd_same, fun dx hdx ne => ⟨rfl, dx, _, upd_same, by rw [upd_ne ne, upd_same], ?_, ?_⟩⟩⟩
  · rw [upd_ne ne] at hdx; exact hdx
  · have n1 : H1 dx = none := by rw [upd_ne ne] at hdx; exact hdx
    have e : upd (del (upd (upd (upd H1 a (exo a C none)) dx (exd dx [(fld, v)])) a (exo a C (some dx))) a) dx (.xd [(fld, v)]) = upd H1 dx (.xd [(fld, v)]) := by
      funext b
      by_cases h1 : b = dx
      · subst h1; rw [upd_same, upd_same]
      · rw [upd_ne h1, upd_ne h1]
        by_cases h2 : b = a
        · subst h2; rw [del_same, ha]
        · rw [del_ne h2, upd_ne h2, upd_ne h1, upd_ne h2]
    rw [e]
    exact h dx n1
/-- an error of the class at C flies from here, v in its field -/
def Flies (C : Addr) (fld : Str) (v : V) (H : Hp) (E : XK) : Prop := ∀ d H', Same H H' → H d = none → H' d = some (.xd [(fld, v)]) → E (.ref C) (some d) H'
theorem Flies.same {C : Addr} {fld : Str} {v : V} {H H' : Hp} {E : XK} (h : Flies C fld v H E) (s : Same H H') : Flies C fld v H' E := fun d H2 s2 n e => h d H2 (s.trans s2) (by
  cases q : H d with
  | none => rfl
  | some o => rw [s _ _ q] at n; cases n) e
theorem Flies.mk {K : PySem.W.Frag} {fld : Str} {C fI : Addr} {v : V} {H1 : Hp} {Q : XK} (E : ErrC K C fI fld) (h : Flies C fld v H1 Q) :
    [v].length ≤ 1000 ∧ ∀ a, H1 a = none → spErr K fld (.ref a :: ([v] ++ [])) (upd H1 a (exo a C none))
      (fun v H2 => v = .non ∧ ∃ (d : Addr) (fs : List (Str × V)), H2 a = some (exo a C (some d)) ∧ H2 d = some (exd d fs) ∧ H1 d = none ∧ Q (.ref C) (some d) (upd (del H2 a) d (.xd fs))) (fun _ _ _ => False) :=
  mk_rs E fun d n => h d _ (fun b o e => by rw [upd_ne (ne_of_none e n)]; exact e) n upd_same
end L2.TB
namespace L2.TB
open PySem PySem.Spec PyProof.Rows
/-! ### what the top leaves, by addresses -/
def asK : List Nat := ([3, 6, 4, 49, 54, 59, 66, 73, 80, 87, 92, 97, 102, 109, 116, 121, 131, 151, 170, 189, 208, 227, 246, 265, 284, 293, 300, 307, 312, 319, 326, 331, 338, 345, 352, 359, 366, 371, 487, 498] : List Nat) ++
  ([505, 510, 614, 623, 630, 637, 644, 649, 654, 659, 664, 669, 677, 684, 690, 695, 700, 707, 714, 721, 726, 731, 736, 48, 53, 58, 65, 72, 79, 86, 91, 96, 101, 108, 115, 120, 130, 150, 169, 188] : List Nat) ++
  ([207, 226, 245, 264, 283, 292, 299, 306, 311, 318, 325, 330, 337, 344, 351, 358, 365, 370, 486, 497, 504, 509, 613, 622, 629, 636, 643, 648, 653, 658, 663, 668, 676, 670, 683, 689, 685, 694, 699, 706] : List Nat) ++
  ([713, 720, 725, 730, 735, 43, 44, 45, 46, 47, 50, 51, 52, 55, 56, 57, 60, 61, 62, 63, 64, 67, 68, 69, 70, 71, 74, 75, 76, 77, 78, 81, 82, 83, 84, 85, 88, 89, 90, 93] : List Nat) ++
  ([94, 95, 98, 99, 100, 103, 104, 105, 106, 107, 110, 111, 112, 113, 114, 117, 118, 119, 129, 132, 148, 149, 167, 168, 186, 187, 205, 206, 224, 225, 243, 244, 262, 263, 281, 282, 287, 288, 289, 290] : List Nat) ++
  ([291, 294, 295, 296, 297, 298, 301, 302, 303, 304, 305, 308, 309, 310, 313, 314, 315, 316, 317, 320, 321, 322, 323, 324, 327, 328, 329, 332, 333, 334, 335, 336, 339, 340, 341, 342, 343, 346, 347, 348] : List Nat) ++
  ([349, 350, 353, 354, 355, 356, 357, 360, 361, 362, 363, 364, 367, 368, 369, 383, 390, 397, 402, 407, 414, 419, 424, 429, 436, 443, 450, 455, 460, 465, 472, 479, 484, 485, 488, 489, 492, 493, 494, 495] : List Nat) ++
  ([496, 499, 500, 501, 502, 503, 506, 507, 508, 522, 529, 536, 541, 546, 553, 558, 563, 568, 575, 582, 589, 594, 599, 604, 611, 612, 615, 616, 619, 620, 621, 624, 625, 626, 627, 628, 631, 632, 633, 634] : List Nat) ++
  ([635, 638, 639, 640, 641, 642, 645, 646, 647, 650, 651, 652, 655, 656, 657, 660, 661, 662, 665, 666, 667, 671, 672, 673, 674, 675, 678, 679, 680, 681, 682, 686, 687, 688, 691, 692, 693, 696, 697, 698] : List Nat) ++
  ([701, 702, 703, 704, 705, 708, 709, 710, 711, 712, 715, 716, 717, 718, 719, 722, 723, 724, 727, 728, 729, 732, 733, 734, 147, 166, 185, 204, 223, 242, 261, 280, 382, 389, 396, 401, 406, 413, 418, 423] : List Nat) ++
  ([428, 435, 442, 449, 454, 459, 464, 471, 478, 483, 521, 528, 535, 540, 545, 552, 557, 562, 567, 574, 581, 588, 593, 598, 603, 610, 142, 143, 144, 145, 146, 161, 162, 163, 164, 165, 180, 181, 182, 183] : List Nat) ++
  ([184, 199, 200, 201, 202, 203, 218, 219, 220, 221, 222, 237, 238, 239, 240, 241, 256, 257, 258, 259, 260, 275, 276, 277, 278, 279, 379, 380, 381, 384, 385, 386, 387, 388, 391, 392, 393, 394, 395, 398] : List Nat) ++
  ([399, 400, 403, 404, 405, 408, 409, 410, 411, 412, 415, 416, 417, 420, 421, 422, 425, 426, 427, 430, 431, 432, 433, 434, 437, 438, 439, 440, 441, 444, 445, 446, 447, 448, 451, 452, 453, 456, 457, 458] : List Nat) ++
  ([461, 462, 463, 466, 467, 468, 469, 470, 473, 474, 475, 476, 477, 480, 481, 482, 518, 519, 520, 523, 524, 525, 526, 527, 530, 531, 532, 533, 534, 537, 538, 539, 542, 543, 544, 547, 548, 549, 550, 551] : List Nat) ++
  ([554, 555, 556, 559, 560, 561, 564, 565, 566, 569, 570, 571, 572, 573, 576, 577, 578, 579, 580, 583, 584, 585, 586, 587, 590, 591, 592, 595, 596, 597, 600, 601, 602, 605, 606, 607, 608, 609] : List Nat)
def dd (p : Str × Option Str) (x q : Str) (st : Stmt) (dv : List He.Dv) : He.DefD := { at_ := p, name := x, qual := q, params := defArgs st, body := defBody st, scope := defScope st, dfl := dv }
def fnT : List He.DefD := ([dd ("_law_start", none) "_law_start" "_law_start" sStart [], dd ("_law_draw", none) "_law_draw" "_law_draw" sDraw [], dd ("_law_pick", none) "_law_pick" "_law_pick" sPick [], dd ("_law_mixed", none) "_law_mixed" "_law_mixed" sMixed [], dd ("_law_same", none) "_law_same" "_law_same" sSame [], dd ("_law_name", none) "_law_name" "_law_name" sNameL [], dd ("_law_names", none) "_law_names" "_law_names" sNamesL [], dd ("_law_spare", none) "_law_spare" "_law_spare" sSpare []] : List He.DefD) ++
  ([dd ("_law_s_sums", none) "_law_s_sums" "_law_s_sums" sSumsL [.bl false], dd ("_law_s_handed", none) "_law_s_handed" "_law_s_handed" sHanded [], dd ("_law_s_world", none) "_law_s_world" "_law_s_world" sWorldL [.bl false], dd ("_law_s_answer", none) "_law_s_answer" "_law_s_answer" sAnswerL [], dd ("_law_s_is_world", none) "_law_s_is_world" "_law_s_is_world" sIsWorldL [], dd ("_law_s_shares", none) "_law_s_shares" "_law_s_shares" sSharesL [], dd ("_law_s_number", none) "_law_s_number" "_law_s_number" sNumber [], dd ("_law_s_others", none) "_law_s_others" "_law_s_others" sOthers []] : List He.DefD) ++
  ([dd ("_law_s_shares_told", none) "_law_s_shares_told" "_law_s_shares_told" sShTold [], dd ("_law_s_shares_made", none) "_law_s_shares_made" "_law_s_shares_made" sShMade [], dd ("law", none) "law" "law" sLaw [], dd ("is_integer", none) "is_integer" "is_integer" sIsInt [], dd ("is_list", none) "is_list" "is_list" sIsList [], dd ("is_pair", none) "is_pair" "is_pair" sIsPair [], dd ("is_name", none) "is_name" "is_name" sIsName [], dd ("is_one_of", none) "is_one_of" "is_one_of" sIsOne []] : List He.DefD) ++
  ([dd ("has_just", none) "has_just" "has_just" sHasJust [], dd ("first_bad", none) "first_bad" "first_bad" sFirst [], dd ("first_no_name", none) "first_no_name" "first_no_name" sNoName [], dd ("check_known", none) "check_known" "check_known" sCkK [], dd ("check_asked", none) "check_asked" "check_asked" sCkA [], dd ("check_both", none) "check_both" "check_both" sCkB [], dd ("check_lacking", none) "check_lacking" "check_lacking" sCkLack [], dd ("dot", none) "dot" "dot" sDot []] : List He.DefD) ++
  ([dd ("vector_of", none) "vector_of" "vector_of" sVec [], dd ("remainder", none) "remainder" "remainder" sRem [], dd ("_is_side", none) "_is_side" "_is_side" sIsSide [], dd ("is_row", none) "is_row" "is_row" sIsRow [], dd ("_check_prime", none) "_check_prime" "_check_prime" sCkPrime [], dd ("Sums", some "__init__") "__init__" "Sums.__init__" sInit [], dd ("Sums", some "__eq__") "__eq__" "Sums.__eq__" sEqM [], dd ("Sums", some "questions") "questions" "Sums.questions" sQs []] : List He.DefD) ++
  ([dd ("Sums", some "home") "home" "Sums.home" sHome [], dd ("Sums", some "answers") "answers" "Sums.answers" sAnswers [], dd ("Sums", some "unknowns") "unknowns" "Sums.unknowns" sUnk [], dd ("Sums", some "row") "row" "Sums.row" sRowM [], dd ("Sums", some "_is_world") "_is_world" "Sums._is_world" sIsWorld [], dd ("Shares", some "__init__") "__init__" "Shares.__init__" sSInit [], dd ("Shares", some "__eq__") "__eq__" "Shares.__eq__" sSEq [], dd ("Shares", some "questions") "questions" "Shares.questions" sSQs []] : List He.DefD) ++
  ([dd ("Shares", some "unknowns") "unknowns" "Shares.unknowns" sSUnk [], dd ("Shares", some "row") "row" "Shares.row" sSRow []] : List He.DefD)
def faT : List He.Fa := ([.glo "_law_start", .glo "_law_draw", .glo "_law_pick", .glo "_law_mixed", .glo "_law_same", .glo "_law_name", .glo "_law_names", .glo "_law_spare", .glo "_law_s_sums", .glo "_law_s_handed", .glo "_law_s_world", .glo "_law_s_answer", .glo "_law_s_is_world", .glo "_law_s_shares", .glo "_law_s_number", .glo "_law_s_others"] : List He.Fa) ++
  ([.glo "_law_s_shares_told", .glo "_law_s_shares_made", .glo "law", .glo "is_integer", .glo "is_list", .glo "is_pair", .glo "is_name", .glo "is_one_of", .glo "has_just", .glo "first_bad", .glo "first_no_name", .glo "check_known", .glo "check_asked", .glo "check_both", .glo "check_lacking", .glo "dot"] : List He.Fa) ++
  ([.glo "vector_of", .glo "remainder", .glo "_is_side", .glo "is_row", .glo "_check_prime", .glo "Sums", .glo "Shares", .free "list", .free "len", .free "int", .free "range", .free "dict", .free "tuple", .free "str", .free "bool", .free "isinstance"] : List He.Fa) ++
  ([.free "all", .free "any", .free "enumerate", .free "zip", .free "sum", .int "LONGEST" 40, .int "GREATEST_PRIME" 997, .str "SIGNS" "abcdefghijklmnopqrstuvwxyz0123456789.", .cls "Sums", .noat "Sums" "_unknowns", .noat "Sums" "_sides", .meth "Sums" "__eq__", .meth "Sums" "questions", .meth "Sums" "home", .meth "Sums" "answers", .meth "Sums" "unknowns"] : List He.Fa) ++
  ([.meth "Sums" "row", .meth "Sums" "_is_world", .cls "Shares", .noat "Shares" "prime", .noat "Shares" "_unknowns", .noat "Shares" "_vectors", .meth "Shares" "__eq__", .meth "Shares" "questions", .meth "Shares" "unknowns", .meth "Shares" "row", .meth "Sums" "__init__", .mkr "Sums", .meth "Shares" "__init__", .mkr "Shares"] : List He.Fa)
/-- the defs that hold a def, a lambda -/
def tfT : List He.Defn := []
/-- the classes of errors, each with its field -/
def erT : List (Str × Str) := []
/-- of the class besides -/
def clsB (K : PySem.W.Frag) (C : Addr) : Bool := He.eqO (PySem.W.findIn K (.ref C) "__class__") (some (some (.builtin "object.__class__"))) && (He.eqO (PySem.W.specialIn K (.builtin "object.__class__") "__get__") (some (some (.builtin "getset_descriptor.__get__"))) &&
  (decide (PySem.W.takesIn K (.builtin "object.__class__") = some true) && decide (PySem.W.mroIn K C (.type "object") = some true)))
def farB (K : PySem.W.Frag) (C : Addr) (t : Value) : Bool := PySem.W.notFirst K C t && decide (PySem.W.kitOne K t (.ref C) = some false)
def ownQ (K : PySem.W.Frag) (C : Addr) : Bool := clsB K C && (He.eqO (PySem.W.findIn K (.ref C) "__ne__") (some (some (.builtin "object.__ne__"))) && (["NoneType", "int", "dict"].all fun t => farB K C (.type t)))
def moreT (K : PySem.W.Frag) : Bool := ownQ K (He.ga K "Sums") && ownQ K (He.ga K "Shares")
def csL (K : PySem.W.Frag) : List (Addr × Addr) := tfT.map (He.cT K)
def diffT (K : PySem.W.Frag) : Bool := decide ((tfT.map fun p => (He.cT K p).2).Nodup) && ((erT.all fun p => errB K p.1 p.2) && moreT K)
def obsK (g : Addr → Option Obj) : He.AlD × Bool := (He.obsD faT fnT (He.frT g asK), diffT (He.frT g asK) && He.tabsB g tfT (He.frT g asK))
structure SaysK (h : Heap) (K : PySem.W.Frag) : Prop where
  d : He.SaysD faT fnT K
  np : (tfT.map fun p => (He.cT K p).2).Nodup
  er : ∀ p ∈ erT, errB K p.1 p.2 = true
  mo : moreT K = true
  hd : ∀ p ∈ tfT, PySem.W.codeHdIn K (He.cT K p).1 (He.cT K p).2 = true
  out : ∀ p ∈ tfT, K.lookup (He.cT K p).2 = none
  empty : ∀ p ∈ tfT, h.get? (He.cT K p).2 = some { cls := .none, data := .fields #[] }
theorem saysK_of {h : Heap} (e : obsK h.get? = (He.valD fnT, true)) : SaysK h (He.frT h.get? asK) := by
  have e1 : He.obsD faT fnT (He.frT h.get? asK) = He.valD fnT := congrArg (fun z : He.AlD × Bool => z.1) e
  have e2 : (diffT (He.frT h.get? asK) && He.tabsB h.get? tfT (He.frT h.get? asK)) = true := congrArg (fun z : He.AlD × Bool => z.2) e
  obtain ⟨h1, h2⟩ := He.ba e2
  have key : ∀ p ∈ tfT, PySem.W.codeHdIn (He.frT h.get? asK) (He.cT (He.frT h.get? asK) p).1 (He.cT (He.frT h.get? asK) p).2 = true ∧ ∃ o, h.get? (He.cT (He.frT h.get? asK) p).2 = some o ∧ He.emptyTab o = true := fun p hp => by
    obtain ⟨h3, h4⟩ := He.ba (List.all_eq_true.mp h2 p hp)
    refine ⟨h3, ?_⟩
    cases q : h.get? (He.cT (He.frT h.get? asK) p).2 with
    | none => rw [q] at h4; cases h4
    | some o => rw [q] at h4; exact ⟨o, rfl, h4⟩
  obtain ⟨h5, h6⟩ := He.ba h1
  obtain ⟨h6, h7⟩ := He.ba h6
  exact ⟨e1, of_decide_eq_true h5, fun p hp => List.all_eq_true.mp h6 p hp, h7, fun p hp => (key p hp).1, (fun p hp => by
    obtain ⟨_, o, q, z⟩ := key p hp
    exact He.frT_none q z), (fun p hp => by
    obtain ⟨_, o, q, z⟩ := key p hp
    rw [q, He.emptyTab_eq z])⟩
section
variable {h : Heap} {K : PySem.W.Frag}
theorem SaysK.hdC (c : SaysK h K) {p : Addr × Addr} (hp : p ∈ csL K) : PySem.W.codeHdIn K p.1 p.2 = true := by
  obtain ⟨q, hq, e⟩ := List.mem_map.mp hp
  rw [← e]
  exact c.hd q hq
theorem SaysK.outC (c : SaysK h K) {p : Addr × Addr} (hp : p ∈ csL K) : K.lookup p.2 = none := by
  obtain ⟨q, hq, e⟩ := List.mem_map.mp hp
  rw [← e]
  exact c.out q hq
theorem SaysK.emptyC (c : SaysK h K) {p : Addr × Addr} (hp : p ∈ csL K) : h.get? p.2 = some { cls := .none, data := .fields #[] } := by
  obtain ⟨q, hq, e⟩ := List.mem_map.mp hp
  rw [← e]
  exact c.empty q hq
end
def hookK : PySem.W.Hook where
  α := He.AlD × Bool
  obs := fun s => obsK s.heap.get?
  val := fun _ => (He.valD fnT, true)
  says := fun _ h => ∃ K : PySem.W.Frag, K.In h ∧ SaysK h K
  of := fun _ _ e => ⟨_, He.frT_in, saysK_of e⟩
  keeps := fun _ _ _ ⟨K, hK, c⟩ k => ⟨K, PySem.W.Frag.In.keeps hK k, ⟨c.d, c.np, c.er, c.mo, c.hd, c.out, fun p hp => k _ _ (c.empty p hp)⟩⟩
def obT (s : PySem.W.SharedT) : He.AlD × Bool := obsK (HandSHeadRun.getT s)
theorem obT_eq (s : PySem.W.SharedT) : obT s = hookK.obs s.abs := by
  have e : HandSHeadRun.getT s = s.abs.heap.get? := funext fun a => HandSHeadRun.getT_eq s a
  unfold obT
  rw [e] <;> rfl
namespace HdR
open PySem PySem.W PySem.Calls PyProof.Rows
abbrev R : OpenRow := OpenLaw.row PySem.Challenge.rw_twoworlds_k14_sums_made
abbrev qv : Program := view R.prog [0, 69]
def names : List PySem.Str := (["_wall", "dot", "vector_of", "is_multiple", "remainder", "lowest", "bezout", "reduced", "narrowed", "chain_of", "parting_rung", "weights_of", "_less", "WorldError", "BadWorld", "BadKnown", "NoQuestion", "BadPlan", "BadAnswers", "BadUnknown", "BadSum", "BadPrime", "is_integer", "is_list", "is_pair", "is_name", "is_fraction", "is_one_of", "has_just", "first_bad"] : List PySem.Str) ++
  (["first_no_name", "check_known", "check_asked", "check_both", "check_lacking", "Sums", "common_bottom", "_is_side", "is_row", "Shares", "_check_prime", "_law_start", "_law_draw", "_law_pick", "_law_mixed", "_law_same", "_law_name", "_law_names", "_law_spare", "_law_s_sums", "_law_s_handed", "_law_s_world", "_law_s_answer", "_law_s_is_world", "_law_s_shares", "_law_s_number", "_law_s_others", "_law_s_shares_told", "_law_s_shares_made", "SIGNS"] : List PySem.Str) ++
  (["LONGEST", "GREATEST_PRIME"] : List PySem.Str)
set_option maxHeartbeats 0 in
theorem run (w : World) : HandSHeadRun.RunEqI R qv L2.TB.hookK L2.TB.obT 16000 names w := by
  unfold HandSHeadRun.RunEqI
  kernel_rfl
end HdR
end L2.TB
namespace L2.TB
open PySem PySem.Spec PyProof.Rows
/-! ### the spring of draws -/
structure StrmAt (H : Hp) (l ls : Addr) (cs : List Int) (g k m N : Int) : Prop where
  o : H l = some (.lst [.ref ls, .int g, .int k, .int m])
  c : H ls = some (.lst (cs.map V.int))
  ne : ls ≠ l
  g0 : 0 ≤ g
  k0 : 0 ≤ k
  k1 : k ≤ N
  m0 : 0 ≤ m
  m1 : m < 2147483647
  sz : cs.length ≤ 100
def Strm (H : Hp) (l ls : Addr) (N : Int) : Prop := ∃ cs g k m, StrmAt H l ls cs g k m N
/-- all but the spring is as it was -/
def But (l ls : Addr) (H H' : Hp) : Prop := ∀ b o, b ≠ l → b ≠ ls → H b = some o → H' b = some o
theorem But.refl (l ls : Addr) (H : Hp) : But l ls H H := fun _ _ _ _ e => e
theorem But.trans {l ls : Addr} {H H1 H2 : Hp} (a : But l ls H H1) (b : But l ls H1 H2) : But l ls H H2 := fun c o h1 h2 e => b c o h1 h2 (a c o h1 h2 e)
theorem But.of {l ls : Addr} {H H' : Hp} (a : Same H H') : But l ls H H' := fun c o _ _ e => a c o e
theorem But.upd {l ls a : Addr} {H : Hp} {o : HO} (h : a = l ∨ a = ls) : But l ls H (upd H a o) := fun b u h1 h2 e => by
  have ne : b ≠ a := by rcases h with h | h <;> (subst h; assumption)
  rw [upd_ne ne]; exact e
theorem dp_ints {K : PySem.W.Frag} {H : Hp} : ∀ cs : List Int, DpAll K H (cs.map V.int) (cs.map PyData.int)
  | [] => .nil
  | c :: cs => .cons (.int c) (dp_ints cs)
def spDraw : Sp := fun vs H Q _ => ∃ (l ls : Addr) (many N : Int), vs = [.ref l, .int many] ∧ Strm H l ls N ∧ N ≤ 1000000 ∧ 0 < many ∧ many < 1000000000 ∧
  ∀ H' r, 0 ≤ r → r < many → Strm H' l ls (N + 1) → But l ls H H' → Q (.int r) H'
theorem scDraw : FnScope ["stream", "many", "cell", "digit", "mixed"] ["stream", "many"] (defScope sDraw) := ⟨rfl, rfl, rfl, by decide +kernel, rfl, by decide +kernel, by decide +kernel⟩
theorem pow_nn (a : Int) (h : 0 ≤ a) : 0 ≤ a ^ (Int.toNat 5) := Int.pow_nonneg h
theorem at0 {a b c d : V} : atI [a, b, c, d] 0 = some a := rfl
theorem at1 {a b c d : V} : atI [a, b, c, d] 1 = some b := rfl
theorem at2 {a b c d : V} : atI [a, b, c, d] 2 = some c := rfl
theorem at3 {a b c d : V} : atI [a, b, c, d] 3 = some d := rfl
theorem draw_end {A B C many : Int} (h : 0 < many) : 0 ≤ A % B % many ∧ A % B % many < many :=
  ⟨Int.emod_nonneg _ (by omega), Int.emod_lt_of_pos _ h⟩
section
variable {P : Program} {w : World} {K : PySem.W.Frag} {mg : Str → Option Value} {base : Heap} {f : Addr} {fd : FuncData}
theorem ok_draw (F : Fun K "_law_draw" "_law_draw" sDraw f fd) (gI : mg "int" = none) : FnOk P w K mg base CX0 1 f fd ["stream", "many"] spDraw := by
  refine F.ok scDraw (fun vs H Q E h => by obtain ⟨l, ls, many, N, e, _⟩ := h; rw [e]; rfl) fun cdv A outer s H vs Q E hr hsp => ?_
  obtain ⟨l, ls, many, N, rfl, ⟨cs, g, k, m, S⟩, hN, h0, h1, hq⟩ := hsp
  have nd := scDraw.nd
  have hu := hu_of hr
  have hu64 := hr.units
  obtain ⟨tl, ptl, htl⟩ : ∃ t, PSs (cxOf CX0 P w K mg base ["stream", "many", "cell", "digit", "mixed"] "_law_draw" (defScope sDraw) f cdv A outer s H E).nox ((defBody sDraw).drop 2) t ∧
      ∀ (H1 : Hp) (c : Option V) (cs : List Int) (g k m : Int), StrmAt H1 l ls cs g k m (N + 1) → But l ls H H1 →
        t { nx := fun _ H' => Q .non H', rt := Q } [some (.ref l), some (.int many), c, none, none] H1 := by
    refine ⟨_, pss_cons (ps_if (pt_cmpR op_gt (pe_ix ix_list (pv 0) pe_int (fun _ _ => rfl)) pe_int (nomark _))
      (pss_cons (ps_set (i := 3) nd rfl (Or.inl rfl) (pe_op op_mod (pe_callTy call_int1 rfl gI boot_int (pa_cons (pe_ix ix_list (pv 0) pe_int (fun _ _ => rfl)) pa_nil)) (pv 1)))
      (pss_cons (ps_asg (pe_op op_fdiv (pe_ix ix_list (pv 0) pe_int (fun _ _ => rfl)) (pv 1)) (pg_sub (pv 0) pe_int set_list))
      (pss_one (ps_ret (pv 3)))))
      pss_nil)
    (pss_cons (ps_set (i := 4) nd rfl (Or.inl rfl) (pe_op op_mod (pe_callTy call_int1 rfl gI boot_int (pa_cons (pe_op op_pow (pe_op op_add (pe_op op_add (pe_ix ix_list (pv 0) pe_int (fun _ _ => rfl)) (pe_op op_mul pe_int (pe_ix ix_list (pv 0) pe_int (fun _ _ => rfl)))) pe_int) pe_int) pa_nil)) pe_int))
    (pss_one (ps_ret (pe_op op_mod (pe_op op_mod (pe_callTy call_int1 rfl gI boot_int (pa_cons (pe_op op_pow (pe_op op_add (pe_op op_add (pe_op op_mul (pv 4) pe_int) (pe_op op_mul pe_int (pe_ix ix_list (pv 0) pe_int (fun _ _ => rfl)))) pe_int) pe_int) pa_nil)) pe_int) (pv 1))))), fun H1 c cs g k m S hB => ?_⟩
    refine ⟨_, rfl, _, _, _, _, rfl, rfl, SqL.of S.o, at1, _, _, rfl, rfl, _, rfl, ite2 (fun e => ?_) (fun e => ?_)⟩
    · refine ⟨_, rfl, _, _, _, _, rfl, rfl, SqL.of S.o, at1, .inl ⟨_, rfl, ?_⟩⟩
      refine ⟨_, rfl, _, _, rfl, rfl, h0, ?_⟩
      refine ⟨_, rfl, _, _, _, _, rfl, rfl, SqL.of S.o, at1, _, rfl, _, _, rfl, rfl, ⟨h0, by omega⟩, ?_⟩
      refine ⟨_, rfl, _, _, _, _, rfl, rfl, S.o, rfl, ?_⟩
      refine ⟨_, rfl, ?_⟩
      refine hq _ _ (Int.emod_nonneg _ (by omega)) (Int.emod_lt_of_pos _ h0) ⟨cs, g / many, k, m, ⟨upd_same, ?_, S.ne, Int.ediv_nonneg S.g0 (by omega), S.k0, S.k1, S.m0, S.m1, S.sz⟩⟩ (hB.trans (But.upd (.inl rfl)))
      rw [upd_ne S.ne]; exact S.c
    · have hk := S.k1
      have hk0 := S.k0
      have hm := S.m0
      have hm1 := S.m1
      refine ⟨_, rfl, _, _, _, _, rfl, rfl, SqL.of S.o, at3, _, rfl, _, _, _, _, rfl, rfl, SqL.of S.o, at2, _, _, rfl, rfl, .inl ⟨by decide, by decide⟩, _, _, rfl, rfl, _, _, rfl, rfl, _, _, rfl, rfl, ⟨by decide, by decide, ?_⟩, ?_⟩
      · omega
      refine .inl ⟨_, rfl, _, _, rfl, rfl, (by show (0 : Int) < 2147483629; decide), ?_⟩
      have e1 := Int.emod_nonneg ((m + 7919 * k + 104729) ^ Int.toNat 5) (show (2147483629 : Int) ≠ 0 by decide)
      have e2 := Int.emod_lt_of_pos ((m + 7919 * k + 104729) ^ Int.toNat 5) (show (0 : Int) < 2147483629 by decide)
      generalize (m + 7919 * k + 104729) ^ Int.toNat 5 % 2147483629 = z at e1 e2 ⊢
      refine ⟨_, rfl, _, _, rfl, rfl, .inr ⟨by decide, by decide⟩, _, rfl, _, _, _, _, rfl, rfl, SqL.of S.o, at2, _, _, rfl, rfl, .inl ⟨by decide, by decide⟩, _, _, rfl, rfl, _, _, rfl, rfl, _, _, rfl, rfl, ⟨by decide, by decide, ?_⟩, ?_⟩
      · omega
      refine .inl ⟨_, rfl, _, _, rfl, rfl, (by show (0 : Int) < 1000000007; decide), _, rfl, _, _, rfl, rfl, h0, ?_⟩
      exact hq _ _ (Int.emod_nonneg _ (by omega)) (Int.emod_lt_of_pos _ h0) ⟨cs, g, k, m, S⟩ hB
  refine ⟨_, pss_cons (ps_asg (pe_op op_add (pe_ix ix_list (pv 0) pe_int (fun _ _ => rfl)) pe_int) (pg_sub (pv 0) pe_int set_list))
    (pss_cons (ps_if (PW.pt (pw_and (pt_cmpR op_eq (pe_ix ix_list (pv 0) pe_int (fun _ _ => rfl)) pe_int (nomark _))
        (pw_and1 (pt_cmpR (op_neD hu64) (pe_ix ix_list (pv 0) pe_int (fun _ _ => rfl)) (pe_lst pa_nil) (nomark _)))))
      (pss_cons (ps_set (i := 2) nd rfl (Or.inl rfl) (pe_bm PySem.F.plainAttrs_list PySem.F.slot_list_pop PySem.F.type_list_pop mt_popAt (pe_ix ix_list (pv 0) pe_int (fun _ _ => rfl)) (pa_cons pe_int pa_nil)))
      (pss_cons (ps_asg (pe_op op_mod (pe_callTy call_int1 rfl gI boot_int (pa_cons (pe_op op_add (pe_op op_add (pe_op op_mul (pe_ix ix_list (pv 0) pe_int (fun _ _ => rfl)) pe_int) (pv 2)) pe_int) pa_nil)) pe_int) (pg_sub (pv 0) pe_int set_list))
      (pss_one (ps_asg (pe_ifExp (pt_cmpR op_ge (pv 2) (pe_op op_pow pe_int pe_int) (nomark _)) (pv 2) pe_int) (pg_sub (pv 0) pe_int set_list)))))
      pss_nil) ptl), ?_⟩
  refine ⟨_, rfl, _, _, _, _, rfl, rfl, SqL.of S.o, at2, _, _, rfl, rfl, _, rfl, _, _, _, _, rfl, rfl, S.o, rfl, ?_⟩
  have S1 : StrmAt (upd H l (.lst [.ref ls, .int g, .int (k + 1), .int m])) l ls cs g (k + 1) m (N + 1) :=
    ⟨upd_same, by rw [upd_ne S.ne]; exact S.c, S.ne, S.g0, by have := S.k0; omega, by have := S.k1; omega, S.m0, S.m1, S.sz⟩
  have B1 : But l ls H (upd H l (.lst [.ref ls, .int g, .int (k + 1), .int m])) := But.upd (.inl rfl)
  refine ⟨_, rfl, _, _, _, _, rfl, rfl, SqL.of S1.o, at1, rfl, _, rfl, ite2 (fun e => ?_) (fun e => ?_)⟩
  · refine ⟨_, rfl, _, _, _, _, rfl, rfl, SqL.of S1.o, at0, Nat.zero_le _, fun q nq => ?_⟩
    have ql : q ≠ l := by
      intro z; rw [z, upd_same] at nq; cases nq
    have qs : q ≠ ls := by
      intro z; rw [z, upd_ne S.ne] at nq; rw [S.c] at nq; cases nq
    have S2 : StrmAt (upd (upd H l (.lst [.ref ls, .int g, .int (k + 1), .int m])) q (.lst [])) l ls cs g (k + 1) m (N + 1) :=
      ⟨by rw [upd_ne (Ne.symm ql)]; exact S1.o, by rw [upd_ne (Ne.symm qs)]; exact S1.c, S.ne, S1.g0, S1.k0, S1.k1, S1.m0, S1.m1, S1.sz⟩
    have B2 : But l ls H (upd (upd H l (.lst [.ref ls, .int g, .int (k + 1), .int m])) q (.lst [])) := B1.trans (But.of fun b o eb => by
      rw [upd_ne (ne_of_none eb nq)]; exact eb)
    refine ⟨.list (cs.map .int), .list [], .lst (SqL.of S2.c) (dp_ints cs), .lst (SqL.of upd_same) .nil, PySem.W.shaped_ints cs, by decide, ?_⟩
    cases cs with
    | nil =>
      refine ⟨_, rfl, iteF ?_⟩
      exact htl _ none [] g (k + 1) m S2 B2
    | cons c cs =>
      refine ⟨_, rfl, iteT ?_⟩
      refine ⟨_, rfl, _, _, _, _, rfl, rfl, SqL.of S2.o, at0, .inl ⟨rfl, _, SqL.of S2.c⟩, ?_⟩
      have ix0 : ixN ((c :: cs).map V.int).length 0 = some 0 := by
        simp [ixN]
      refine ⟨ls, _, 0, 0, .int c, rfl, rfl, S2.c, by decide, by decide, (ixN_seq ix0).1, rfl, ?_⟩
      have S3 : StrmAt (upd (upd (upd H l (.lst [.ref ls, .int g, .int (k + 1), .int m])) q (.lst [])) ls (.lst (cs.map V.int))) l ls cs g (k + 1) m (N + 1) :=
        ⟨by rw [upd_ne (Ne.symm S.ne)]; exact S2.o, upd_same, S.ne, S2.g0, S2.k0, S2.k1, S2.m0, S2.m1, by have := S2.sz; simp only [List.length_cons] at this; omega⟩
      have B3 := B2.trans (But.upd (l := l) (ls := ls) (a := ls) (H := upd (upd H l (.lst [.ref ls, .int g, .int (k + 1), .int m])) q (.lst [])) (o := .lst (cs.map V.int)) (.inr rfl))
      have hm0 := S.m0
      have hm1 := S.m1
      refine ⟨_, rfl, _, _, _, _, rfl, rfl, SqL.of S3.o, at3, _, _, rfl, rfl, .inl ⟨by omega, by omega⟩, _, rfl, _, _, rfl, rfl, _, _, rfl, rfl, .inl ⟨_, rfl, _, _, rfl, rfl, (by show (0 : Int) < 2147483647; decide), ?_⟩⟩
      refine ⟨_, rfl, _, _, _, _, rfl, rfl, S3.o, rfl, ?_⟩
      have S4 : StrmAt (upd (upd (upd (upd H l (.lst [.ref ls, .int g, .int (k + 1), .int m])) q (.lst [])) ls (.lst (cs.map V.int))) l (.lst [.ref ls, .int g, .int (k + 1), .int ((m * 8191 + c + 3) % 2147483647)])) l ls cs g (k + 1) ((m * 8191 + c + 3) % 2147483647) (N + 1) :=
        ⟨upd_same, by rw [upd_ne S.ne]; exact S3.c, S.ne, S3.g0, S3.k0, S3.k1, Int.emod_nonneg _ (by decide), Int.emod_lt_of_pos _ (by decide), S3.sz⟩
      have B4 := B3.trans (But.upd (l := l) (ls := ls) (a := l) (o := .lst [.ref ls, .int g, .int (k + 1), .int ((m * 8191 + c + 3) % 2147483647)]) (.inl rfl))
      refine ⟨_, rfl, _, _, rfl, rfl, ⟨by decide, by decide, by decide⟩, _, _, rfl, rfl, _, rfl, ite2 (fun e4 => ?_) (fun e4 => ?_)⟩
      · refine ⟨_, rfl, _, rfl, _, _, _, _, rfl, rfl, S4.o, rfl, ?_⟩
        have hc : (0 : Int) ≤ c := by
          have z := of_decide_eq_true e4
          have z2 : (0 : Int) ≤ 10 ^ (Int.toNat 18) := Int.pow_nonneg (by decide)
          omega
        exact htl _ (some (.int c)) cs c (k + 1) ((m * 8191 + c + 3) % 2147483647)
          ⟨upd_same, by rw [upd_ne S.ne]; exact S4.c, S.ne, hc, S4.k0, S4.k1, S4.m0, S4.m1, S4.sz⟩ (B4.trans (But.upd (.inl rfl)))
      · refine ⟨_, rfl, _, _, _, _, rfl, rfl, S4.o, rfl, ?_⟩
        exact htl _ (some (.int c)) cs 0 (k + 1) ((m * 8191 + c + 3) % 2147483647)
          ⟨upd_same, by rw [upd_ne S.ne]; exact S4.c, S.ne, by decide, S4.k0, S4.k1, S4.m0, S4.m1, S4.sz⟩ (B4.trans (But.upd (.inl rfl)))
  · refine iteF ?_
    exact htl _ none cs g (k + 1) m S1 B1
def spStart (K : PySem.W.Frag) : Sp := fun vs H Q _ => ∃ (a : Addr) (ns : List Int), vs = [.ref a] ∧ SqL K H a (ns.map V.int) ∧ ns.length ≤ 100 ∧
  ∀ H' l ls, H l = none → Same H H' → Strm H' l ls 0 → H ls = none → Q (.ref l) H'
theorem scStart : FnScope ["script"] ["script"] (defScope sStart) := ⟨rfl, rfl, rfl, by decide +kernel, rfl, by decide +kernel, by decide +kernel⟩
theorem ok_start (F : Fun K "_law_start" "_law_start" sStart f fd) (gL : mg "list" = none) : FnOk P w K mg base CX0 1 f fd ["script"] (spStart K) := by
  refine F.ok scStart (fun vs H Q E h => by obtain ⟨a, ns, e, _⟩ := h; rw [e]; rfl) fun cdv A outer s H vs Q E hr hsp => ?_
  obtain ⟨a, ns, rfl, hS, hn, hq⟩ := hsp
  refine ⟨_, pss_one (ps_ret (pe_lst (pa_cons (pe_callTy call_list_of rfl gL (by decide +kernel) (pa_cons (pv 0) pa_nil)) (pa_cons pe_int (pa_cons pe_int (pa_cons pe_int pa_nil)))))), ?_⟩
  refine ⟨_, rfl, _, _, rfl, .inl hS, fun ls hls => ⟨by rw [sizeLine_eq]; show 4 ≤ _; omega, fun l hl => ?_⟩⟩
  have ne : ls ≠ l := by
    intro z; rw [← z, upd_same] at hl; cases hl
  have hl2 : H l = none := by rw [upd_ne (Ne.symm ne)] at hl; exact hl
  exact hq _ l ls hl2 (fun b o e => by rw [upd_ne (ne_of_none e hl2), upd_ne (ne_of_none e hls)]; exact e)
    ⟨ns, 0, 0, 11, ⟨upd_same, by rw [upd_ne ne, upd_same], ne, by decide, by decide, by decide, by decide, by decide, hn⟩⟩ hls
def spPick (K : PySem.W.Frag) : Sp := fun vs H Q _ => ∃ (l ls c : Addr) (xs : List V) (N : Int), vs = [.ref l, .ref c] ∧ Strm H l ls N ∧ N ≤ 1000000 ∧
  c ≠ l ∧ c ≠ ls ∧ H c = some (.lst xs) ∧ 0 < xs.length ∧ xs.length < 1000 ∧
  ∀ H' x, x ∈ xs → Strm H' l ls (N + 1) → But l ls H H' → Q x H'
theorem scPick : FnScope ["stream", "some"] ["stream", "some"] (defScope sPick) := ⟨rfl, rfl, rfl, by decide +kernel, rfl, by decide +kernel, by decide +kernel⟩
theorem ok_pick {fD : Addr} {fdD : FuncData} (F : Fun K "_law_pick" "_law_pick" sPick f fd) (FD : Fun K "_law_draw" "_law_draw" sDraw fD fdD)
    (gD : mg "_law_draw" = some (.ref fD)) (gI : mg "int" = none) (gN : mg "len" = none) : FnOk P w K mg base CX0 2 f fd ["stream", "some"] (spPick K) := by
  have G : FnOk P w K mg base CX0 1 fD fdD ["stream", "many"] spDraw := ok_draw FD gI
  have b := FD.binds (ps := ["stream", "many"]) fun _ _ _ _ _ _ us hl => match us, hl with | [_, _], _ => rfl
  refine F.ok scPick (fun vs H Q E h => by obtain ⟨l, ls, c, xs, N, e, _⟩ := h; rw [e]; rfl) fun cdv A outer s H vs Q E hr hsp => ?_
  obtain ⟨l, ls, c, xs, N, rfl, hS, hN, n1, n2, hc, h0, h1, hq⟩ := hsp
  refine ⟨_, pss_one (ps_ret (pe_ix ix_list (pv 1) (pe_call G hr rfl gD FD.kp b .nil pass0 (pa_cons (pv 0) (pa_cons (pe_callB call_len rfl gN boot_len (pa_cons (pv 1) pa_nil)) pa_nil))) (fun _ _ => rfl))), ?_⟩
  refine ⟨_, rfl, _, rfl, _, rfl, _, xs.length, rfl, .inl ⟨_, SqL.of hc, rfl⟩, ?_⟩
  refine ⟨l, ls, _, N, rfl, hS, hN, by omega, by omega, fun H' r r0 r1 S' B' => ?_⟩
  have hr2 : r.toNat < xs.length := by omega
  refine ⟨_, _, _, xs[r.toNat], rfl, rfl, SqL.of (B' c _ n1 n2 hc), ?_, hq H' _ (List.getElem_mem _) S' B'⟩
  have e : ((r.toNat : Nat) : Int) = r := by omega
  have z := atI_nat (xs := xs) (j := r.toNat) (v := xs[r.toNat]) (by simp)
  rw [e] at z
  exact z
end
end L2.TB
namespace L2.TB
open PySem PySem.Spec PyProof.Rows
theorem same_new {H : Hp} {p : Addr} {o : HO} (n : H p = none) : Same H (upd H p o) := fun c u z => by rw [upd_ne (ne_of_none z n)]; exact z
theorem Strm.same {H H' : Hp} {l ls : Addr} {N : Int} (h : Strm H l ls N) (s : Same H H') : Strm H' l ls N := by
  obtain ⟨cs, g, k, m, S⟩ := h
  exact ⟨cs, g, k, m, s _ _ S.o, s _ _ S.c, S.ne, S.g0, S.k0, S.k1, S.m0, S.m1, S.sz⟩
theorem Strm.some {H : Hp} {l ls : Addr} {N : Int} (h : Strm H l ls N) : (∃ o, H l = some o) ∧ ∃ o, H ls = some o := by
  obtain ⟨cs, g, k, m, S⟩ := h
  exact ⟨⟨_, S.o⟩, ⟨_, S.c⟩⟩
/-- what was not there is not the spring -/
theorem Strm.apart {H H' : Hp} {l ls p : Addr} {N : Int} (h : Strm H l ls N) (s : Same H H') (n : H' p = none) : p ≠ l ∧ p ≠ ls := by
  obtain ⟨⟨o, e⟩, ⟨o', e'⟩⟩ := h.some
  exact ⟨(fun z => by rw [z, s _ _ e] at n; cases n), (fun z => by rw [z, s _ _ e'] at n; cases n)⟩
def spPickS : Sp := fun vs H Q _ => ∃ (l ls : Addr) (x : Str) (N : Int), vs = [.ref l, .str x] ∧ Strm H l ls N ∧ N ≤ 1000000 ∧ 0 < x.cps.size ∧ x.cps.size < 1000 ∧
  ∀ H' c, c ∈ x.cps.toList → Strm H' l ls (N + 1) → But l ls H H' → Q (.str ⟨#[c]⟩) H'
/-- a mixed list: what was in it, in some order -/
def spMixed (K : PySem.W.Frag) : Sp := fun vs H Q _ => ∃ (l ls c : Addr) (xs : List V) (N : Int), vs = [.ref l, .ref c] ∧ Strm H l ls N ∧ N ≤ 900000 ∧ SqL K H c xs ∧ xs.length < 1000 ∧
  ∀ H' q ys, ys.Perm xs → H q = none → H' q = some (.lst ys) → Strm H' l ls (N + xs.length) → But l ls H H' → Q (.ref q) H'
theorem scMixed : FnScope ["stream", "some", "left", "k"] ["stream", "some"] (defScope sMixed) := ⟨rfl, rfl, rfl, by decide +kernel, rfl, by decide +kernel, by decide +kernel⟩
theorem pop_perm : ∀ (l : List V) (k : Nat) (y : V), l[k]? = some y → (y :: l.eraseIdx k).Perm l
  | [], k, y, h => by simp at h
  | a :: l, 0, y, h => by
    obtain rfl : a = y := by simpa using h
    exact List.Perm.refl _
  | a :: l, k + 1, y, h => by
    have z := pop_perm l k y (by simpa using h)
    exact (List.Perm.swap a y _).trans (z.cons a)
section
variable {P : Program} {w : World} {K : PySem.W.Frag} {mg : Str → Option Value} {base : Heap} {f fD fP fM : Addr} {fd fdD fdP fdM : FuncData}
theorem ok_pickS (F : Fun K "_law_pick" "_law_pick" sPick f fd) (FD : Fun K "_law_draw" "_law_draw" sDraw fD fdD)
    (gD : mg "_law_draw" = some (.ref fD)) (gI : mg "int" = none) (gN : mg "len" = none) : FnOk P w K mg base CX0 2 f fd ["stream", "some"] spPickS := by
  have G : FnOk P w K mg base CX0 1 fD fdD ["stream", "many"] spDraw := ok_draw FD gI
  have b := FD.binds (ps := ["stream", "many"]) fun _ _ _ _ _ _ us hl => match us, hl with | [_, _], _ => rfl
  refine F.ok scPick (fun vs H Q E h => by obtain ⟨l, ls, x, N, e, _⟩ := h; rw [e]; rfl) fun cdv A outer s H vs Q E hr hsp => ?_
  obtain ⟨l, ls, x, N, rfl, hS, hN, h0, h1, hq⟩ := hsp
  refine ⟨_, pss_one (ps_ret (pe_ix ix_str (pv 1) (pe_call G hr rfl gD FD.kp b .nil pass0 (pa_cons (pv 0) (pa_cons (pe_callB call_len rfl gN boot_len (pa_cons (pv 1) pa_nil)) pa_nil))) (fun _ _ => rfl))), ?_⟩
  have hz : x.length ≤ sizeLine := by rw [sizeLine_eq]; show x.cps.size ≤ _; omega
  have hl : ((x.length : Nat) : Int) = (x.cps.size : Int) := rfl
  refine ⟨_, rfl, _, rfl, _, rfl, _, x.length, rfl, ⟨hz, rfl⟩, ?_⟩
  refine ⟨l, ls, _, N, rfl, hS, hN, by omega, by omega, fun H' r r0 r1 S' B' => ?_⟩
  have hr2 : r.toNat < x.cps.toList.length := by rw [Array.length_toList]; omega
  refine ⟨x, r, x.cps.toList[r.toNat], rfl, rfl, hz, ?_, hq H' _ (List.getElem_mem _) S' B'⟩
  have e : ((r.toNat : Nat) : Int) = r := by omega
  have z := atI_nat (xs := x.cps.toList) (j := r.toNat) (v := x.cps.toList[r.toNat]) (by simp)
  rw [e] at z
  exact z
theorem ok_mixed (F : Fun K "_law_mixed" "_law_mixed" sMixed f fd) (FD : Fun K "_law_draw" "_law_draw" sDraw fD fdD)
    (gD : mg "_law_draw" = some (.ref fD)) (gI : mg "int" = none) (gN : mg "len" = none) (gL : mg "list" = none) (gR : mg "range" = none) : FnOk P w K mg base CX0 2 f fd ["stream", "some"] (spMixed K) := by
  have G : FnOk P w K mg base CX0 1 fD fdD ["stream", "many"] spDraw := ok_draw FD gI
  have b := FD.binds (ps := ["stream", "many"]) fun _ _ _ _ _ _ us hl => match us, hl with | [_, _], _ => rfl
  refine F.ok scMixed (fun vs H Q E h => by obtain ⟨l, ls, c, xs, N, e, _⟩ := h; rw [e]; rfl) fun cdv A outer s H vs Q E hr hsp => ?_
  obtain ⟨l, ls, c, xs, N, rfl, hS, hN, hc, h1, hq⟩ := hsp
  have nd := scMixed.nd
  refine ⟨_, pss_cons (ps_set (i := 2) nd rfl (Or.inr rfl) (pe_callTy call_list_of rfl gL (by decide +kernel) (pa_cons (pv 1) pa_nil)))
    (pss_one (ps_ret (pe_lc (own := [("k", 3)]) (tt := tYes) (te := tBM K "list" rPopAt (tVar 2) (tCons (tCall spDraw [] E0 (tCons (tVar 0) (tCons (tCB (rLen K) (tCons (tVar 2) tNil)) tNil))) tNil)) rfl nd (pi_range1 rfl gR (pa_cons (pe_callB call_len rfl gN boot_len (pa_cons (pv 2) pa_nil)) pa_nil)) (blkOk_by (N := ["stream", "some", "left", "k"]) (sc := defScope sMixed) (by decide +kernel))
      (fun _ _ _ _ _ => pg_name (i := 3) nd rfl (Or.inl rfl)) (fun _ _ _ _ _ => pts_nil)
      (fun _ _ _ _ _ => pe_bm PySem.F.plainAttrs_list PySem.F.slot_list_pop PySem.F.type_list_pop mt_popAt (pv 2) (pa_cons (pe_call G hr rfl gD FD.kp b .nil pass0 (pa_cons (pv 0) (pa_cons (pe_callB call_len rfl gN boot_len (pa_cons (pv 2) pa_nil)) pa_nil))) pa_nil))))), ?_⟩
  refine ⟨_, rfl, c, xs, rfl, .inl hc, fun p np => ?_⟩
  have kp := same_new (o := .lst xs) np
  have ap := hS.apart (Same.refl _) np
  refine ⟨_, rfl, .ref p, xs.length, rfl, .inl ⟨_, SqL.of upd_same, rfl⟩, _, rfl, by omega, by omega, fun q nq => ?_⟩
  have aq := hS.apart kp nq
  have pq : p ≠ q := fun z => by rw [← z, upd_same] at nq; cases nq
  have nq0 : H q = none := Same.free kp nq
  refine lc_range (n := xs.length) (fun i H' => ∃ done rest, H' q = some (.lst done) ∧ H' p = some (.lst rest) ∧ done.length = i ∧ (done ++ rest).Perm xs ∧ Strm H' l ls (N + i) ∧ But l ls H H')
    ⟨[], xs, upd_same, by rw [upd_ne pq]; exact upd_same, rfl, List.Perm.refl _, by simpa using ((hS.same kp).same (same_new nq)), But.of (kp.trans (same_new nq))⟩ ?_ ?_
  · rintro i H3 hi ⟨done, rest, oq, op, ln, pm, S3, B3⟩
    have hlen : done.length + rest.length = xs.length := by rw [← pm.length_eq, List.length_append]
    refine ⟨rfl, ?_⟩
    refine ⟨_, rfl, .inl ⟨rfl, _, SqL.of op⟩, _, rfl, _, rfl, .ref p, rest.length, rfl, .inl ⟨_, SqL.of op, rfl⟩, ?_⟩
    refine ⟨l, ls, _, _, rfl, S3, by omega, by omega, by omega, fun H4 r r0 r1 S4 B4 => ?_⟩
    have hr2 : r.toNat < rest.length := by omega
    have er : ((r.toNat : Nat) : Int) = r := by omega
    have ix0 : ixN rest.length r = some r.toNat := by
      unfold ixN
      rw [if_pos r0, if_pos r1]
    refine ⟨p, rest, r, r.toNat, rest[r.toNat], rfl, rfl, B4 _ _ ap.1 ap.2 op, by omega, by omega, (ixN_seq ix0).1, by simp, done, ?_, (by rw [sizeLine_eq]; omega), done ++ [rest[r.toNat]], rest.eraseIdx r.toNat, upd_same, ?_, by simp [ln], ?_, ?_, ?_⟩
    · rw [upd_ne (Ne.symm pq)]; exact B4 _ _ aq.1 aq.2 oq
    · rw [upd_ne pq, upd_same]
    · have z := pop_perm rest r.toNat rest[r.toNat] (by simp)
      rw [List.append_assoc]
      exact (List.Perm.append_left done z).trans pm
    · obtain ⟨cs, g, k, m, S⟩ := S4
      have e1 : N + ((i + 1 : Nat) : Int) = N + (i : Int) + 1 := by omega
      rw [e1]
      exact ⟨cs, g, k, m, by rw [upd_ne (Ne.symm aq.1), upd_ne (Ne.symm ap.1)]; exact S.o, by rw [upd_ne (Ne.symm aq.2), upd_ne (Ne.symm ap.2)]; exact S.c, S.ne, S.g0, S.k0, S.k1, S.m0, S.m1, S.sz⟩
    · intro b o h1 h2 e
      have nb : b ≠ q := ne_of_none e nq0
      have nb2 : b ≠ p := ne_of_none e np
      rw [upd_ne nb, upd_ne nb2]
      exact B4 _ _ h1 h2 (B3 _ _ h1 h2 e)
  · rintro H3 ⟨done, rest, oq, op, ln, pm, S3, B3⟩
    have hlen : done.length + rest.length = xs.length := by rw [← pm.length_eq, List.length_append]
    have er : rest = [] := List.eq_nil_of_length_eq_zero (by omega)
    subst er
    rw [List.append_nil] at pm
    exact hq H3 q done pm nq0 oq S3 B3
end
end L2.TB
namespace L2.TB
open PySem PySem.Spec PyProof.Rows
theorem Strm.mono {H : Hp} {l ls : Addr} {N M : Int} (h : Strm H l ls N) (le : N ≤ M) : Strm H l ls M := by
  obtain ⟨cs, g, k, m, S⟩ := h
  exact ⟨cs, g, k, m, S.o, S.c, S.ne, S.g0, S.k0, by have := S.k1; omega, S.m0, S.m1, S.sz⟩
end L2.TB
namespace L2.TB
open PySem PySem.Spec PyProof.Rows
def signsL : List Nat := (Str.ofString "abcdefghijklmnopqrstuvwxyz0123456789.").cps.toList
/-- a name that is_name lets pass -/
def NmOk (x : Str) : Prop := 1 ≤ x.cps.toList.length ∧ x.cps.toList.length ≤ 40 ∧ ∀ c ∈ x.cps.toList, c ∈ signsL
def wordL : List Nat := (Str.ofString "abcdefghijklmnopqrstuvwxyz").cps.toList
def letL : List Nat := (Str.ofString "abcdefghijklmnop").cps.toList
/-- a name as the law draws it -/
def NmS (x : Str) : Prop := NmOk x ∧ x.cps.toList.length ≤ 8
theorem word_sub : ∀ c ∈ wordL, c ∈ signsL := by decide +kernel
theorem let_sub : ∀ c ∈ letL, c ∈ signsL := by decide +kernel
theorem join_flat : ∀ cs : List Nat, TL.joinL [] (cs.map fun c => [c]) = cs
  | [] => rfl
  | [c] => rfl
  | c :: d :: r => by
    show [c] ++ ([] ++ TL.joinL [] ((d :: r).map fun c => [c])) = _
    rw [join_flat (d :: r)]; rfl
theorem join_cps (cs : List Nat) : (Txt.join (Str.ofString "") (cs.map fun c => (⟨#[c]⟩ : Str))).cps.toList = cs := by
  rw [TL.join_eq]
  have e := TL.tl_join (Str.ofString "") (cs.map fun c => (⟨#[c]⟩ : Str))
  have e2 : (cs.map fun c => (⟨#[c]⟩ : Str)).map TL.tl = cs.map fun c => [c] := by rw [List.map_map]; rfl
  have e3 : TL.tl (Str.ofString "") = [] := by decide +kernel
  rw [e2, e3, join_flat] at e
  exact e
/-- the spare names: a letter, j and q -/
def spare (c : Nat) : Str := (⟨#[c]⟩ : Str) ++ Str.ofString "jq"
theorem spare_ok : ∀ c ∈ letL, NmS (spare c) := by
  unfold NmS NmOk
  decide +kernel
theorem spare_nd : (letL.map spare).Nodup := by decide +kernel
theorem str_inj (a b : Str) : eqV (.str a) (.str b) = decide (a = b) := by
  show (a == b) = _
  by_cases h : a = b
  · subst h; simp
  · rw [decide_eq_false h]; simpa using h
theorem inV_strs (x : Str) : ∀ xs : List Str, inV (.str x) (xs.map V.str) = decide (x ∈ xs)
  | [] => by simp [inV]
  | a :: xs => by
    have e := inV_strs x xs
    unfold inV at e ⊢
    rw [List.map_cons, List.any_cons, e, str_inj]
    by_cases h : a = x
    · subst h; simp
    · by_cases h2 : x ∈ xs
      · simp [h2]
      · simp [h, h2, Ne.symm h]
theorem flat_strs (xs : List Str) : (xs.map V.str).all flatV = true := by
  rw [List.all_map]; exact List.all_eq_true.mpr fun _ _ => rfl
/-- some spare name is not among the found ones -/
theorem spare_left (w : Str) (found : List Str) (h : found.length < 16) : ((w :: letL.map spare).filter fun x => decide (x ∉ found)) ≠ [] := by
  intro e
  have sub : ∀ x ∈ letL.map spare, x ∈ found := fun x hx => by
    by_cases h2 : x ∈ found
    · exact h2
    · have z : x ∈ (w :: letL.map spare).filter fun x => decide (x ∉ found) := List.mem_filter.mpr ⟨List.mem_cons_of_mem _ hx, by simp [h2]⟩
      rw [e] at z; cases z
  have le := List.Nodup.length_le_of_subset spare_nd (fun x hx => sub x hx)
  have e26 : (letL.map spare).length = 16 := by decide +kernel
  omega
def spNameL : Sp := fun vs H Q _ => ∃ (l ls : Addr) (N : Int), vs = [.ref l] ∧ Strm H l ls N ∧ N ≤ 990000 ∧ ∀ H' x, NmS x → Strm H' l ls (N + 9) → But l ls H H' → Q (.str x) H'
abbrev NNm : List Str := ["stream", "width", "k"]
theorem scNameL : FnScope NNm ["stream"] (defScope sNameL) := ⟨rfl, rfl, rfl, by decide +kernel, rfl, by decide +kernel, by decide +kernel⟩
theorem width_at {r : Int} (h0 : 0 ≤ r) (h1 : r < 6) : ∃ wd : Int, atI [V.int 1, .int 1, .int 2, .int 3, .int 5, .int 8] r = some (.int wd) ∧ 1 ≤ wd ∧ wd ≤ 8 := by
  have c : r = 0 ∨ r = 1 ∨ r = 2 ∨ r = 3 ∨ r = 4 ∨ r = 5 := by omega
  rcases c with rfl | rfl | rfl | rfl | rfl | rfl
  · exact ⟨1, rfl, by decide, by decide⟩
  · exact ⟨1, rfl, by decide, by decide⟩
  · exact ⟨2, rfl, by decide, by decide⟩
  · exact ⟨3, rfl, by decide, by decide⟩
  · exact ⟨5, rfl, by decide, by decide⟩
  · exact ⟨8, rfl, by decide, by decide⟩
section
variable {P : Program} {w : World} {K : PySem.W.Frag} {mg : Str → Option Value} {base : Heap} {f fD fP fM : Addr} {fd fdD fdP fdM : FuncData}
theorem ok_nameL (F : Fun K "_law_name" "_law_name" sNameL f fd) (FP : Fun K "_law_pick" "_law_pick" sPick fP fdP) (gP : mg "_law_pick" = some (.ref fP)) (FD : Fun K "_law_draw" "_law_draw" sDraw fD fdD)
    (gD : mg "_law_draw" = some (.ref fD)) (gI : mg "int" = none) (gN : mg "len" = none) (gR : mg "range" = none) : FnOk P w K mg base CX0 3 f fd ["stream"] spNameL := by
  have G : FnOk P w K mg base CX0 1 fD fdD ["stream", "many"] spDraw := ok_draw FD gI
  have b := FD.binds (ps := ["stream", "many"]) fun _ _ _ _ _ _ us hl => match us, hl with | [_, _], _ => rfl
  have GP : FnOk P w K mg base CX0 2 fP fdP ["stream", "some"] spPickS := ok_pickS FP FD gD gI gN
  have bP := FP.binds (ps := ["stream", "some"]) fun _ _ _ _ _ _ us hl => match us, hl with | [_, _], _ => rfl
  refine F.ok scNameL (fun vs H Q E h => by obtain ⟨l, ls, N, e, _⟩ := h; rw [e]; rfl) fun cdv A outer s H vs Q E hr hsp => ?_
  obtain ⟨l, ls, N, rfl, hS, hN, hq⟩ := hsp
  have nd := scNameL.nd
  refine ⟨_, pss_cons (ps_set (i := 1) nd rfl (Or.inl rfl) (pe_ix ix_list (pe_lst (pa_cons pe_int (pa_cons pe_int (pa_cons pe_int (pa_cons pe_int (pa_cons pe_int (pa_cons pe_int pa_nil))))))) (pe_call G (hr.mono (by decide)) rfl gD FD.kp b .nil pass0 (pa_cons (pv 0) (pa_cons pe_int pa_nil))) (fun _ _ => rfl)))
    (pss_one (ps_ret (pe_join pe_str (pe_lc (own := [("k", 2)]) (tt := tYes) rfl nd (pi_range1 rfl gR (pa_cons (pv 1) pa_nil)) (blkOk_by (N := NNm) (sc := defScope sNameL) (by decide +kernel)) (fun _ _ _ _ _ => pg_name (i := 2) nd rfl (Or.inl rfl)) (fun _ _ _ _ _ => pts_nil) (fun _ _ _ _ _ => pe_call GP hr rfl gP FP.kp bP .nil pass0 (pa_cons (pv 0) (pa_cons pe_str pa_nil))))))), ?_⟩
  refine ⟨(by show 6 ≤ sizeLine; decide), fun D1 n1 => ?_⟩
  have kd := same_new (o := .lst [.int 1, .int 1, .int 2, .int 3, .int 5, .int 8]) n1
  have od : upd H D1 (.lst [.int 1, .int 1, .int 2, .int 3, .int 5, .int 8]) D1 = _ := upd_same
  have ad := hS.apart (Same.refl _) n1
  generalize upd H D1 (.lst [.int 1, .int 1, .int 2, .int 3, .int 5, .int 8]) = H1 at kd od ⊢
  refine ⟨_, rfl, l, ls, 6, _, rfl, hS.same kd, by omega, by decide, by decide, fun H2 r r0 r1 S2 B2 => ?_⟩
  obtain ⟨wd, ew, w0, w1⟩ := width_at r0 r1
  refine ⟨D1, _, r, _, rfl, rfl, SqL.of (B2 _ _ ad.1 ad.2 od), ew, ?_⟩
  have B02 : But l ls H H2 := (But.of kd).trans B2
  refine ⟨⟨_, rfl⟩, _, rfl, wd, rfl, by omega, by omega, fun D nD => ?_⟩
  have aD := S2.apart (Same.refl _) nD
  refine lc_range (n := wd.toNat) (fun j H' => ∃ cs : List Nat, H' D = some (.lst (cs.map fun c => V.str ⟨#[c]⟩)) ∧ cs.length = j ∧ (∀ c ∈ cs, c ∈ wordL) ∧ Strm H' l ls (N + 1 + j) ∧ But l ls H2 H')
    ⟨[], upd_same, rfl, fun c hc => by simp at hc, by simpa using S2.same (same_new nD), But.of (same_new nD)⟩ ?_ ?_
  · rintro j H3 hj ⟨cs, oD, lc, cok, S3, B3⟩
    refine ⟨rfl, ?_⟩
    refine ⟨_, rfl, l, ls, _, _, rfl, S3, by omega, by decide +kernel, by decide +kernel, fun H4 c hc S4 B4 => ?_⟩
    have oD4 := B4 _ _ aD.1 aD.2 oD
    refine ⟨_, oD4, (by rw [sizeLine_eq, List.length_map]; omega), cs ++ [c], by rw [upd_same]; simp, by simp [lc], ?_, ?_, ?_⟩
    · intro d hd
      rcases List.mem_append.mp hd with h | h
      · exact cok d h
      · obtain rfl : d = c := by simpa using h
        exact hc
    · obtain ⟨cs', g, k, m, S⟩ := S4
      exact Strm.mono ⟨cs', g, k, m, by rw [upd_ne (Ne.symm aD.1)]; exact S.o, by rw [upd_ne (Ne.symm aD.2)]; exact S.c, S.ne, S.g0, S.k0, S.k1, S.m0, S.m1, S.sz⟩ (by omega)
    · intro b o h1 h2 e
      have nb : b ≠ D := ne_of_none e nD
      rw [upd_ne nb]
      exact B4 _ _ h1 h2 (B3 _ _ h1 h2 e)
  · rintro H3 ⟨cs, oD, lc, cok, S3, B3⟩
    have lc3 : 1 ≤ cs.length ∧ cs.length ≤ 8 := by omega
    have em : (cs.map fun c => V.str ⟨#[c]⟩) = (cs.map fun c => (⟨#[c]⟩ : Str)).map V.str := by rw [List.map_map]; rfl
    rw [em] at oD
    have sums : ∀ l : List Nat, ((l.map fun c => (⟨#[c]⟩ : Str)).map (·.length)).sum = l.length := fun l => by
      induction l with
      | nil => rfl
      | cons a l ih => rw [List.map_cons, List.map_cons, List.sum_cons, ih, List.length_cons]; show 1 + _ = _; omega
    refine ⟨_, D, _, rfl, rfl, .inl (SqL.of oD), ?_, ?_⟩
    · rw [sums, List.length_map]; show cs.length + cs.length * 0 ≤ _; omega
    have hw : (Txt.join (Str.ofString "") (cs.map fun c => (⟨#[c]⟩ : Str))).cps.toList = cs := join_cps cs
    generalize Txt.join (Str.ofString "") (cs.map fun c => (⟨#[c]⟩ : Str)) = wd at hw
    refine hq H3 wd ?_ (S3.mono (by omega)) (B02.trans B3)
    unfold NmS NmOk
    rw [hw]
    exact ⟨⟨lc3.1, by omega, fun c hc => word_sub c (cok c hc)⟩, by omega⟩
end
end L2.TB
namespace L2.TB
open PySem PySem.Spec PyProof.Rows
def spNames : Sp := fun vs H Q _ => ∃ (l ls : Addr) (many N : Int), vs = [.ref l, .int many] ∧ Strm H l ls N ∧ N ≤ 900000 ∧ 0 ≤ many ∧ many ≤ 12 ∧
  ∀ H' q (ns : List Str), (ns.length : Int) = many → ns.Nodup → (∀ x ∈ ns, NmS x) → H q = none → H' q = some (.lst (ns.map V.str)) → Strm H' l ls (N + 9 * many) → But l ls H H' → Q (.ref q) H'
abbrev NN : List Str := ["stream", "many", "found", "k", "spare", "letter", "x"]
theorem scNames : FnScope NN ["stream", "many"] (defScope sNamesL) := ⟨rfl, rfl, rfl, by decide +kernel, rfl, by decide +kernel, by decide +kernel⟩
section
variable {P : Program} {w : World} {K : PySem.W.Frag} {mg : Str → Option Value} {base : Heap} {f fD fP fM fW : Addr} {fd fdD fdP fdM fdW : FuncData}
theorem ok_names (F : Fun K "_law_names" "_law_names" sNamesL f fd) (FW : Fun K "_law_name" "_law_name" sNameL fW fdW) (gW : mg "_law_name" = some (.ref fW)) (FP : Fun K "_law_pick" "_law_pick" sPick fP fdP) (gP : mg "_law_pick" = some (.ref fP)) (FD : Fun K "_law_draw" "_law_draw" sDraw fD fdD)
    (gD : mg "_law_draw" = some (.ref fD)) (gI : mg "int" = none) (gN : mg "len" = none) (gR : mg "range" = none) : FnOk P w K mg base CX0 4 f fd ["stream", "many"] spNames := by
  have GW : FnOk P w K mg base CX0 3 fW fdW ["stream"] spNameL := ok_nameL FW FP gP FD gD gI gN gR
  have bW := FW.binds (ps := ["stream"]) fun _ _ _ _ _ _ us hl => match us, hl with | [_], _ => rfl
  refine F.ok scNames (fun vs H Q E h => by obtain ⟨l, ls, many, N, e, _⟩ := h; rw [e]; rfl) fun cdv A outer s H vs Q E hr hsp => ?_
  obtain ⟨l, ls, many, N, rfl, hS, hN, h0, h1, hq⟩ := hsp
  have nd := scNames.nd
  refine ⟨_, pss_cons (ps_set (i := 2) nd rfl (Or.inr rfl) (pe_lst pa_nil))
    (pss_cons (ps_for PassesOwn.never rfl (pi_range1 rfl gR (pa_cons (pv 1) pa_nil)) (pg_name (i := 3) nd rfl (Or.inl rfl))
      (pss_cons (ps_set (i := 4) nd rfl (Or.inl rfl) (pe_op op_cat (pe_lst (pa_cons (pe_call GW hr rfl gW FW.kp bW .nil pass0 (pa_cons (pv 0) pa_nil)) pa_nil)) (pe_lc (own := [("letter", 5)]) (tt := tYes) rfl nd (pi_str pe_str) (blkOk_by (N := NN) (sc := defScope sNamesL) (by decide +kernel))
          (fun _ _ _ _ _ => pg_name (i := 5) nd rfl (Or.inl rfl)) (fun _ _ _ _ _ => pts_nil) (fun _ _ _ _ _ => pe_op op_add_str (pv 5) pe_str))))
      (pss_one (ps_expr (pe_bm PySem.F.plainAttrs_list PySem.F.slot_list_append PySem.F.type_list_append mt_append (pv 2) (pa_cons (pe_ix ix_list (pe_lc (own := [("x", 6)]) (tt := tTest (tOp (rIn K true) (tVar 6) (tVar 2))) rfl nd (pi_list (pv 4)) (blkOk_by (N := NN) (sc := defScope sNamesL) (by decide +kernel))
          (fun _ _ _ _ _ => pg_name (i := 6) nd rfl (Or.inl rfl)) (fun _ _ _ _ _ => pts_one (pt_cmpR op_notIn_seq (pv 6) (pv 2) rfl)) (fun _ _ _ _ _ => pv 6)) pe_int (fun _ _ => rfl)) pa_nil))))))
    (pss_one (ps_ret (pv 2)))), ?_⟩
  refine ⟨Nat.zero_le _, fun q nq => ?_⟩
  have aq := hS.apart (Same.refl _) nq
  refine ⟨_, rfl, many, rfl, by omega, by omega, for_range (n := many.toNat) (fun i σ H' => ∃ ns : List Str, H' q = some (.lst (ns.map V.str)) ∧ ns.length = i ∧ ns.Nodup ∧ (∀ x ∈ ns, NmS x) ∧ Strm H' l ls (N + 9 * i) ∧ But l ls H H' ∧
    ∃ s3 s4 s5 s6, σ = [some (.ref l), some (.int many), some (.ref q), s3, s4, s5, s6])
    ⟨[], upd_same, rfl, .nil, fun x hx => by simp at hx, by simpa using hS.same (same_new nq), But.of (same_new nq), _, _, _, _, rfl⟩ ?_ ?_⟩
  · rintro i σ H1 hi ⟨ns, oq, ln, nn, nok, S1, B1, s3, s4, s5, s6, rfl⟩
    have hi2 : (i : Int) < 12 := by omega
    -- the word
    refine ⟨_, rfl, l, ls, _, rfl, S1, by omega, fun H3 wd wok S3 B13 => ?_⟩
    have oq3 := B13 _ _ aq.1 aq.2 oq
    -- the spare names
    · refine ⟨(by rw [sizeLine_eq]; show 1 ≤ _; omega), fun a1 n1 => ?_⟩
      have k1 := same_new (o := .lst [.str wd]) n1
      have e26 : (Str.ofString "abcdefghijklmnop").cps.size = 16 := by decide +kernel
      have l26 : letL.length = 16 := by decide +kernel
      refine ⟨_, rfl, fun D2 nD2 => ⟨fun j m H' => m = 16 - j ∧ j ≤ 16 ∧ H' D2 = some (.lst ((letL.take j).map fun c => V.str (spare c))) ∧ Same (upd H3 a1 (.lst [.str wd])) H',
        ⟨16, rfl, by decide, upd_same, same_new nD2⟩, ?_⟩⟩
      rintro j m H4 ⟨rfl, hj, oD2, sm4⟩
      by_cases lt : j < 16
      · refine .inr ⟨(by show j < _; rw [e26]; exact lt), fun H' => H' D2 = some (.lst ((letL.take (j + 1)).map fun c => V.str (spare c))) ∧ Same (upd H3 a1 (.lst [.str wd])) H', fun H' h => ⟨16 - (j + 1), by omega, rfl, lt, h⟩, ?_⟩
        rintro v H' ⟨rfl, c, hc, rfl⟩
        have hc2 : letL[j]? = some c := by
          unfold letL
          rw [Array.getElem?_toList]; exact hc
        refine ⟨rfl, ?_⟩
        refine ⟨_, rfl, _, _, rfl, rfl, (by rw [sizeLine_eq]; show 1 + 2 ≤ _; omega), _, oD2, (by rw [sizeLine_eq, List.length_map, List.length_take]; omega), ?_, fun b o e => by rw [upd_ne (ne_of_none e nD2)]; exact sm4 b o e⟩
        rw [upd_same, List.take_succ, hc2]
        simp [spare]
      · have j26 : j = 16 := by omega
        refine .inl ⟨(by show _ ≤ j; rw [e26]; omega), ?_⟩
        have et : letL.take j = letL := List.take_of_length_le (by omega)
        rw [et] at oD2
        refine ⟨a1, D2, _, _, rfl, rfl, sm4 _ _ upd_same, oD2, (by rw [sizeLine_eq, List.length_map, l26]; show 1 + 16 ≤ _; omega), fun p np => ?_⟩
        have esp : [V.str wd] ++ letL.map (fun c => V.str (spare c)) = (wd :: letL.map spare).map V.str := by simp [List.map_map]
        rw [esp]
        have spl : (wd :: letL.map spare).length = 17 := by rw [List.length_cons, List.length_map, l26]
        have spok : ∀ x ∈ (wd :: letL.map spare), NmS x := fun x hx => by
          rcases List.mem_cons.mp hx with h | h
          · rw [h]; exact wok
          · obtain ⟨c, hc, rfl⟩ := List.mem_map.mp h
            exact spare_ok c hc
        have hne := spare_left wd ns (by omega)
        generalize wd :: letL.map spare = sp at spl spok hne
        have k5 := same_new (o := .lst (sp.map V.str)) np
        have k35 := (k1.trans sm4).trans k5
        refine ⟨_, rfl, .inl ⟨rfl, _, SqL.of (k35 _ _ oq3)⟩, _, rfl, p, rfl, ⟨_, SqL.of upd_same⟩, fun D3 nD3 => ?_⟩
        refine lc_list (xs := sp.map V.str) (fun j H' => H' D3 = some (.lst (((sp.take j).filter fun x => decide (x ∉ ns)).map V.str)) ∧ Same (upd H4 p (.lst (sp.map V.str))) H')
          ⟨by rw [upd_same]; rfl, same_new nD3⟩ (fun j H' _ h => SqL.of (h.2 _ _ upd_same)) ?_ ?_
        · rintro j v H6 ev ⟨oD3, sm6⟩
          rw [List.getElem?_map] at ev
          obtain ⟨x, ex, rfl⟩ := Option.map_eq_some_iff.mp ev
          have et2 : sp.take (j + 1) = sp.take j ++ [x] := by rw [List.take_succ, ex]; rfl
          refine ⟨rfl, ?_⟩
          refine ⟨_, rfl, _, rfl, q, ns.map V.str, rfl, .inl (SqL.of (sm6 _ _ (k35 _ _ oq3))), rfl, flat_strs ns, _, rfl, ?_⟩
          rw [inV_strs]
          by_cases hx : x ∈ ns
          · rw [decide_eq_true hx]
            refine iteF ?_
            refine ⟨?_, sm6⟩
            rw [et2, List.filter_append]
            simpa [hx] using oD3
          · rw [decide_eq_false hx]
            refine iteT ?_
            refine ⟨_, rfl, _, oD3, ?_, ?_, fun b o e => by rw [upd_ne (ne_of_none e nD3)]; exact sm6 b o e⟩
            · have z := List.length_filter_le (fun x => decide (x ∉ ns)) (sp.take j)
              rw [List.length_take] at z
              rw [sizeLine_eq, List.length_map]; omega
            · rw [upd_same, et2, List.filter_append]
              simp [hx]
        · rintro H6 ⟨oD3, sm6⟩
          have ef : sp.take (sp.map V.str).length = sp := List.take_of_length_le (by rw [List.length_map]; omega)
          rw [ef] at oD3
          have oq6 := sm6 _ _ (k35 _ _ oq3)
          cases efl : sp.filter fun x => decide (x ∉ ns) with
          | nil => exact absurd efl hne
          | cons y rest =>
            rw [efl] at oD3
            have hy : y ∈ sp.filter fun x => decide (x ∉ ns) := by rw [efl]; exact List.mem_cons_self
            obtain ⟨hy1, hy2⟩ := List.mem_filter.mp hy
            have hy3 : y ∉ ns := by simpa using hy2
            refine ⟨D3, _, 0, .str y, rfl, rfl, SqL.of oD3, atI_nat (j := 0) (by simp), ?_⟩
            refine ⟨q, ns.map V.str, .str y, rfl, rfl, oq6, (by rw [sizeLine_eq, List.length_map]; omega), ns ++ [y], by rw [upd_same]; simp, by simp [ln], ?_, ?_, ?_, ?_, _, _, _, _, rfl⟩
            · rw [List.nodup_append]
              exact ⟨nn, by simp, fun a ha b hb => by
                obtain rfl : b = y := by simpa using hb
                exact fun z => hy3 (z ▸ ha)⟩
            · intro x hx
              rcases List.mem_append.mp hx with h | h
              · exact nok x h
              · obtain rfl : x = y := by simpa using h
                exact spok _ hy1
            · obtain ⟨cs', g, k, m, S⟩ := (S3.same k35).same sm6
              exact Strm.mono ⟨cs', g, k, m, by rw [upd_ne (Ne.symm aq.1)]; exact S.o, by rw [upd_ne (Ne.symm aq.2)]; exact S.c, S.ne, S.g0, S.k0, S.k1, S.m0, S.m1, S.sz⟩ (by omega)
            · intro b o h1 h2 e
              have nb : b ≠ q := ne_of_none e nq
              rw [upd_ne nb]
              exact sm6 _ _ (k35 _ _ (B13 _ _ h1 h2 (B1 _ _ h1 h2 e)))
  · rintro σ H1 ⟨ns, oq, ln, nn, nok, S1, B1, s3, s4, s5, s6, rfl⟩
    have em : ((many.toNat : Nat) : Int) = many := by omega
    rw [em] at S1
    exact ⟨_, rfl, hq H1 q ns (by omega) nn nok nq oq S1 B1⟩
end
end L2.TB
namespace L2.TB
open PySem
open PySem.Spec PyProof.Rows
/-! for i, x in enumerate(thing), thing a list or a tuple -/
abbrev tupIter (t : Addr) : Obj := { cls := .type "tuple_iterator", data := .fields #[.ref t, .int 0 0] }
abbrev enumRec (q : Addr) : Obj := { cls := .type "enumerate", data := .fields #[.none, .bool false, .ref q, rawInt 0, .none, .none] }
section
variable {P : Program} {w : World}
/-- what enumerate's maker does with a tuple -/
theorem made_enum (t : Addr) (ys : Array Value) : Meets (Builtin.«enumerate.__new__» ⟨[.type "enumerate", .ref t], []⟩) fun _ done z =>
    z.heap.IsTuple t ys ∧ done (.ok (.ret (.ref (z.heap.push (tupIter t)).objs.size))) { z with heap := (z.heap.push (tupIter t)).push (enumRec z.heap.objs.size) } :=
  .of_wp fun _ _ _ _ z hz => by
    obtain ⟨h0, gs, ds, tk, os⟩ := z
    obtain ⟨isT, fin⟩ := hz
    have sub := sub_enumerate
    have step : ∀ {A' : Around} {E' : Value → Shared → Prop} {Q' : Value → Shared → Prop} {P' : Program} {w' : World}, Q' (.ref h0.objs.size) ⟨h0.push (tupIter t), gs, ds, tk, os⟩ → wpAny (model P' w') A' (pyIter (.ref t)) Q' E' ⟨h0, gs, ds, tk, os⟩ :=
      fun more => wpAny_pyIter_tuple (s := ⟨h0, gs, ds, tk, os⟩) isT more
    wp_walk using step
    refine wpAny_stack_any (fun _ => wpAny_pure ?_)
    split
    · rename_i c _ _ _ _ _
      rcases (c == Value.type "enumerate") with _ | _ <;> (wp_walk using step; exact ⟨_, rfl, fin⟩)
    · wp_walk using step
      exact ⟨_, rfl, fin⟩
/-- the call -/
theorem enum_of_tuple {A : Around} {z : Shared} {E Q : Value → Shared → Prop} {t : Addr} {ys : Array Value} (isT : z.heap.IsTuple t ys)
    (more : IsEnum ((z.heap.push (tupIter t)).push (enumRec z.heap.objs.size)) (z.heap.objs.size + 1) z.heap.objs.size 0 .none →
      Q (.ref (z.heap.objs.size + 1)) { z with heap := (z.heap.push (tupIter t)).push (enumRec z.heap.objs.size) }) : wpAny (model P w) A (call (.type "enumerate") [.ref t]) Q E z := by
  refine callType_new F.called_enumerate (by decide) (F.typeCall_enumerate_1 _) (F.newCall_enumerate_1 _) (fun b => F.args_object_init_2 b _) F.entry_enumerate_new (made_enum t ys) ⟨isT, ?_⟩
  have size1 : (z.heap.push (tupIter t)).objs.size = z.heap.objs.size + 1 := Heap.size_push ..
  have rec1 := Heap.get?_push_size (z.heap.push (tupIter t)) (o := enumRec z.heap.objs.size) rfl
  rw [size1] at rec1
  show _ ∧ _
  rw [size1]
  exact ⟨⟨_, rec1, rfl⟩, more rec1⟩
end
/-- the items of the tuple at t, each in a new pair with its number -/
def IteT (K : PySem.W.Frag) (t : Addr) : It where
  go i H := ∃ (ys : List V) (y : V), SqT K H t ys ∧ ys[i]? = some y
  yld i H v H' := ∃ T y, v = .ref T ∧ H T = none ∧ H' = upd H T (.tup [.int (i : Nat), y]) ∧ ∀ ys, SqT K H t ys → ys[i]? = some y
  stop i H := ∃ ys : List V, SqT K H t ys ∧ ys.length ≤ i
/-- three records of three classes stand at three places -/
theorem three {h : Heap} {t q r : Addr} {ys : Array Value} {i : Nat} {c : Int} {old : Value} (isT : h.IsTuple t ys) (isQ : h.IsTupleIter q t i) (isR : IsEnum h r q c old) : t ≠ q ∧ r ≠ t := by
  obtain ⟨ot, gt, ct, _⟩ := isT
  obtain ⟨oq, gq, cq, _⟩ := isQ
  have ct : ot.cls = Value.type "tuple" := ct
  have cq : oq.cls = Value.type "tuple_iterator" := cq
  constructor
  · rintro rfl
    rw [gt] at gq
    injection gq with same
    rw [← same, ct] at cq
    exact absurd cq (by decide)
  · rintro rfl
    have gr := isR
    unfold IsEnum at gr
    rw [gt] at gr
    injection gr with same
    rw [same] at ct
    exact absurd (show Value.type "enumerate" = Value.type "tuple" from ct) (by decide)
theorem two_of {b r q : Addr} {p : Addr → Prop} (hr : p r) (hq : p q) (hb : b ∈ [r, q]) : p b := by
  rcases List.mem_cons.mp hb with rfl | hb
  · exact hr
  · obtain rfl := List.mem_singleton.mp hb
    exact hq
theorem turn_enumT {P : Program} {w : World} {K : PySem.W.Frag} {elts : List Expr} {kk : Nat} {tpos : Pos} (t r q : Addr) :
    Turn P w K (.Tuple elts kk tpos) (IteT K t) [r, q] r (fun i h => r ≠ q ∧ h.IsTupleIter q t i ∧ ∃ old, IsEnum h r q ((i : Nat) : Int) old) := by
  refine ⟨List.mem_cons_self, fun i h st b hb => ?_, fun i h h' st same => ?_, ?_, ?_, fun A i z Q E st more => ?_⟩
  · obtain ⟨_, ⟨oq, gq, _, dq⟩, old, gr⟩ := st
    exact two_of (p := fun b => ∃ o, h.get? b = some o ∧ ∀ v, o.data ≠ .cell v) ⟨_, gr, fun _ e => nomatch e⟩ ⟨oq, gq, fun _ e => by rw [dq] at e; exact nomatch e⟩ hb
  · obtain ⟨ne, gq, old, gr⟩ := st
    exact ⟨ne, gq.at fun o e => same q (List.mem_cons_of_mem _ List.mem_cons_self) o e, old, same r List.mem_cons_self _ gr⟩
  · rintro X rfl rfl rfl calm i pins z σ H E I room ⟨ne, gq, old, gr⟩ ⟨ys, y, isY, nth⟩
    obtain ⟨vs, rel, isT, _⟩ := I.tuple isY
    obtain ⟨v, nthV, relV⟩ := rel.get nth
    have isT : z.heap.IsTuple t vs.toArray := isT
    obtain ⟨tq, rt⟩ := three isT gq gr
    have lr : r < z.heap.objs.size := Heap.lt_size gr
    have lq : q < z.heap.objs.size := gq.elim fun _ e => Heap.lt_size e.1
    have inside : i < vs.toArray.size := by
      have := (List.getElem?_eq_some_iff.mp nthV).1
      simpa using this
    have draws := Draws.tuple (prog := X.prog) (w := X.w) (A := X.A.in1) (I.ok.hd calm) q t tq vs.toArray
    refine wpAny_pyNext_enum_itemC draws gr ⟨gq, isT⟩ inside ne (fun m => two_of (p := fun b => r = b → False) ne rt m rfl) fun v' h1 tk hv out stQ newT _ kept1 => ?_
    obtain rfl : v' = v := by
      have hv : vs.toArray[i]? = some v' := hv
      rw [List.getElem?_toArray, nthV] at hv
      exact (Option.some.inj hv).symm
    refine ⟨_, rfl, wpAny_letOwnedTupleGo_enum (s := { z with heap := h1, toks := tk + 1 }) out fun h2 back same2 => ?_⟩
    have at2 : ∀ b o, b ∉ [r, q] → z.heap.get? b = some o → h2.get? b = some o := fun b o away e =>
      (same2.2 b fun k => away (k ▸ List.mem_cons_self)).trans (kept1 b o (fun k => away (k ▸ List.mem_cons_self)) (fun k => away (k ▸ List.mem_cons_of_mem _ List.mem_cons_self)) e)
    have pair : ObjOk X.prog X.w (upd H z.heap.objs.size (.tup [.int (i : Nat), y])) h2 z.heap.objs.size (.tup [.int (i : Nat), y]) :=
      ⟨show 2 ≤ sizeLine by decide, [.int i tk, v'], .cons ⟨tk, rfl⟩ (.cons relV .nil), _, (same2.2 _ (Nat.ne_of_gt lr)).trans newT, rfl, _, rfl⟩
    refine ⟨.ref z.heap.objs.size, _, I.turnedNew (t' := tk + 1) at2 room (Nat.le_refl _) pair, rfl, ⟨_, y, rfl, I.hok.fresh (Nat.le_refl _), rfl, fun ys' is' => ?_⟩, ⟨ne, ?_, v', ?_⟩, fun b hb => ?_⟩
    · rw [I.tuple_inj is' isY]; exact nth
    · exact stQ.1.at fun o e => (same2.2 q ne.symm).trans e
    · rw [show ((i + 1 : Nat) : Int) = (i : Int) + 1 from by omega]; exact back
    · have lb : b < z.heap.objs.size := two_of (p := fun b => b < z.heap.objs.size) lr lq hb
      rw [upd_ne (Nat.ne_of_lt lb)]
      exact (room b hb).1
  · rintro X rfl rfl rfl calm i pins z σ H E I room ⟨ne, gq, old, gr⟩ ⟨ys, isY, past⟩
    obtain ⟨vs, rel, isT, _⟩ := I.tuple isY
    have isT : z.heap.IsTuple t vs.toArray := isT
    obtain ⟨k0, k1, k2, k3, k4, k5⟩ := room q (List.mem_cons_of_mem _ List.mem_cons_self)
    have isE : z.TypeIs (.ref r) "enumerate" := ⟨_, gr, rfl⟩
    have len := rel.length
    have past : vs.toArray[i]? = none := by rw [List.getElem?_toArray, List.getElem?_eq_none_iff]; omega
    unfold pyNext
    refine wpAny_bind (wpAny_attempt (wpAny_callSpecial?_slot (name := Str.ofString "__next__") isE F.slot_enumerate_next (wpAny_call_entry F.slot_enumerate_next isE F.entry_enumerate_next ?_ (F.args_enumerate_next_1 _))))
    show wpAny _ _ (field (.ref r) 2 >>= _) _ _ z
    refine wpAny_bind (wpAny_field gr rfl (x := .ref q) rfl (wpAny_bind (wpAny_nextOf_tuple_end (I.ok.hd calm) gq isT past fun h1 x but ⟨ox, gx, cx⟩ => ?_)))
    exact wpAny_bind (wpAny_isInstance (T := "StopIteration") (b := true) ⟨ox, gx, cx⟩ isSubtype_stop (wpAny_pure ⟨rfl, I.turned (t' := z.toks) (fun b o away e => but b o away e) k0 k1 k3 k4 k5⟩))
  · obtain ⟨_, _, old, gr⟩ := st
    exact wpAny_pyIter_enum gr more
/-- the reading of enumerate over a list or over a tuple -/
def iEnumS (K : PySem.W.Frag) (ta : TA) : TI := fun σ H R => ta σ H fun vs H1 => ∃ a xs, vs = [.ref a] ∧ ((SqL K H1 a xs ∧ R (Ite K a) H1) ∨ (SqT K H1 a xs ∧ R (IteT K a) H1))
theorem pi_enumS {X : Cx} {e : Expr} {ta : TA} {p pos tpos : Pos} {elts : List Expr} {kk : Nat} (hg : Gl X "enumerate") (hm : X.mg "enumerate" = none) (ha : PA X [e] ta) (hs : starEach [e] X.env = [(false, eval e X.env)] := by rfl) :
    PI X (.Tuple elts kk tpos) (.Call (.Name "enumerate" p) [e] [] pos) (iEnumS X.K ta) := by
  refine PI.mk fun pins z σ H R I reading => Call_ (ld_blt I hg hm boot_enumerate (PyProof.Rows.callWith_type1 (thn (ha.run pos pins z σ H _ I reading) fun us z1 hu => ?_) hs rfl))
  obtain ⟨vs, H1, I1, rel, a, xs, rfl, cases2⟩ := hu
  match us, rel with
  | [u], .cons ru .nil =>
    obtain rfl : u = Value.ref a := ru
    have fresh : ∀ b ∈ [z1.heap.objs.size + 1, z1.heap.objs.size], FpOk X pins H1 b := fun b hb =>
      have far : z1.heap.objs.size ≤ b := two_of (p := fun b => z1.heap.objs.size ≤ b) (Nat.le_succ _) (Nat.le_refl _) hb
      I1.fpOk far (I1.hok.fresh far)
    rcases cases2 with ⟨sq, q⟩ | ⟨sq, q⟩
    · obtain ⟨its, rv, isL, _⟩ := I1.list sq
      exact call_enumerate_list isL.isList fun h' gE gI _ kept => wpAny_pyIter_enum gE ⟨_, _, _, _, H1, rfl, I1.kept (t' := z1.toks) kept, turn_enum a _ _, ⟨⟨.none, gE⟩, gI, Nat.succ_ne_self _⟩, fresh, q⟩
    · obtain ⟨its, rv, isT, _⟩ := I1.tuple sq
      have isT : z1.heap.IsTuple a its.toArray := isT
      refine enum_of_tuple isT fun gE => wpAny_pyIter_enum gE ⟨_, _, _, _, H1, rfl, I1.kept (t' := z1.toks) fun b o e => ?_, turn_enumT a _ _, ⟨Nat.succ_ne_self _, ?_, .none, gE⟩, fresh, q⟩
      · exact Heap.get?_push_of_some _ (Heap.get?_push_of_some _ e)
      · exact ⟨_, Heap.get?_push_of_some _ (Heap.get?_push_size _ rfl), rfl, rfl⟩
end L2.TB
namespace L2.TB
open PySem PySem.Spec PyProof.Rows
/-! the program's looks at what it is passed -/
theorem boot_int' : bootBuiltins "int" = some (.type "int") := by decide +kernel
theorem boot_bool' : bootBuiltins "bool" = some (.type "bool") := by decide +kernel
theorem boot_str' : bootBuiltins "str" = some (.type "str") := by decide +kernel
theorem boot_list' : bootBuiltins "list" = some (.type "list") := by decide +kernel
theorem boot_tuple' : bootBuiltins "tuple" = some (.type "tuple") := by decide +kernel
theorem boot_dict' : bootBuiltins "dict" = some (.type "dict") := by decide +kernel
theorem boot_isi : bootBuiltins "isinstance" = some (.builtin "isinstance") := by decide +kernel
/-- the list or the tuple at a -/
def SqA (K : PySem.W.Frag) (H : Hp) (a : Addr) (xs : List V) : Prop := H a = some (.lst xs) ∨ H a = some (.tup xs)
theorem SqA.seq {K : PySem.W.Frag} {H : Hp} {a : Addr} {xs : List V} (h : SqA K H a xs) : SqL K H a xs ∨ SqT K H a xs := h.imp SqL.of SqT.of
theorem SqA.same {K : PySem.W.Frag} {H H' : Hp} {a : Addr} {xs : List V} (h : SqA K H a xs) (s : Same H H') : SqA K H' a xs := h.imp (s _ _) (s _ _)
theorem kit_two_l {K : PySem.W.Frag} : PySem.W.kitAny K (.type "list") [.type "list", .type "tuple"] = some true := by
  unfold PySem.W.kitAny
  rw [kit_ty (K := K) (a := "list") (b := "list") (r := true) (by decide +kernel)]
theorem kit_two_t {K : PySem.W.Frag} : PySem.W.kitAny K (.type "tuple") [.type "list", .type "tuple"] = some true := by
  unfold PySem.W.kitAny
  rw [kit_ty (K := K) (a := "tuple") (b := "list") (r := false) (by decide +kernel)]
  dsimp only
  unfold PySem.W.kitAny
  rw [kit_ty (K := K) (a := "tuple") (b := "tuple") (r := true) (by decide +kernel)]
def spIsInt : Sp := fun vs H Q _ => ∃ k : Int, vs = [.int k] ∧ Q (.bl true) H
def spIsList (K : PySem.W.Frag) : Sp := fun vs H Q _ => ∃ (a : Addr) (xs : List V), vs = [.ref a] ∧ SqA K H a xs ∧ ∀ H', Same H H' → Q (.bl true) H'
def spIsOne (K : PySem.W.Frag) : Sp := fun vs H Q _ => ∃ (c : Addr) (ns : List Str) (x : Str), vs = [.ref c, .str x] ∧ SqL K H c (ns.map V.str) ∧ Q (.bl (decide (x ∈ ns))) H
/-- no bad one -/
def spFirst (K : PySem.W.Frag) : Sp := fun vs H Q _ => ∃ (c a : Addr) (ns known : List Str), vs = [.ref c, .ref a] ∧ H c = some (.lst (ns.map V.str)) ∧ SqA K H a (known.map V.str) ∧ known.Nodup ∧ (∀ x ∈ known, x ∈ ns) ∧ known.length < 1000 ∧ ∀ H', Same H H' → Q .non H'
theorem scIsInt : FnScope ["thing"] ["thing"] (defScope sIsInt) := ⟨rfl, rfl, rfl, by decide +kernel, rfl, by decide +kernel, by decide +kernel⟩
theorem scIsList : FnScope ["thing"] ["thing"] (defScope sIsList) := ⟨rfl, rfl, rfl, by decide +kernel, rfl, by decide +kernel, by decide +kernel⟩
theorem scIsOne : FnScope ["names", "thing"] ["names", "thing"] (defScope sIsOne) := ⟨rfl, rfl, rfl, by decide +kernel, rfl, by decide +kernel, by decide +kernel⟩
abbrev NF : List Str := ["names", "things", "seen", "index", "thing"]
theorem scFirst : FnScope NF ["names", "things"] (defScope sFirst) := ⟨rfl, rfl, rfl, by decide +kernel, rfl, by decide +kernel, by decide +kernel⟩
section
variable {P : Program} {w : World} {K : PySem.W.Frag} {mg : Str → Option Value} {base : Heap} {f fL fO : Addr} {fd fdL fdO : FuncData}
theorem ok_isInt (F : Fun K "is_integer" "is_integer" sIsInt f fd) (gI : mg "isinstance" = none) (gInt : mg "int" = none) (gB : mg "bool" = none) : FnOk P w K mg base CX0 1 f fd ["thing"] spIsInt := by
  refine F.ok scIsInt (fun vs H Q E h => by obtain ⟨k, e, _⟩ := h; rw [e]; rfl) fun cdv A outer s H vs Q E hr hsp => ?_
  obtain ⟨k, rfl, hq⟩ := hsp
  refine ⟨_, pss_one (ps_ret (pe_and (pe_callB (r := rIsi K) call_isi rfl gI boot_isi (pa_cons (pv 0) (pa_cons (pe_bltn (v := .ty "int") rfl gInt boot_int' rfl) pa_nil)))
    (pe_one (pe_not (pe_callB (r := rIsi K) call_isi rfl gI boot_isi (pa_cons (pv 0) (pa_cons (pe_bltn (v := .ty "bool") rfl gB boot_bool' rfl) pa_nil))))))), ?_⟩
  exact ⟨_, rfl, _, _, _, _, true, rfl, .ty _, .base (.int k), kit_ty (by decide +kernel), true, rfl, _, rfl, _, _, _, _, false, rfl, .ty _, .base (.int k), kit_ty (by decide +kernel), false, rfl, hq⟩
theorem ok_isList (F : Fun K "is_list" "is_list" sIsList f fd) (gI : mg "isinstance" = none) (gL : mg "list" = none) (gT : mg "tuple" = none) : FnOk P w K mg base CX0 1 f fd ["thing"] (spIsList K) := by
  refine F.ok scIsList (fun vs H Q E h => by obtain ⟨a, xs, e, _⟩ := h; rw [e]; rfl) fun cdv A outer s H vs Q E hr hsp => ?_
  obtain ⟨a, xs, rfl, hS, hq⟩ := hsp
  refine ⟨_, pss_one (ps_ret (pe_callB (r := rIsiT K) call_isiT rfl gI boot_isi (pa_cons (pv 0) (pa_cons (pe_tup (pa_cons (pe_bltn (v := .ty "list") rfl gL boot_list' rfl) (pa_cons (pe_bltn (v := .ty "tuple") rfl gT boot_tuple' rfl) pa_nil))) pa_nil)))), ?_⟩
  refine ⟨_, rfl, (by show 2 ≤ sizeLine; decide), fun t nt => ?_⟩
  have kt := same_new (o := .tup [.ty "list", .ty "tuple"]) nt
  rcases hS.same kt with e | e
  · exact ⟨_, _, _, _, _, true, rfl, upd_same, .cons (.ty _) (.cons (.ty _) .nil), .base (.lst e), kit_two_l, hq _ kt⟩
  · exact ⟨_, _, _, _, _, true, rfl, upd_same, .cons (.ty _) (.cons (.ty _) .nil), .base (.tup e), kit_two_t, hq _ kt⟩
theorem ok_isOne (F : Fun K "is_one_of" "is_one_of" sIsOne f fd) (gI : mg "isinstance" = none) (gS : mg "str" = none) : FnOk P w K mg base CX0 1 f fd ["names", "thing"] (spIsOne K) := by
  refine F.ok scIsOne (fun vs H Q E h => by obtain ⟨c, ns, x, e, _⟩ := h; rw [e]; rfl) fun cdv A outer s H vs Q E hr hsp => ?_
  obtain ⟨c, ns, x, rfl, hS, hq⟩ := hsp
  refine ⟨_, pss_one (ps_ret (pe_and (pe_callB (r := rIsi K) call_isi rfl gI boot_isi (pa_cons (pv 1) (pa_cons (pe_bltn (v := .ty "str") rfl gS boot_str' rfl) pa_nil)))
    (pe_one (pe_cmpR op_in_seq (pv 1) (pv 0) rfl)))), ?_⟩
  refine ⟨_, rfl, _, _, _, _, true, rfl, .ty _, .base (.str x), kit_ty (by decide +kernel), true, rfl, _, rfl, _, rfl, c, _, rfl, .inl hS, rfl, flat_strs ns, ?_⟩
  rw [inV_strs]
  exact hq
/-- the dict of what was seen -/
def seenD (xs : List Str) : List (Key × V) := xs.map fun x => (Sum.inr x, V.bl true)
theorem seen_none {xs : List Str} {x : Str} (h : x ∉ xs) : valV (seenD xs) (Sum.inr x) = none := by
  cases e : valV (seenD xs) (Sum.inr x) with
  | none => rfl
  | some v =>
    exfalso
    have z : (valV (seenD xs) (Sum.inr x)).isSome = true := by rw [e]; rfl
    rw [← valV_any, List.any_eq_true] at z
    obtain ⟨q, hq, hq2⟩ := z
    obtain ⟨y, hy, rfl⟩ := List.mem_map.mp hq
    have hq3 : (Sum.inr y : Key) = Sum.inr x := of_decide_eq_true hq2
    exact h (Sum.inr.inj hq3 ▸ hy)
theorem seen_put {xs : List Str} {x : Str} (h : x ∉ xs) : putK (seenD xs) (Sum.inr x) (.bl true) = seenD (xs ++ [x]) := by
  rw [putK_new (.bl true) (seen_none h)]
  simp [seenD]
/-- what the for loop asks of its turns -/
def ForW (J : It) (g : TG) (tb : TS) (D : Ends) (σ : St) (H : Hp) : Prop := ∃ W : Nat → Nat → St → Hp → Prop, (∃ m, W 0 m σ H) ∧ ∀ i m σ H, W i m σ H →
  (J.stop i H ∧ D.nx σ H) ∨ (J.go i H ∧ ∃ N : St → Hp → Prop, (∀ σ' H', N σ' H' → ∃ m', m' < m ∧ W (i + 1) m' σ' H') ∧ ∀ x H', J.yld i H x H' → g x σ H' fun σ2 H2 => tb { D with nx := N, ct := N, bk := D.nx } σ2 H2)
theorem enum_seq {K : PySem.W.Frag} {a : Addr} {xs : List V} {o : HO} {g : TG} {tb : TS} {D : Ends} {σ : St} {H : Hp} (ko : o = .lst xs ∨ o = .tup xs) (Pv : Nat → St → Hp → Prop) (h0 : Pv 0 σ H) (hl : ∀ i σ H, i ≤ xs.length → Pv i σ H → H a = some o)
    (hs : ∀ i x σ H T, xs[i]? = some x → Pv i σ H → H T = none → g (.ref T) σ (upd H T (.tup [.int (i : Nat), x])) fun σ2 H2 => tb { D with nx := Pv (i + 1), ct := Pv (i + 1), bk := D.nx } σ2 H2) (hd : ∀ σ H, Pv xs.length σ H → D.nx σ H) :
    ∃ b ys, [V.ref a] = [V.ref b] ∧ ((SqL K H b ys ∧ ForW (Ite K b) g tb D σ H) ∨ (SqT K H b ys ∧ ForW (IteT K b) g tb D σ H)) := by
  have fin : ∀ J : It, (∀ i H, i < xs.length → H a = some o → J.go i H) → (∀ i H, i = xs.length → H a = some o → J.stop i H) → (∀ i H v H', i < xs.length → H a = some o → J.yld i H v H' → ∃ T x, v = .ref T ∧ H T = none ∧ H' = upd H T (.tup [.int (i : Nat), x]) ∧ xs[i]? = some x) → ForW J g tb D σ H := by
    intro J go stop yld
    refine ⟨fun i m σ H => m = xs.length - i ∧ i ≤ xs.length ∧ Pv i σ H, ⟨_, rfl, Nat.zero_le _, h0⟩, ?_⟩
    rintro i m σ H ⟨rfl, le, p⟩
    have q := hl i σ H le p
    by_cases lt : i < xs.length
    · refine .inr ⟨go i H lt q, Pv (i + 1), fun σ' H' p' => ⟨xs.length - (i + 1), by omega, rfl, lt, p'⟩, fun v H' y => ?_⟩
      obtain ⟨T, x, rfl, nT, rfl, ex⟩ := yld i H v H' lt q y
      exact hs i x σ H T ex p nT
    · obtain rfl : i = xs.length := by omega
      exact .inl ⟨stop _ H rfl q, hd σ H p⟩
  have q0 := hl 0 σ H (Nat.zero_le _) h0
  rcases ko with rfl | rfl
  · exact ⟨a, xs, rfl, .inl ⟨SqL.of q0, fin _ (fun i H lt q => ⟨xs, xs[i], SqL.of q, by simp [lt]⟩) (fun i H e' q => ⟨xs, SqL.of q, by omega⟩)
      (fun i H v H' lt q ⟨T, x, e1, e2, e3, e4⟩ => ⟨T, x, e1, e2, e3, e4 xs (SqL.of q)⟩)⟩⟩
  · exact ⟨a, xs, rfl, .inr ⟨SqT.of q0, fin _ (fun i H lt q => ⟨xs, xs[i], SqT.of q, by simp [lt]⟩) (fun i H e' q => ⟨xs, SqT.of q, by omega⟩)
      (fun i H v H' lt q ⟨T, x, e1, e2, e3, e4⟩ => ⟨T, x, e1, e2, e3, e4 xs (SqT.of q)⟩)⟩⟩
theorem ok_first (F : Fun K "first_bad" "first_bad" sFirst f fd) (FL : Fun K "is_list" "is_list" sIsList fL fdL) (gIL : mg "is_list" = some (.ref fL)) (FO : Fun K "is_one_of" "is_one_of" sIsOne fO fdO) (gIO : mg "is_one_of" = some (.ref fO))
    (gI : mg "isinstance" = none) (gL : mg "list" = none) (gT : mg "tuple" = none) (gS : mg "str" = none) (gE : mg "enumerate" = none) : FnOk P w K mg base CX0 2 f fd ["names", "things"] (spFirst K) := by
  have GL : FnOk P w K mg base CX0 1 fL fdL ["thing"] (spIsList K) := ok_isList FL gI gL gT
  have bL := FL.binds (ps := ["thing"]) fun _ _ _ _ _ _ us hl => match us, hl with | [_], _ => rfl
  have GO : FnOk P w K mg base CX0 1 fO fdO ["names", "thing"] (spIsOne K) := ok_isOne FO gI gS
  have bO := FO.binds (ps := ["names", "thing"]) fun _ _ _ _ _ _ us hl => match us, hl with | [_, _], _ => rfl
  refine F.ok scFirst (fun vs H Q E h => by obtain ⟨c, a, ns, known, e, _⟩ := h; rw [e]; rfl) fun cdv A outer s H vs Q E hr hsp => ?_
  obtain ⟨c, a, ns, known, rfl, hc, hS, nd1, sub, short, hq⟩ := hsp
  have nd := scFirst.nd
  have hu := hu_of hr
  refine ⟨_, pss_cons (ps_if (pt_not (pt_val (pe_call GL hr rfl gIL FL.kp bL .nil pass0 (pa_cons (pv 1) pa_nil)))) (pss_one ps_never) pss_nil)
    (pss_cons (ps_set (i := 2) nd rfl (Or.inl rfl) pe_dnewK)
    (pss_cons (ps_for PassesOwn.never rfl (pi_enumS rfl gE (pa_cons (pv 1) pa_nil)) (pg_tup rfl (pgs_cons (pg_name (i := 3) nd rfl (Or.inl rfl)) (pgs_cons (pg_name (i := 4) nd rfl (Or.inl rfl)) pgs_nil)))
      (pss_cons (ps_if (PW.pt (pw_or (pt_not (pt_val (pe_call GO hr rfl gIO FO.kp bO .nil pass0 (pa_cons (pv 0) (pa_cons (pv 4) pa_nil))))) (pw_or1 (pt_cmp (pc_din hu (pv 4) (pv 2)))))) (pss_one ps_never) pss_nil)
      (pss_one (ps_dput hu (pv 2) (pv 4) pe_bl rfl))))
    (pss_one (ps_ret pe_non)))), ?_⟩
  refine ⟨_, rfl, a, _, rfl, hS, fun H1 k1 => ⟨_, rfl, iteF fun d nd2 => ?_⟩⟩
  have kd := same_new (o := .dK []) nd2
  obtain ⟨o, ho, ko⟩ : ∃ o, H1 a = some o ∧ (o = .lst (known.map V.str) ∨ o = .tup (known.map V.str)) := by
    rcases hS.same k1 with e | e
    · exact ⟨_, e, .inl rfl⟩
    · exact ⟨_, e, .inr rfl⟩
  refine ⟨_, rfl, enum_seq ko (fun i σ H' => H' d = some (.dK (seenD (known.take i))) ∧ Same H1 H' ∧ ∃ s3 s4, σ = [some (.ref c), some (.ref a), some (.ref d), s3, s4])
    ⟨upd_same, kd, _, _, rfl⟩ (fun i σ H' _ h => h.2.1 _ _ ho) ?_ ?_⟩
  · rintro i v σ H2 T ev ⟨od, s2, s3, s4, rfl⟩ nT
    rw [List.getElem?_map] at ev
    obtain ⟨x, ex, rfl⟩ := Option.map_eq_some_iff.mp ev
    have hi : i < known.length := (List.getElem?_eq_some_iff.mp ex).1
    have kT := same_new (o := .tup [.int (i : Nat), .str x]) nT
    refine ⟨T, _, rfl, SqT.of upd_same, rfl, ?_⟩
    have e1 : known.take (i + 1) = known.take i ++ [x] := by rw [List.take_succ, ex]; rfl
    have notin : x ∉ known.take i := fun m => by
      have z := nd1
      rw [← List.take_append_drop (i + 1) known, e1, List.append_assoc, List.nodup_append] at z
      exact z.2.2 x m x (by simp) rfl
    have xin : x ∈ ns := sub x (List.mem_of_getElem? ex)
    refine ⟨_, _, rfl, _, _, rfl, rfl, ?_⟩
    refine ⟨_, rfl, _, rfl, c, ns, x, rfl, SqL.of (kT _ _ (s2 _ _ (k1 _ _ hc))), _, rfl, ?_⟩
    rw [decide_eq_true xin]
    refine iteF ⟨_, rfl, _, rfl, d, _, rfl, DGet.k (k := Sum.inr x) (kT _ _ od), ?_⟩
    rw [seen_none notin]
    refine ⟨_, rfl, iteF ?_⟩
    have small : (seenD (known.take i)).length < sizeLine := by
      rw [sizeLine_eq]
      unfold seenD
      rw [List.length_map, List.length_take]; omega
    refine ⟨_, rfl, _, rfl, d, _, rfl, DPut.k (k := Sum.inr x) (kT _ _ od) small, ?_, ?_, _, _, rfl⟩
    · rw [upd_same, seen_put notin, ← e1]
    · intro b u e
      have nb : b ≠ d := ne_of_none e nd2
      rw [upd_ne nb]
      exact kT _ _ (s2 _ _ e)
  · rintro σ H2 ⟨od, s2, s3, s4, rfl⟩
    exact hq _ (k1.trans s2)
end
end L2.TB
namespace L2.TB
open PySem PySem.Spec PyProof.Rows
/-! the checks, where nothing is wrong -/
def spCkA (K : PySem.W.Frag) : Sp := fun vs H Q _ => ∃ (c : Addr) (ns : List Str) (x : Str), vs = [.ref c, .str x] ∧ SqL K H c (ns.map V.str) ∧ x ∈ ns ∧ Q .non H
def spCkB (K : PySem.W.Frag) : Sp := fun vs H Q _ => ∃ (c a : Addr) (ns known : List Str) (x : Str), vs = [.ref c, .ref a, .str x] ∧ H c = some (.lst (ns.map V.str)) ∧ SqA K H a (known.map V.str) ∧ known.Nodup ∧ (∀ x ∈ known, x ∈ ns) ∧ known.length < 1000 ∧ x ∈ ns ∧ ∀ H', Same H H' → Q .non H'
theorem scCkK : FnScope ["names", "known", "index"] ["names", "known"] (defScope sCkK) := ⟨rfl, rfl, rfl, by decide +kernel, rfl, by decide +kernel, by decide +kernel⟩
theorem scCkA : FnScope ["names", "asked"] ["names", "asked"] (defScope sCkA) := ⟨rfl, rfl, rfl, by decide +kernel, rfl, by decide +kernel, by decide +kernel⟩
theorem scCkB : FnScope ["names", "known", "asked"] ["names", "known", "asked"] (defScope sCkB) := ⟨rfl, rfl, rfl, by decide +kernel, rfl, by decide +kernel, by decide +kernel⟩
/-- what the checks need of the module -/
structure Chk (K : PySem.W.Frag) (mg : Str → Option Value) (aF aL aO aK aA aB : Addr) : Prop where
  F : ∃ fd, Fun K "first_bad" "first_bad" sFirst aF fd
  L : ∃ fd, Fun K "is_list" "is_list" sIsList aL fd
  O : ∃ fd, Fun K "is_one_of" "is_one_of" sIsOne aO fd
  CK : ∃ fd, Fun K "check_known" "check_known" sCkK aK fd
  CA : ∃ fd, Fun K "check_asked" "check_asked" sCkA aA fd
  CB : ∃ fd, Fun K "check_both" "check_both" sCkB aB fd
  gF : mg "first_bad" = some (.ref aF)
  gL : mg "is_list" = some (.ref aL)
  gO : mg "is_one_of" = some (.ref aO)
  gCK : mg "check_known" = some (.ref aK)
  gCA : mg "check_asked" = some (.ref aA)
  gCB : mg "check_both" = some (.ref aB)
  nI : mg "isinstance" = none
  nL : mg "list" = none
  nT : mg "tuple" = none
  nS : mg "str" = none
  nE : mg "enumerate" = none
section
variable {P : Program} {w : World} {K : PySem.W.Frag} {mg : Str → Option Value} {base : Heap} {aF aL aO aK aA aB : Addr} {fd : FuncData}
theorem ok_ckK (C : Chk K mg aF aL aO aK aA aB) (F : Fun K "check_known" "check_known" sCkK aK fd) : FnOk P w K mg base CX0 3 aK fd ["names", "known"] (spFirst K) := by
  obtain ⟨fdF, FF⟩ := C.F
  obtain ⟨fdL, FL⟩ := C.L
  obtain ⟨fdO, FO⟩ := C.O
  have G : FnOk P w K mg base CX0 2 aF fdF ["names", "things"] (spFirst K) := ok_first FF FL C.gL FO C.gO C.nI C.nL C.nT C.nS C.nE
  have b := FF.binds (ps := ["names", "things"]) fun _ _ _ _ _ _ us hl => match us, hl with | [_, _], _ => rfl
  refine F.ok scCkK (fun vs H Q E h => by obtain ⟨c, a, ns, known, e, _⟩ := h; rw [e]; rfl) fun cdv A outer s H vs Q E hr hsp => ?_
  obtain ⟨c, a, ns, known, rfl, hc, hS, nd1, sub, short, hq⟩ := hsp
  have nd := scCkK.nd
  refine ⟨_, pss_cons (ps_set (i := 2) nd rfl (Or.inl rfl) (pe_call G hr rfl C.gF FF.kp b .nil pass0 (pa_cons (pv 0) (pa_cons (pv 1) pa_nil))))
    (pss_one (ps_if (pt_cmp (pc_notN (pv 2))) (pss_one ps_never) pss_nil)), ?_⟩
  refine ⟨_, rfl, _, rfl, c, a, ns, known, rfl, hc, hS, nd1, sub, short, fun H1 k1 => ?_⟩
  exact ⟨_, rfl, _, rfl, iteF (hq H1 k1)⟩
theorem ok_ckA (C : Chk K mg aF aL aO aK aA aB) (F : Fun K "check_asked" "check_asked" sCkA aA fd) : FnOk P w K mg base CX0 2 aA fd ["names", "asked"] (spCkA K) := by
  obtain ⟨fdO, FO⟩ := C.O
  have G : FnOk P w K mg base CX0 1 aO fdO ["names", "thing"] (spIsOne K) := ok_isOne FO C.nI C.nS
  have b := FO.binds (ps := ["names", "thing"]) fun _ _ _ _ _ _ us hl => match us, hl with | [_, _], _ => rfl
  refine F.ok scCkA (fun vs H Q E h => by obtain ⟨c, ns, x, e, _⟩ := h; rw [e]; rfl) fun cdv A outer s H vs Q E hr hsp => ?_
  obtain ⟨c, ns, x, rfl, hc, xin, hq⟩ := hsp
  refine ⟨_, pss_one (ps_if (pt_not (pt_val (pe_call G hr rfl C.gO FO.kp b .nil pass0 (pa_cons (pv 0) (pa_cons (pv 1) pa_nil))))) (pss_one ps_never) pss_nil), ?_⟩
  refine ⟨_, rfl, _, rfl, c, ns, x, rfl, hc, _, rfl, ?_⟩
  rw [decide_eq_true xin]
  exact iteF hq
theorem ok_ckB (C : Chk K mg aF aL aO aK aA aB) (F : Fun K "check_both" "check_both" sCkB aB fd) : FnOk P w K mg base CX0 4 aB fd ["names", "known", "asked"] (spCkB K) := by
  obtain ⟨fdK, FK⟩ := C.CK
  obtain ⟨fdA, FA⟩ := C.CA
  have GK := ok_ckK (P := P) (w := w) (base := base) C FK
  have bK := FK.binds (ps := ["names", "known"]) fun _ _ _ _ _ _ us hl => match us, hl with | [_, _], _ => rfl
  have GA := ok_ckA (P := P) (w := w) (base := base) C FA
  have bA := FA.binds (ps := ["names", "asked"]) fun _ _ _ _ _ _ us hl => match us, hl with | [_, _], _ => rfl
  refine F.ok scCkB (fun vs H Q E h => by obtain ⟨c, a, ns, known, x, e, _⟩ := h; rw [e]; rfl) fun cdv A outer s H vs Q E hr hsp => ?_
  obtain ⟨c, a, ns, known, x, rfl, hc, hS, nd1, sub, short, xin, hq⟩ := hsp
  refine ⟨_, pss_cons (ps_expr (pe_call GK hr rfl C.gCK FK.kp bK .nil pass0 (pa_cons (pv 0) (pa_cons (pv 1) pa_nil))))
    (pss_one (ps_expr (pe_call GA (hr.mono (by decide)) rfl C.gCA FA.kp bA .nil pass0 (pa_cons (pv 0) (pa_cons (pv 2) pa_nil))))), ?_⟩
  refine ⟨_, rfl, _, rfl, c, a, ns, known, rfl, hc, hS, nd1, sub, short, fun H1 k1 => ?_⟩
  exact ⟨_, rfl, _, rfl, c, ns, x, rfl, SqL.of (k1 _ _ hc), xin, hq H1 k1⟩
end
end L2.TB
namespace L2.TB
open PySem PySem.Spec PyProof.Rows
/-! what is walked is a list or a tuple -/
def iSeq (K : PySem.W.Frag) (tl : TE) : TI := fun σ H R => tl σ H fun x H1 => ∃ a xs, x = .ref a ∧ ((SqL K H1 a xs ∧ R (Itl K a) H1) ∨ (SqT K H1 a xs ∧ R (Itt K a) H1))
theorem pi_seq {X : Cx} {tg l : Expr} {tl : TE} (hl : PE X l tl) : PI X tg l (iSeq X.K tl) := by
  refine PI.mk fun pins z σ H R I reading => thn (hl.run pins z σ H _ I reading) fun v z1 ⟨x, H1, I1, rel, a, xs, ex, both⟩ => ?_
  subst ex
  obtain rfl : v = Value.ref a := rel
  have one : ∀ (o : Obj), FpOk X pins H1 z1.heap.objs.size := fun _ => I1.fpOk (Nat.le_refl _) (I1.hok.fresh (Nat.le_refl _))
  have fresh : ∀ b ∈ [z1.heap.objs.size], FpOk X pins H1 b := fun b hb => by
    obtain rfl := List.mem_singleton.mp hb
    exact I1.fpOk (Nat.le_refl _) (I1.hok.fresh (Nat.le_refl _))
  rcases both with ⟨sq, q⟩ | ⟨sq, q⟩
  · obtain ⟨its, rv, isL, _⟩ := I1.list sq
    exact wpAny_pyIter_list isL.isList ⟨_, _, _, _, H1, rfl, I1.kept (t' := z1.toks) (fun b o e => Heap.get?_push_of_some _ e), turn_list a _, ⟨_, Heap.get?_push_size _ rfl, rfl, rfl⟩, fresh, q⟩
  · obtain ⟨its, rv, isT, _⟩ := I1.tuple sq
    exact wpAny_pyIter_tuple (show z1.heap.IsTuple a its.toArray from isT) ⟨_, _, _, _, H1, rfl, I1.kept (t' := z1.toks) (fun b o e => Heap.get?_push_of_some _ e), turn_tuple a _, ⟨_, Heap.get?_push_size _ rfl, rfl, rfl⟩, fresh, q⟩
/-- a for loop over it -/
theorem for_seq {K : PySem.W.Frag} {a : Addr} {xs : List V} {o : HO} {g : TG} {tb : TS} {D : Ends} {σ : St} {H : Hp} (ko : o = .lst xs ∨ o = .tup xs) (Pv : Nat → St → Hp → Prop) (h0 : Pv 0 σ H) (hl : ∀ i σ H, i ≤ xs.length → Pv i σ H → H a = some o)
    (hs : ∀ i x σ H, xs[i]? = some x → Pv i σ H → g x σ H fun σ2 H2 => tb { D with nx := Pv (i + 1), ct := Pv (i + 1), bk := D.nx } σ2 H2) (hd : ∀ σ H, Pv xs.length σ H → D.nx σ H) :
    ∃ b ys, V.ref a = V.ref b ∧ ((SqL K H b ys ∧ ForW (Itl K b) g tb D σ H) ∨ (SqT K H b ys ∧ ForW (Itt K b) g tb D σ H)) := by
  have q0 := hl 0 σ H (Nat.zero_le _) h0
  rcases ko with rfl | rfl
  · exact ⟨a, xs, rfl, .inl ⟨SqL.of q0, for_list Pv h0 (fun i σ H le p => SqL.of (hl i σ H le p)) hs hd⟩⟩
  · exact ⟨a, xs, rfl, .inr ⟨SqT.of q0, for_tup Pv h0 (fun i σ H le p => SqT.of (hl i σ H le p)) hs hd⟩⟩
/-- what a list comprehension asks of its turns -/
def LcW (J : It) (g : TG) (tt : TT) (te : TE) (vs : List Nat) (σ : St) (H1 : Hp) (Q : Addr → Hp → Prop) : Prop := ∀ D, H1 D = none → ∃ W : Nat → Nat → Hp → Prop, (∃ m, W 0 m (upd H1 D (.lst []))) ∧ ∀ i m H, W i m H →
  (J.stop i H ∧ Q D H) ∨ (J.go i H ∧ ∃ Nx : Hp → Prop, (∀ H', Nx H' → ∃ m', m' < m ∧ W (i + 1) m' H') ∧ ∀ x H', J.yld i H x H' → g x (wipe σ vs) H' fun σ2 H2 => wipe σ2 vs = wipe σ vs ∧ tt σ2 H2 fun b H3 =>
    if b = true then te σ2 H3 fun y H4 => ∃ acc, H4 D = some (.lst acc) ∧ acc.length < sizeLine ∧ Nx (upd H4 D (.lst (acc ++ [y]))) else Nx H3)
/-- a turn of a comprehension: keep tells whether x is kept, fv x is what is made of it; nothing that was there is changed -/
def LcTurn (g : TG) (tt : TT) (te : TE) (vs : List Nat) (σ : St) (xs : List V) (keep : V → Bool) (fv : V → V) (H1 : Hp) : Prop :=
  ∀ (i : Nat) (x : V) (H : Hp) (C : V → Hp → Prop) (N : Hp → Prop), xs[i]? = some x → Same H1 H → (keep x = true → ∀ H4, Same H H4 → C (fv x) H4) → (keep x = false → ∀ H4, Same H H4 → N H4) →
    g x (wipe σ vs) H fun σ2 H2 => wipe σ2 vs = wipe σ vs ∧ tt σ2 H2 fun b H3 => if b = true then te σ2 H3 C else N H3
theorem filter_snoc (keep : V → Bool) (fv : V → V) {xs : List V} {i : Nat} {x : V} (ex : xs[i]? = some x) :
    ((xs.take (i + 1)).filter keep).map fv = ((xs.take i).filter keep).map fv ++ (if keep x = true then [fv x] else []) := by
  have e1 : xs.take (i + 1) = xs.take i ++ [x] := by rw [List.take_succ, ex]; rfl
  rw [e1, List.filter_append, List.map_append]
  congr 1
  cases h : keep x <;> simp [h]
theorem lc_seq {K : PySem.W.Frag} {a : Addr} {xs : List V} {o : HO} {g : TG} {tt : TT} {te : TE} {vs : List Nat} {σ : St} {H1 : Hp} {Q : Addr → Hp → Prop} (ko : o = .lst xs ∨ o = .tup xs) (ho : H1 a = some o) (short : xs.length < 1000000) (keep : V → Bool) (fv : V → V)
    (turn : LcTurn g tt te vs σ xs keep fv H1) (fin : ∀ H D, H1 D = none → H D = some (.lst ((xs.filter keep).map fv)) → Same H1 H → Q D H) :
    ∃ b ys, V.ref a = V.ref b ∧ ((SqL K H1 b ys ∧ LcW (Itl K b) g tt te vs σ H1 Q) ∨ (SqT K H1 b ys ∧ LcW (Itt K b) g tt te vs σ H1 Q)) := by
  have go : ∀ D, H1 D = none → ∀ (i : Nat) (x : V) (H : Hp), xs[i]? = some x → (H D = some (.lst (((xs.take i).filter keep).map fv)) ∧ Same H1 H) → g x (wipe σ vs) H fun σ2 H2 => wipe σ2 vs = wipe σ vs ∧ tt σ2 H2 fun b H3 =>
      if b = true then te σ2 H3 fun y H4 => ∃ acc, H4 D = some (.lst acc) ∧ acc.length < sizeLine ∧ ((upd H4 D (.lst (acc ++ [y]))) D = some (.lst (((xs.take (i + 1)).filter keep).map fv)) ∧ Same H1 (upd H4 D (.lst (acc ++ [y])))) else (H3 D = some (.lst (((xs.take (i + 1)).filter keep).map fv)) ∧ Same H1 H3) := by
    rintro D nD i x H ex ⟨oD, s1⟩
    refine turn i x H _ _ ex s1 (fun k H4 s4 => ⟨_, s4 _ _ oD, ?_, ?_, ?_⟩) (fun k H4 s4 => ⟨?_, s1.trans s4⟩)
    · rw [sizeLine_eq, List.length_map]
      have := List.length_filter_le keep (xs.take i)
      rw [List.length_take] at this
      omega
    · rw [upd_same, filter_snoc keep fv ex, if_pos k]
    · intro b u e
      have nb : b ≠ D := ne_of_none e nD
      rw [upd_ne nb]
      exact s4 _ _ (s1 _ _ e)
    · rw [filter_snoc keep fv ex, k]
      simpa using s4 _ _ oD
  have all : xs.take xs.length = xs := List.take_length
  rcases ko with rfl | rfl
  · exact ⟨a, xs, rfl, .inl ⟨SqL.of ho, fun D nD => lc_list (xs := xs) (fun i H => H D = some (.lst (((xs.take i).filter keep).map fv)) ∧ Same H1 H) ⟨upd_same, same_new nD⟩ (fun i H _ p => SqL.of (p.2 _ _ ho)) (fun i x H ex p => go D nD i x H ex p)
      (fun H p => fin H D nD (by rw [all] at p; exact p.1) p.2)⟩⟩
  · exact ⟨a, xs, rfl, .inr ⟨SqT.of ho, fun D nD => lc_tup (xs := xs) (fun i H => H D = some (.lst (((xs.take i).filter keep).map fv)) ∧ Same H1 H) ⟨upd_same, same_new nD⟩ (fun i H _ p => SqT.of (p.2 _ _ ho)) (fun i x H ex p => go D nD i x H ex p)
      (fun H p => fin H D nD (by rw [all] at p; exact p.1) p.2)⟩⟩
end L2.TB
namespace L2.TB
open PySem PySem.Spec PyProof.Rows
theorem boot_all' : bootBuiltins "all" = some (.builtin "all") := by decide +kernel
/-- a comprehension without a test over anything: ys is what it makes -/
theorem lc_gen {J : It} {g : TG} {tt : TT} {te : TE} {vs : List Nat} {σ : St} {H1 : Hp} {Q : Addr → Hp → Prop} (ys : List V) (short : ys.length < 1000000) (go : ∀ i H, Same H1 H → i < ys.length → J.go i H) (stop : ∀ H, Same H1 H → J.stop ys.length H)
    (turn : ∀ (i : Nat) (x y : V) (H H' : Hp) (C : V → Hp → Prop) (N : Hp → Prop), ys[i]? = some y → Same H1 H → J.yld i H x H' → (∀ H4, Same H H4 → C y H4) → g x (wipe σ vs) H' fun σ2 H2 => wipe σ2 vs = wipe σ vs ∧ tt σ2 H2 fun b H3 => if b = true then te σ2 H3 C else N H3)
    (fin : ∀ H D, H1 D = none → H D = some (.lst ys) → Same H1 H → Q D H) : LcW J g tt te vs σ H1 Q := by
  intro D nD
  refine ⟨fun i m H => m = ys.length - i ∧ i ≤ ys.length ∧ H D = some (.lst (ys.take i)) ∧ Same H1 H, ⟨_, rfl, Nat.zero_le _, upd_same, same_new nD⟩, ?_⟩
  rintro i m H ⟨rfl, le, oD, s1⟩
  by_cases lt : i < ys.length
  · refine .inr ⟨go i H s1 lt, fun H' => H' D = some (.lst (ys.take (i + 1))) ∧ Same H1 H', fun H' h => ⟨ys.length - (i + 1), by omega, rfl, lt, h⟩, fun x H' yl => ?_⟩
    have ey : ys[i]? = some ys[i] := List.getElem?_eq_getElem lt
    refine turn i x ys[i] H H' _ _ ey s1 yl fun H4 s4 => ⟨_, s4 _ _ oD, ?_, ?_, ?_⟩
    · rw [sizeLine_eq, List.length_take]; omega
    · rw [upd_same, List.take_succ, ey]; rfl
    · intro b u e
      rw [upd_ne (ne_of_none e nD)]
      exact s4 _ _ (s1 _ _ e)
  · obtain rfl : i = ys.length := by omega
    rw [List.take_length] at oD
    exact .inl ⟨stop H s1, fin H D nD oD s1⟩
def bools (n : Nat) : List V := List.replicate n (V.bl true)
theorem bools_map (n : Nat) : bools n = (List.replicate n true).map V.bl := by unfold bools; rw [List.map_replicate]
theorem bools_at {n i : Nat} {y : V} (h : (bools n)[i]? = some y) : y = .bl true ∧ i < n := by
  unfold bools at h
  rw [List.getElem?_replicate] at h
  split at h
  · exact ⟨(Option.some.inj h).symm, by assumption⟩
  · cases h
theorem bools_len (n : Nat) : (bools n).length = n := List.length_replicate
theorem all_true (n : Nat) : (List.replicate n true).all id = true := by simp
def spIsName : Sp := fun vs H Q _ => ∃ x : Str, vs = [.str x] ∧ NmOk x ∧ ∀ H', Same H H' → Q (.bl true) H'
abbrev NIn : List Str := ["thing", "sign"]
theorem scIsName : FnScope NIn ["thing"] (defScope sIsName) := ⟨rfl, rfl, rfl, by decide +kernel, rfl, by decide +kernel, by decide +kernel⟩
/-- a dict has just these names, all true -/
def spHasJust : Sp := fun vs H Q _ => ∃ (d c : Addr) (kvs : List (Key × V)) (ns : List Str), vs = [.ref d, .ref c] ∧ H d = some (.dK kvs) ∧ H c = some (.lst (ns.map V.str)) ∧ kvs.map (·.1) = ns.map Sum.inr ∧ ns.length < 1000 ∧ ∀ H', Same H H' → Q (.bl true) H'
abbrev NHj : List Str := ["thing", "names", "name"]
theorem scHasJust : FnScope NHj ["thing", "names"] (defScope sHasJust) := ⟨rfl, rfl, rfl, by decide +kernel, rfl, by decide +kernel, by decide +kernel⟩
section
variable {P : Program} {w : World} {K : PySem.W.Frag} {mg : Str → Option Value} {base : Heap} {f : Addr} {fd : FuncData}
theorem ok_isName (F : Fun K "is_name" "is_name" sIsName f fd) (gI : mg "isinstance" = none) (gS : mg "str" = none) (gN : mg "len" = none) (gA : mg "all" = none) (gL : ∃ t, mg "LONGEST" = some (.int 40 t)) (gSg : ∃ t, mg "SIGNS" = some (.str (Str.ofString "abcdefghijklmnopqrstuvwxyz0123456789.") t)) :
    FnOk P w K mg base CX0 1 f fd ["thing"] spIsName := by
  obtain ⟨tL, gL⟩ := gL
  obtain ⟨tS, gSg⟩ := gSg
  refine F.ok scIsName (fun vs H Q E h => by obtain ⟨x, e, _⟩ := h; rw [e]; rfl) fun cdv A outer s H vs Q E hr hsp => ?_
  obtain ⟨x, rfl, ok, hq⟩ := hsp
  obtain ⟨l1, l2, chars⟩ := ok
  have nd := scIsName.nd
  refine ⟨_, pss_cons (ps_if (PW.pt (pw_or (pt_not (pt_val (pe_callB (r := rIsi K) call_isi rfl gI boot_isi (pa_cons (pv 0) (pa_cons (pe_bltn (v := .ty "str") rfl gS boot_str' rfl) pa_nil)))))
      (pw_or1 (pt_not (pt_chain op_le op_le pe_int (pe_callB call_len_str rfl gN boot_len (pa_cons (pv 0) pa_nil)) (pe_glob (v := .int 40) rfl gL ⟨_, rfl⟩)))))) (pss_one ps_never) pss_nil)
    (pss_one (ps_ret (pe_callB (cr_all rfl) rfl gA boot_all' (pa_cons (pe_lc (own := [("sign", 1)]) (tt := tYes) rfl nd (pi_str (pv 0)) (blkOk_by (N := NIn) (sc := defScope sIsName) (by decide +kernel)) (fun _ _ _ _ _ => pg_name (i := 1) nd rfl (Or.inl rfl)) (fun _ _ _ _ _ => pts_nil)
      (fun _ _ _ _ _ => pe_cmpR op_in_sign (pv 1) (pe_glob (v := .str (Str.ofString "abcdefghijklmnopqrstuvwxyz0123456789.")) rfl gSg ⟨_, rfl⟩) rfl)) pa_nil)))), ?_⟩
  have lz : x.length = x.cps.toList.length := (Array.length_toList (xs := x.cps)).symm
  refine ⟨_, rfl, _, _, _, _, true, rfl, .ty _, .base (.str x), kit_ty (by decide +kernel), _, rfl, iteF ?_⟩
  refine ⟨_, rfl, x, rfl, (by rw [sizeLine_eq]; omega), _, _, rfl, rfl, _, rfl, ?_⟩
  rw [decide_eq_true (by omega : (1 : Int) ≤ (x.length : Nat))]
  refine iteT ⟨_, _, rfl, rfl, _, rfl, ?_⟩
  rw [decide_eq_true (by omega : ((x.length : Nat) : Int) ≤ 40)]
  refine iteF ?_
  refine ⟨_, rfl, x, rfl, lc_gen (bools x.cps.toList.length) (by rw [bools_len]; omega) (fun i H' _ lt => ?_) (fun H' _ => ?_) ?_ ?_⟩
  · rw [bools_len, Array.length_toList] at lt; exact lt
  · rw [bools_len, Array.length_toList]; exact Nat.le_refl _
  · rintro i v y H2 H3 Cn Nn ey s2 ⟨rfl, c, ec, rfl⟩ yes
    obtain ⟨rfl, lt⟩ := bools_at ey
    have cin : c ∈ signsL := chars c (List.mem_of_getElem? (by rw [Array.getElem?_toList]; exact ec))
    refine ⟨rfl, ?_⟩
    refine ⟨_, rfl, c, _, rfl, rfl, ?_⟩
    have z := yes H3 (Same.refl _)
    have e : decide (c ∈ (Str.ofString "abcdefghijklmnopqrstuvwxyz0123456789.").cps.toList) = true := decide_eq_true cin
    rw [e]
    exact z
  · intro H2 D nD oD s2
    rw [bools_map] at oD
    refine ⟨D, _, rfl, SqL.of oD, ?_⟩
    rw [all_true]
    exact hq H2 s2
end
end L2.TB
/-! _law_spare -/
namespace L2.TB
open PySem PySem.Spec PyProof.Rows
def zL : List Nat := (Str.ofString "zyxwvutsrqponmlkjihg").cps.toList
def spareZ (c : Nat) : Str := Str.ofString "z" ++ (⟨#[c]⟩ : Str)
theorem spareZ_ok : ∀ c ∈ zL, NmS (spareZ c) := by
  unfold NmS NmOk
  decide +kernel
theorem spareZ_nd : (zL.map spareZ).Nodup := by decide +kernel
theorem spareZ_left (found : List Str) (h : found.length < 20) : ((zL.map spareZ).filter fun x => decide (x ∉ found)) ≠ [] := by
  intro e
  have sub : ∀ x ∈ zL.map spareZ, x ∈ found := fun x hx => by
    by_cases h2 : x ∈ found
    · exact h2
    · have z : x ∈ (zL.map spareZ).filter fun x => decide (x ∉ found) := List.mem_filter.mpr ⟨hx, by simp [h2]⟩
      rw [e] at z; cases z
  have le := List.Nodup.length_le_of_subset spareZ_nd (fun x hx => sub x hx)
  have e20 : (zL.map spareZ).length = 20 := by decide +kernel
  omega
def spSpare : Sp := fun vs H Q _ => ∃ (a : Addr) (ns : List Str), vs = [.ref a] ∧ H a = some (.lst (ns.map V.str)) ∧ ns.length < 20 ∧ ∀ H' x, Same H H' → x ∉ ns → NmS x → Q (.str x) H'
abbrev NSp : List Str := ["names", "x", "sign"]
theorem scSpare : FnScope NSp ["names"] (defScope sSpare) := ⟨rfl, rfl, rfl, by decide +kernel, rfl, by decide +kernel, by decide +kernel⟩
section
variable {P : Program} {w : World} {K : PySem.W.Frag} {mg : Str → Option Value} {base : Heap} {f : Addr} {fd : FuncData}
theorem ok_spare (F : Fun K "_law_spare" "_law_spare" sSpare f fd) : FnOk P w K mg base CX0 1 f fd ["names"] spSpare := by
  refine F.ok scSpare (fun vs H Q E h => by obtain ⟨a, ns, e, _⟩ := h; rw [e]; rfl) fun cdv A outer s H vs Q E hr hsp => ?_
  obtain ⟨a, ns, rfl, ha, sh, hq⟩ := hsp
  have nd := scSpare.nd
  refine ⟨_, pss_one (ps_ret (pe_ix ix_list (pe_lc (own := [("x", 1)]) (tt := tTest (tOp (rIn K true) (tVar 1) (tVar 0))) rfl nd (pi_list (pe_lc (own := [("sign", 2)]) (tt := tYes) rfl nd (pi_str pe_str) (blkOk_by (N := NSp) (sc := defScope sSpare) (by decide +kernel)) (fun _ _ _ _ _ => pg_name (i := 2) nd rfl (Or.inl rfl)) (fun _ _ _ _ _ => pts_nil) (fun _ _ _ _ _ => pe_op op_add_str pe_str (pv 2))))
      (blkOk_by (N := NSp) (sc := defScope sSpare) (by decide +kernel)) (fun _ _ _ _ _ => pg_name (i := 1) nd rfl (Or.inl rfl)) (fun _ _ _ _ _ => pts_one (pt_cmpR op_notIn_seq (pv 1) (pv 0) rfl)) (fun _ _ _ _ _ => pv 1)) pe_int (fun _ _ => rfl))), ?_⟩
  have e20 : (Str.ofString "zyxwvutsrqponmlkjihg").cps.size = 20 := by decide +kernel
  have l20 : zL.length = 20 := by decide +kernel
  refine ⟨_, rfl, fun D2 nD2 => ⟨fun j m H' => m = 20 - j ∧ j ≤ 20 ∧ H' D2 = some (.lst ((zL.take j).map fun c => V.str (spareZ c))) ∧ Same H H', ⟨20, rfl, by decide, upd_same, same_new nD2⟩, ?_⟩⟩
  rintro j m H4 ⟨rfl, hj, oD2, sm4⟩
  by_cases lt : j < 20
  · refine .inr ⟨(by show j < _; rw [e20]; exact lt), fun H' => H' D2 = some (.lst ((zL.take (j + 1)).map fun c => V.str (spareZ c))) ∧ Same H H', fun H' h => ⟨20 - (j + 1), by omega, rfl, lt, h⟩, ?_⟩
    rintro v H' ⟨rfl, c, hc, rfl⟩
    have hc2 : zL[j]? = some c := by
      unfold zL
      rw [Array.getElem?_toList]; exact hc
    refine ⟨rfl, ?_⟩
    refine ⟨_, rfl, _, _, rfl, rfl, (by rw [sizeLine_eq]; show 1 + 1 ≤ _; omega), _, oD2, (by rw [sizeLine_eq, List.length_map, List.length_take]; omega), ?_, fun b o e => by rw [upd_ne (ne_of_none e nD2)]; exact sm4 b o e⟩
    rw [upd_same, List.take_succ, hc2]
    simp [spareZ]
  · have j20 : j = 20 := by omega
    refine .inl ⟨(by show _ ≤ j; rw [e20]; omega), ?_⟩
    have et : zL.take j = zL := List.take_of_length_le (by omega)
    rw [et] at oD2
    have esp : zL.map (fun c => V.str (spareZ c)) = (zL.map spareZ).map V.str := by simp [List.map_map]
    rw [esp] at oD2
    have spl : (zL.map spareZ).length = 20 := by rw [List.length_map, l20]
    have spok : ∀ x ∈ zL.map spareZ, NmS x := fun x hx => by
      obtain ⟨c, hc, rfl⟩ := List.mem_map.mp hx
      exact spareZ_ok c hc
    have hne := spareZ_left ns (by omega)
    generalize zL.map spareZ = sp at spl spok hne oD2
    refine ⟨D2, rfl, ⟨_, SqL.of oD2⟩, fun D3 nD3 => ?_⟩
    refine lc_list (xs := sp.map V.str) (fun j H' => H' D3 = some (.lst (((sp.take j).filter fun x => decide (x ∉ ns)).map V.str)) ∧ Same H4 H')
      ⟨by rw [upd_same]; rfl, same_new nD3⟩ (fun j H' _ h => SqL.of (h.2 _ _ oD2)) ?_ ?_
    · rintro j v H6 ev ⟨oD3, sm6⟩
      rw [List.getElem?_map] at ev
      obtain ⟨x, ex, rfl⟩ := Option.map_eq_some_iff.mp ev
      have et2 : sp.take (j + 1) = sp.take j ++ [x] := by rw [List.take_succ, ex]; rfl
      refine ⟨rfl, ?_⟩
      refine ⟨_, rfl, _, rfl, a, ns.map V.str, rfl, .inl (SqL.of (sm6 _ _ (sm4 _ _ ha))), rfl, flat_strs ns, _, rfl, ?_⟩
      rw [inV_strs]
      by_cases hx : x ∈ ns
      · rw [decide_eq_true hx]
        refine iteF ?_
        refine ⟨?_, sm6⟩
        rw [et2, List.filter_append]
        simpa [hx] using oD3
      · rw [decide_eq_false hx]
        refine iteT ?_
        refine ⟨_, rfl, _, oD3, ?_, ?_, fun b o e => by rw [upd_ne (ne_of_none e nD3)]; exact sm6 b o e⟩
        · have z := List.length_filter_le (fun x => decide (x ∉ ns)) (sp.take j)
          rw [List.length_take] at z
          rw [sizeLine_eq, List.length_map]; omega
        · rw [upd_same, et2, List.filter_append]
          simp [hx]
    · rintro H6 ⟨oD3, sm6⟩
      have ef : sp.take (sp.map V.str).length = sp := List.take_of_length_le (by rw [List.length_map]; omega)
      rw [ef] at oD3
      cases efl : sp.filter fun x => decide (x ∉ ns) with
      | nil => exact absurd efl hne
      | cons y rest =>
        rw [efl] at oD3
        have hy : y ∈ sp.filter fun x => decide (x ∉ ns) := by rw [efl]; exact List.mem_cons_self
        obtain ⟨hy1, hy2⟩ := List.mem_filter.mp hy
        exact ⟨D3, _, 0, .str y, rfl, rfl, SqL.of oD3, atI_nat (j := 0) (by simp), hq H6 y (sm4.trans sm6) (by simpa using hy2) (spok y hy1)⟩
end
end L2.TB
/-! _law_s_number -/
namespace L2.TB
open PySem PySem.Spec PyProof.Rows
def NumOk (z : Int) : Prop := -200000000000000 ≤ z ∧ z ≤ 200000000000000
def spNumber : Sp := fun vs H Q _ => ∃ (l ls : Addr) (far N : Int) (b : Bool), vs = [.ref l, .int far, .bl b] ∧ Strm H l ls N ∧ N ≤ 990000 ∧ 0 ≤ far ∧ far ≤ 1000 ∧ ∀ H' z, NumOk z → Strm H' l ls (N + 3) → But l ls H H' → Q (.int z) H'
abbrev NNu : List Str := ["stream", "far", "is_wide"]
theorem scNumber : FnScope NNu ["stream", "far", "is_wide"] (defScope sNumber) := ⟨rfl, rfl, rfl, by decide +kernel, rfl, by decide +kernel, by decide +kernel⟩
section
variable {P : Program} {w : World} {K : PySem.W.Frag} {mg : Str → Option Value} {base : Heap} {f fD : Addr} {fd fdD : FuncData}
theorem ok_number (F : Fun K "_law_s_number" "_law_s_number" sNumber f fd) (FD : Fun K "_law_draw" "_law_draw" sDraw fD fdD) (gD : mg "_law_draw" = some (.ref fD)) (gI : mg "int" = none) : FnOk P w K mg base CX0 2 f fd ["stream", "far", "is_wide"] spNumber := by
  have G : FnOk P w K mg base CX0 1 fD fdD ["stream", "many"] spDraw := ok_draw FD gI
  have b := FD.binds (ps := ["stream", "many"]) fun _ _ _ _ _ _ us hl => match us, hl with | [_, _], _ => rfl
  refine F.ok scNumber (fun vs H Q E h => by obtain ⟨l, ls, far, N, b, e, _⟩ := h; rw [e]; rfl) fun cdv A outer s H vs Q E hr hsp => ?_
  obtain ⟨l, ls, far, N, wide, rfl, S, hN, f0, f1, hq⟩ := hsp
  have nd := scNumber.nd
  refine ⟨_, pss_cons (ps_if (PW.pt (pw_and (pt_val (pv 2)) (pw_and1 (pt_cmpR op_eq (pe_call G hr rfl gD FD.kp b .nil pass0 (pa_cons (pv 0) (pa_cons pe_int pa_nil))) pe_int (nomark _)))))
      (pss_one (ps_ret (pe_op op_add (pe_op op_sub (pe_op op_mul (pe_call G hr rfl gD FD.kp b .nil pass0 (pa_cons (pv 0) (pa_cons (pe_op op_add (pe_op op_mul pe_int (pe_op op_pow pe_int pe_int)) pe_int) pa_nil))) (pe_op op_pow pe_int pe_int)) (pe_op op_pow pe_int pe_int)) (pe_call G hr rfl gD FD.kp b .nil pass0 (pa_cons (pv 0) (pa_cons pe_int pa_nil)))))) pss_nil)
    (pss_one (ps_ret (pe_op op_sub (pe_call G hr rfl gD FD.kp b .nil pass0 (pa_cons (pv 0) (pa_cons (pe_op op_add (pe_op op_mul pe_int (pv 1)) pe_int) pa_nil))) (pv 1)))), ?_⟩
  have small : ∀ (H1 : Hp) (M : Int), Strm H1 l ls M → M ≤ N + 1 → But l ls H H1 → ∃ x : V, [some (V.ref l), some (.int far), some (.bl wide)][0]? = some (some x) ∧ True := fun _ _ _ _ _ => ⟨_, rfl, trivial⟩
  cases wide with
  | false =>
    refine ⟨_, rfl, _, rfl, iteF (iteF ?_)⟩
    refine ⟨_, rfl, _, rfl, _, _, rfl, rfl, .inl ⟨by decide, by decide⟩, _, _, rfl, rfl, ?_⟩
    refine ⟨l, ls, _, _, rfl, S, by omega, by omega, by omega, fun H1 r r0 r1 S1 B1 => ?_⟩
    exact ⟨_, rfl, _, _, rfl, rfl, hq H1 _ ⟨by omega, by omega⟩ (S1.mono (by omega)) B1⟩
  | true =>
    refine ⟨_, rfl, _, rfl, iteT ?_⟩
    refine ⟨_, rfl, l, ls, 4, _, rfl, S, by omega, by decide, by decide, fun H1 r r0 r1 S1 B1 => ⟨rfl, ?_⟩⟩
    by_cases h : r = 0
    · refine ⟨true, congrArg V.bl (decide_eq_true (by rw [h])), iteT ?_⟩
      refine ⟨_, rfl, _, _, rfl, rfl, ⟨by decide, by decide, by decide⟩, _, _, rfl, rfl, .inl ⟨by decide, by decide⟩, _, _, rfl, rfl, ?_⟩
      refine ⟨l, ls, _, _, rfl, S1, by omega, by decide, by decide, fun H2 u u0 u1 S2 B2 => ?_⟩
      have u1 : u < 2 * 10 ^ 8 + 1 := u1
      refine ⟨_, _, rfl, rfl, ⟨by decide, by decide, by decide⟩, _, _, rfl, rfl, .inr ⟨by decide, by decide⟩, _, _, rfl, rfl, ⟨by decide, by decide, by decide⟩, _, _, rfl, rfl, ?_⟩
      refine ⟨_, rfl, l, ls, 1000, _, rfl, S2, by omega, by decide, by decide, fun H3 x x0 x1 S3 B3 => ?_⟩
      refine ⟨_, _, rfl, rfl, hq H3 _ ?_ (S3.mono (by omega)) ((B1.trans B2).trans B3)⟩
      have e6 : (10 : Int) ^ Int.toNat 6 = 1000000 := by decide
      have e14 : (10 : Int) ^ Int.toNat 14 = 100000000000000 := by decide
      unfold NumOk
      rw [e6, e14]
      omega
    · refine ⟨false, congrArg V.bl (decide_eq_false (fun z => h (V.int.inj z))), iteF ?_⟩
      refine ⟨_, rfl, _, rfl, _, _, rfl, rfl, .inl ⟨by decide, by decide⟩, _, _, rfl, rfl, ?_⟩
      refine ⟨l, ls, _, _, rfl, S1, by omega, by omega, by omega, fun H2 u u0 u1 S2 B2 => ?_⟩
      exact ⟨_, rfl, _, _, rfl, rfl, hq H2 _ ⟨by omega, by omega⟩ (S2.mono (by omega)) (B1.trans B2)⟩
end
end L2.TB
/-! _law_s_sums -/
namespace L2.TB
open PySem PySem.Spec PyProof.Rows
theorem strs_of : ∀ ys : List V, (∀ y ∈ ys, ∃ x, y = V.str x) → ∃ ks : List Str, ys = ks.map V.str
  | [], _ => ⟨[], rfl⟩
  | y :: ys, h => by
    obtain ⟨x, rfl⟩ := h y List.mem_cons_self
    obtain ⟨ks, rfl⟩ := strs_of ys fun z hz => h z (List.mem_cons_of_mem _ hz)
    exact ⟨x :: ks, rfl⟩
theorem some_strs {ns : List Str} {ys zs : List V} (pm : (ys ++ zs).Perm (ns.map V.str)) (nnd : ns.Nodup) : ∃ known : List Str, ys = known.map V.str ∧ known.Nodup ∧ ∀ x ∈ known, x ∈ ns := by
  have yin : ∀ y ∈ ys, ∃ x, y = V.str x := fun y hy => by
    have z : y ∈ ns.map V.str := pm.mem_iff.mp (List.mem_append_left _ hy)
    obtain ⟨x, _, rfl⟩ := List.mem_map.mp z
    exact ⟨x, rfl⟩
  obtain ⟨known, rfl⟩ := strs_of ys yin
  have ndall : (known.map V.str ++ zs).Nodup := pm.nodup_iff.mpr (List.Pairwise.map V.str (fun a b h e => h (V.str.inj e)) nnd)
  refine ⟨known, rfl, ?_, fun x hx => ?_⟩
  · have z := (List.nodup_append.mp ndall).1
    exact (List.pairwise_map.mp z).imp fun h e => h (congrArg V.str e)
  · have z : V.str x ∈ ns.map V.str := pm.mem_iff.mp (List.mem_append_left _ (List.mem_map_of_mem hx))
    obtain ⟨y, hy, e⟩ := List.mem_map.mp z
    exact V.str.inj e ▸ hy
theorem put_last {acc : List (Key × V)} {k : Key} {v : V} (h : k ∉ acc.map (·.1)) : putK acc k v = acc ++ [(k, v)] := by
  have nd : ∀ acc : List (Key × V), k ∉ acc.map (·.1) → putK acc k v = acc ++ [(k, v)] := by
    intro acc h
    have no : (acc.any fun e => decide (e.1 = k)) = false := by
      cases q : acc.any fun e => decide (e.1 = k) with
      | false => rfl
      | true =>
        obtain ⟨e, he, ee⟩ := List.any_eq_true.mp q
        exact absurd (of_decide_eq_true ee ▸ List.mem_map_of_mem (f := (·.1)) he) h
    unfold putK
    rw [no]
    rfl
  exact nd acc h
/-- what a dict comprehension asks of its turns -/
def DcW (J : It) (g : TG) (tt : TT) (tk tv : TE) (vs : List Nat) (σ : St) (H1 : Hp) (Q : Addr → Hp → Prop) : Prop := ∀ D, H1 D = none → ∃ W : Nat → Nat → Hp → Prop, (∃ m, W 0 m (upd H1 D (.dK []))) ∧ ∀ i m H, W i m H →
  (J.stop i H ∧ Q D H) ∨ (J.go i H ∧ ∃ Nx : Hp → Prop, (∀ H', Nx H' → ∃ m', m' < m ∧ W (i + 1) m' H') ∧ ∀ x H', J.yld i H x H' → g x (wipe σ vs) H' fun σ2 H2 => wipe σ2 vs = wipe σ vs ∧ tt σ2 H2 fun b H3 =>
    if b = true then tk σ2 H3 fun y H4 => tv σ2 H4 fun z H5 => ∃ kvs k, y = kV k ∧ H5 D = some (.dK kvs) ∧ kvs.length < sizeLine ∧ Nx (upd H5 D (.dK (putK kvs k z))) else Nx H3)
theorem paired_join {α β : Type} {F : α → β → Prop} {as : List α} {bs : List β} {a : α} {b : β} (h : Paired F as bs) (q : F a b) : Paired F (as ++ [a]) (bs ++ [b]) := by
  induction h with
  | nil => exact .cons q .nil
  | cons h _ ih => exact .cons h ih
/-- a row of numbers, with the modulus -/
abbrev SideT : Type := List (Str × Int) × Int
def dkS (kvs : List (Str × Int)) : List (Key × V) := kvs.map fun e => (Sum.inr e.1, V.int e.2)
def SideAt (A : Addr → Prop) (H : Hp) (v : V) (s : SideT) : Prop := ∃ p d, v = .ref p ∧ A p ∧ A d ∧ H p = some (.tup [.ref d, .int s.2]) ∧ H d = some (.dK (dkS s.1))
theorem keys_es {A : Addr → Prop} {H : Hp} (X : (Addr → Prop) → Hp → Key × V → Str × SideT → Prop) (hX : ∀ e q, X A H e q → e.1 = Sum.inr q.1) {es : List (Key × V)} {qs : List (Str × SideT)} (h : Paired (X A H) es qs) : es.map (·.1) = (qs.map (·.1)).map Sum.inr := by
  induction h with
  | nil => rfl
  | cons h _ ih => rw [List.map_cons, List.map_cons, List.map_cons, ih, hX _ _ h]
theorem SideAt.keep {A A' : Addr → Prop} {H H' : Hp} {v : V} {s : SideT} (h : SideAt A H v s) (hA : ∀ b, A b → A' b) (k : ∀ b o, A b → H b = some o → H' b = some o) : SideAt A' H' v s := by
  obtain ⟨p, d, e, a1, a2, o1, o2⟩ := h
  exact ⟨p, d, e, hA _ a1, hA _ a2, k _ _ a1 o1, k _ _ a2 o2⟩
def SideE (A : Addr → Prop) (H : Hp) (e : Key × V) (q : Str × SideT) : Prop := e.1 = Sum.inr q.1 ∧ SideAt A H e.2 q.2
structure SideOk (us : List Str) (s : SideT) : Prop where
  nd : (s.1.map (·.1)).Nodup
  sub : ∀ e ∈ s.1, e.1 ∈ us
  num : ∀ e ∈ s.1, NumOk e.2
  mo : s.2 = 0 ∨ (2 ≤ s.2 ∧ s.2 ≤ 12)
/-- unknowns and questions as drawn -/
structure SumsOk (us : List Str) (qs : List (Str × SideT)) : Prop where
  und : us.Nodup
  ul : 1 ≤ us.length ∧ us.length ≤ 3
  un : ∀ x ∈ us, NmS x
  qnd : (qs.map (·.1)).Nodup
  ql : 2 ≤ qs.length ∧ qs.length ≤ 5
  qn : ∀ q ∈ qs, NmS q.1
  s : ∀ q ∈ qs, SideOk us q.2
def QuesAt (A : Addr → Prop) (H : Hp) (F : Addr) (qs : List (Str × SideT)) : Prop := ∃ es, H F = some (.dK es) ∧ Paired (SideE A H) es qs
def spSumsL : Sp := fun vs H Q _ => ∃ (l ls ml : Addr) (N : Int), vs = [.ref l, .ref ml, .bl true] ∧ Strm H l ls N ∧ N ≤ 800000 ∧ ml ≠ l ∧ ml ≠ ls ∧ H ml = some (.lst [.int 0, .int 0, .int 2, .int 3, .int 12]) ∧
  ∀ H' p u F us qs, SumsOk us qs → H' p = some (.tup [.ref u, .ref F]) → H u = none → u ≠ l → u ≠ ls → H' u = some (.lst (us.map V.str)) → H F = none → F ≠ l → F ≠ ls → QuesAt (fun b => b ≠ l ∧ b ≠ ls ∧ b ≠ F ∧ H b = none) H' F qs → Strm H' l ls (N + 200) → But l ls H H' → Q (.ref p) H'
abbrev NSu : List Str := ["stream", "moduli", "is_wide", "unknowns", "found", "name", "row", "unknown"]
theorem scSumsL : FnScope NSu ["stream", "moduli", "is_wide"] (defScope sSumsL) := ⟨rfl, rfl, rfl, by decide +kernel, rfl, by decide +kernel, by decide +kernel⟩
section
variable {P : Program} {w : World} {K : PySem.W.Frag} {mg : Str → Option Value} {base : Heap} {f fD fP fN fM fU : Addr} {fd fdD fdP fdN fdM fdU : FuncData}
theorem ok_sumsL (F : FunD K "_law_s_sums" "_law_s_sums" (defArgs sSumsL) (defBody sSumsL) (defScope sSumsL) [.bl false] [] f fd) (gD : mg "_law_draw" = some (.ref fD)) (kD : PySem.W.keepIn K (.ref fD) = true) (GD : FnOk P w K mg base CX0 1 fD fdD ["stream", "many"] spDraw) (bD : Binds K fdD ["stream", "many"] [])
    (gP : mg "_law_pick" = some (.ref fP)) (kP : PySem.W.keepIn K (.ref fP) = true) (GP : FnOk P w K mg base CX0 2 fP fdP ["stream", "some"] (spPick K)) (bP : Binds K fdP ["stream", "some"] [])
    (gN : mg "_law_names" = some (.ref fN)) (kN : PySem.W.keepIn K (.ref fN) = true) (GN : FnOk P w K mg base CX0 4 fN fdN ["stream", "many"] spNames) (bN : Binds K fdN ["stream", "many"] [])
    (gM : mg "_law_mixed" = some (.ref fM)) (kM : PySem.W.keepIn K (.ref fM) = true) (GM : FnOk P w K mg base CX0 2 fM fdM ["stream", "some"] (spMixed K)) (bM : Binds K fdM ["stream", "some"] [])
    (gU : mg "_law_s_number" = some (.ref fU)) (kU : PySem.W.keepIn K (.ref fU) = true) (GU : FnOk P w K mg base CX0 2 fU fdU ["stream", "far", "is_wide"] spNumber) (bU : Binds K fdU ["stream", "far", "is_wide"] []) : FnOk P w K mg base CX0 5 f fd ["stream", "moduli", "is_wide"] spSumsL := by
  refine FunD.ok F scSumsL (fun vs H Q E h => by obtain ⟨l, ls, ml, N, e, _⟩ := h; rw [e]; rfl) fun cdv A outer s H vs Q E hr hsp => ?_
  obtain ⟨l, ls, ml, N, rfl, S, hN, ml1, ml2, oml, hq⟩ := hsp
  have nd := scSumsL.nd
  have hu := hu_of (hr.mono (show 1 ≤ 4 by decide))
  refine ⟨_, PSs.nox (st := defBody sSumsL) (pss_cons (ps_set (i := 3) nd rfl (Or.inl rfl) (pe_call GN (hr.mono (by decide)) rfl gN kN bN .nil pass0 (pa_cons (pv 0) (pa_cons (pe_op op_add pe_int (pe_call GD (hr.mono (by decide)) rfl gD kD bD .nil pass0 (pa_cons (pv 0) (pa_cons pe_int pa_nil)))) pa_nil))))
    (pss_cons (ps_set (i := 4) nd rfl (Or.inl rfl) pe_dnewK)
    (pss_cons (ps_for PassesOwn.never rfl (pi_list (pe_call GN (hr.mono (by decide)) rfl gN kN bN .nil pass0 (pa_cons (pv 0) (pa_cons (pe_op op_add pe_int (pe_call GD (hr.mono (by decide)) rfl gD kD bD .nil pass0 (pa_cons (pv 0) (pa_cons pe_int pa_nil)))) pa_nil)))) (pg_name (i := 5) nd rfl (Or.inl rfl))
      (pss_cons (ps_set (i := 6) nd rfl (Or.inl rfl) pe_dnewK)
      (pss_cons (ps_for PassesOwn.never rfl (pi_list (pe_call GM (hr.mono (by decide)) rfl gM kM bM .nil pass0 (pa_cons (pv 0) (pa_cons (pv 3) pa_nil)))) (pg_name (i := 7) nd rfl (Or.inl rfl))
        (pss_one (ps_if (pt_cmpR op_gt (pe_call GD (hr.mono (by decide)) rfl gD kD bD .nil pass0 (pa_cons (pv 0) (pa_cons pe_int pa_nil))) pe_int (nomark _)) (pss_one (ps_dput hu (pv 6) (pv 7) (pe_call GU (hr.mono (by decide)) rfl gU kU bU .nil pass0 (pa_cons (pv 0) (pa_cons pe_int (pa_cons (pv 2) pa_nil)))) rfl)) pss_nil)))
      (pss_one (ps_dput hu (pv 4) (pv 5) (pe_tup (pa_cons (pv 6) (pa_cons (pe_call GP (hr.mono (by decide)) rfl gP kP bP .nil pass0 (pa_cons (pv 0) (pa_cons (pv 1) pa_nil))) pa_nil))) rfl)))))
    (pss_one (ps_ret (pe_tup (pa_cons (pv 3) (pa_cons (pv 4) pa_nil)))))))), ?_⟩
  refine ⟨_, rfl, _, rfl, l, ls, 3, N, rfl, S, by omega, by decide, by decide, fun H1 r r0 r1 S1 B1 => ⟨1, r, rfl, rfl, l, ls, _, _, rfl, S1, by omega, by omega, by omega, fun H2 u us lus und uok nu ou S2 B2 => ?_⟩⟩
  have au := S1.apart (Same.refl _) nu
  have nu0 : H u = none := by
    cases e : H u with
    | none => rfl
    | some o =>
      have z := B1 u o au.1 au.2 e
      rw [nu] at z
      cases z
  intro F nF
  have B02 : But l ls H H2 := B1.trans B2
  have nF0 : H F = none := by
    have aF := S2.apart (Same.refl _) nF
    cases e : H F with
    | none => rfl
    | some o =>
      have z := B02 F o aF.1 aF.2 e
      rw [nF] at z
      cases z
  have aF := S2.apart (Same.refl _) nF
  have kF := same_new (o := .dK []) nF
  have oF : upd H2 F (.dK []) F = some (.dK []) := upd_same
  have ou3 := kF _ _ ou
  have S3 := S2.same kF
  have B03 : But l ls H (upd H2 F (.dK [])) := B02.trans (.of kF)
  generalize upd H2 F (.dK []) = H3 at kF oF ou3 S3 B03
  refine ⟨_, rfl, _, rfl, l, ls, 4, _, rfl, S3, by omega, by decide, by decide, fun H4 r' r0' r1' S4 B4 => ⟨2, r', rfl, rfl, l, ls, _, _, rfl, S4, by omega, by omega, by omega, fun H5 q2 nms lnm nnd nok nq2 oq2 S5 B5 => ?_⟩⟩
  have aq := S4.apart (Same.refl _) nq2
  have B35 : But l ls H3 H5 := B4.trans B5
  have B05 := B03.trans B35
  have oF5 := B35 _ _ aF.1 aF.2 oF
  have ou5 := B35 _ _ au.1 au.2 ou3
  have lus3 : us.length ≤ 3 := by omega
  let A : Addr → Prop := fun b => b ≠ l ∧ b ≠ ls ∧ b ≠ F ∧ H b = none
  refine ⟨q2, rfl, ⟨_, SqL.of oq2⟩, for_list (xs := nms.map V.str) (fun i σ H' => Strm H' l ls (N + 90 + 20 * i) ∧ (∀ b o, b ≠ l → b ≠ ls → b ≠ F → H5 b = some o → H' b = some o) ∧ (∃ es qs, H' F = some (.dK es) ∧ qs.map (·.1) = nms.take i ∧ Paired (SideE A H') es qs ∧ ∀ q ∈ qs, SideOk us q.2) ∧
      ∃ s5 s6 s7, σ = [some (.ref l), some (.ref ml), some (.bl true), some (.ref u), some (.ref F), s5, s6, s7])
    ⟨S5.mono (by omega), fun _ _ _ _ _ e => e, ⟨[], [], oF5, by simp, .nil, fun q hq => by cases hq⟩, _, _, _, rfl⟩ (fun i σ H' _ h => SqL.of (h.2.1 _ _ aq.1 aq.2 (fun z => by rw [z, oF5] at oq2; cases oq2) oq2)) ?_ ?_⟩
  · rintro i yv σ H6 ey ⟨S6, K6, ⟨es, qs, oF6, eq6, pr6, ok6⟩, s5, s6, s7, rfl⟩
    rw [List.getElem?_map] at ey
    obtain ⟨nm, en, rfl⟩ := Option.map_eq_some_iff.mp ey
    have li : i < nms.length := (List.getElem?_eq_some_iff.mp en).1
    have ou6 := K6 _ _ au.1 au.2 (fun z => by rw [z, oF5] at ou5; cases ou5) ou5
    intro R nR
    have aR := S6.apart (Same.refl _) nR
    have RF : R ≠ F := fun z => by rw [z, oF6] at nR; cases nR
    have nR0 : H R = none := by
      cases e : H R with
      | none => rfl
      | some o =>
        have z := K6 R o aR.1 aR.2 RF (B05 R o aR.1 aR.2 e)
        rw [nR] at z
        cases z
    have kR := same_new (o := .dK []) nR
    have oR : upd H6 R (.dK []) R = some (.dK []) := upd_same
    have S7 := S6.same kR
    have ou7 := kR _ _ ou6
    have oF7 := kR _ _ oF6
    have pr7 : Paired (SideE A (upd H6 R (.dK []))) es qs := Paired.mapP pr6 fun e q h => ⟨h.1, h.2.keep (fun _ z => z) fun b o _ x => kR b o x⟩
    have K7 : ∀ b o, b ≠ l → b ≠ ls → b ≠ F → H5 b = some o → upd H6 R (.dK []) b = some o := fun b o h1 h2 h3 e => kR _ _ (K6 b o h1 h2 h3 e)
    generalize upd H6 R (.dK []) = H7 at kR oR S7 ou7 oF7 pr7 K7
    refine ⟨_, rfl, _, rfl, l, ls, u, us.map V.str, _, rfl, S7, by omega, SqL.of ou7, by rw [List.length_map]; omega, fun H8 m ys pm nm8 om S8 B8 => ?_⟩
    rw [List.length_map] at S8
    have am := S7.apart (Same.refl _) nm8
    obtain ⟨zs, rfl, znd, zsub⟩ := some_strs (ys := ys) (zs := []) (by simpa using pm) und
    have lz : zs.length = us.length := by
      have z := pm.length_eq
      rw [List.length_map, List.length_map] at z
      exact z
    have mR : m ≠ R := fun z => by rw [z, oR] at nm8; cases nm8
    have mF : m ≠ F := fun z => by rw [z, oF7] at nm8; cases nm8
    have oR8 := B8 _ _ aR.1 aR.2 oR
    have oF8 := B8 _ _ aF.1 aF.2 oF7
    refine ⟨m, rfl, ⟨_, SqL.of om⟩, for_list (xs := zs.map V.str) (fun j σ H' => Strm H' l ls (N + 90 + 20 * i + 3 + 4 * j) ∧ (∀ b o, b ≠ l → b ≠ ls → b ≠ R → H8 b = some o → H' b = some o) ∧ (∃ kvs, H' R = some (.dK (dkS kvs)) ∧ (kvs.map (·.1)).Nodup ∧ (∀ e ∈ kvs, e.1 ∈ zs.take j) ∧ ∀ e ∈ kvs, NumOk e.2) ∧
        ∃ s7, σ = [some (.ref l), some (.ref ml), some (.bl true), some (.ref u), some (.ref F), some (.str nm), some (.ref R), s7])
      ⟨S8.mono (by omega), fun _ _ _ _ _ e => e, ⟨[], oR8, .nil, fun e he => (by cases he), fun e he => (by cases he)⟩, _, rfl⟩ (fun j σ H' _ h => SqL.of (h.2.1 _ _ am.1 am.2 mR om)) ?_ ?_⟩
    · rintro j yv σ H9 ey ⟨S9, K9, ⟨kvs, oR9, knd, ksub, kn⟩, s7, rfl⟩
      rw [List.getElem?_map] at ey
      obtain ⟨x, ex, rfl⟩ := Option.map_eq_some_iff.mp ey
      have lj : j < zs.length := (List.getElem?_eq_some_iff.mp ex).1
      have et : zs.take (j + 1) = zs.take j ++ [x] := by rw [List.take_succ, ex]; rfl
      refine ⟨_, rfl, l, ls, 4, _, rfl, S9, by omega, by decide, by decide, fun H10 t t0 t1 S10 B10 => ?_⟩
      have oR10 := B10 _ _ aR.1 aR.2 oR9
      refine ⟨_, _, rfl, rfl, _, rfl, ?_⟩
      by_cases hp : 0 < t
      · rw [decide_eq_true hp]
        refine iteT ?_
        refine ⟨_, rfl, _, rfl, l, ls, 4, _, true, rfl, S10, by omega, by decide, by decide, fun H11 z zok S11 B11 => ?_⟩
        have oR11 := B11 _ _ aR.1 aR.2 oR10
        have lk : kvs.length ≤ 1000 := by
          have sub : ∀ y ∈ kvs.map (·.1), y ∈ zs := fun y hy => by
            obtain ⟨e, he, rfl⟩ := List.mem_map.mp hy
            exact List.mem_of_mem_take (ksub e he)
          have le := List.Nodup.length_le_of_subset knd (fun y hy => sub y hy)
          rw [List.length_map] at le
          omega
        have xout : x ∉ kvs.map (·.1) := fun hx => by
          obtain ⟨e, he, e1⟩ := List.mem_map.mp hx
          have z := ksub e he
          rw [e1] at z
          have z2 : (zs.take j ++ [x]).Nodup := by rw [← et]; exact znd.sublist (List.take_sublist _ _)
          rw [List.nodup_append] at z2
          exact z2.2.2 x z x (by simp) rfl
        have xk : (Sum.inr x : Key) ∉ (dkS kvs).map (·.1) := fun hx => by
          obtain ⟨e, he, e1⟩ := List.mem_map.mp hx
          obtain ⟨e', he', rfl⟩ := List.mem_map.mp he
          exact xout (List.mem_map.mpr ⟨e', he', Sum.inr.inj e1⟩)
        refine ⟨_, rfl, _, rfl, R, _, rfl, DPut.k (k := Sum.inr x) oR11 (by rw [sizeLine_eq]; unfold dkS; rw [List.length_map]; omega), ?_⟩
        refine ⟨?_, fun b o h1 h2 h3 e => by rw [upd_ne h3]; exact B11 _ _ h1 h2 (B10 _ _ h1 h2 (K9 b o h1 h2 h3 e)), ⟨kvs ++ [(x, z)], ?_, ?_, ?_, ?_⟩, _, rfl⟩
        · obtain ⟨cs', g, k, m', S⟩ := S11
          exact Strm.mono ⟨cs', g, k, m', by rw [upd_ne (Ne.symm aR.1)]; exact S.o, by rw [upd_ne (Ne.symm aR.2)]; exact S.c, S.ne, S.g0, S.k0, S.k1, S.m0, S.m1, S.sz⟩ (by omega)
        · rw [upd_same, put_last xk]
          unfold dkS
          rw [List.map_append]
          rfl
        · rw [List.map_append, List.nodup_append]
          exact ⟨knd, by simp, fun a ha b hb e => xout (by
            have : b = x := by simpa using hb
            rw [← this, ← e]; exact ha)⟩
        · intro e he
          rw [et]
          rcases List.mem_append.mp he with he | he
          · exact List.mem_append_left _ (ksub e he)
          · obtain rfl : e = (x, z) := by simpa using he
            simp
        · intro e he
          rcases List.mem_append.mp he with he | he
          · exact kn e he
          · obtain rfl : e = (x, z) := by simpa using he
            exact zok
      · rw [decide_eq_false hp]
        refine iteF ⟨S10.mono (by omega), fun b o h1 h2 h3 e => B10 _ _ h1 h2 (K9 b o h1 h2 h3 e), ⟨kvs, oR10, knd, fun e he => by rw [et]; exact List.mem_append_left _ (ksub e he), kn⟩, _, rfl⟩
    · rintro σ H9 ⟨S9, K9, ⟨kvs, oR9, knd, ksub, kn⟩, s7, rfl⟩
      rw [List.length_map] at S9 ksub
      rw [List.take_length] at ksub
      have oF9 := K9 _ _ aF.1 aF.2 RF.symm oF8
      have nr : ∀ {b : Addr} {o : HO}, H6 b = some o → b ≠ R := fun e z => by rw [z, nR] at e; cases e
      have up9 : ∀ b o, b ≠ l → b ≠ ls → H6 b = some o → H9 b = some o := fun b o h1 h2 e => K9 b o h1 h2 (nr e) (B8 _ _ h1 h2 (kR _ _ e))
      have mlF : ml ≠ F := fun z => by rw [z, nF0] at oml; cases oml
      have oml9 := up9 _ _ ml1 ml2 (K6 _ _ ml1 ml2 mlF (B05 _ _ ml1 ml2 oml))
      refine ⟨_, rfl, _, rfl, _, rfl, l, ls, ml, _, _, rfl, S9, by omega, ml1, ml2, oml9, by simp, by simp, fun H10 v hv S10 B10 => ⟨(by show 2 ≤ sizeLine; decide), fun T nT => ?_⟩⟩
      obtain ⟨mo, rfl, mok⟩ : ∃ mo : Int, v = .int mo ∧ (mo = 0 ∨ (2 ≤ mo ∧ mo ≤ 12)) := by
        simp only [List.mem_cons, List.not_mem_nil, or_false] at hv
        rcases hv with rfl | rfl | rfl | rfl | rfl
        · exact ⟨0, rfl, .inl rfl⟩
        · exact ⟨0, rfl, .inl rfl⟩
        · exact ⟨2, rfl, .inr ⟨by decide, by decide⟩⟩
        · exact ⟨3, rfl, .inr ⟨by decide, by decide⟩⟩
        · exact ⟨12, rfl, .inr ⟨by decide, by decide⟩⟩
      have up10 : ∀ b o, b ≠ l → b ≠ ls → H6 b = some o → H10 b = some o := fun b o h1 h2 e => B10 _ _ h1 h2 (up9 b o h1 h2 e)
      have oF10 := up10 _ _ aF.1 aF.2 oF6
      have oR10 := B10 _ _ aR.1 aR.2 oR9
      have aT := S10.apart (Same.refl _) nT
      have TF : T ≠ F := fun z => by rw [z, oF10] at nT; cases nT
      have nT0 : H T = none := by
        cases e : H T with
        | none => rfl
        | some o =>
          have z := up10 T o aT.1 aT.2 (K6 T o aT.1 aT.2 TF (B05 T o aT.1 aT.2 e))
          rw [nT] at z
          cases z
      have kT := same_new (o := .tup [.ref R, .int mo]) nT
      have oT : upd H10 T (.tup [.ref R, .int mo]) T = some (.tup [.ref R, .int mo]) := upd_same
      have oF11 := kT _ _ oF10
      have oR11 := kT _ _ oR10
      have S11 := S10.same kT
      have up11 : ∀ b o, b ≠ l → b ≠ ls → H6 b = some o → upd H10 T (.tup [.ref R, .int mo]) b = some o := fun b o h1 h2 e => kT _ _ (up10 b o h1 h2 e)
      generalize upd H10 T (.tup [.ref R, .int mo]) = H11 at kT oT oF11 oR11 S11 up11 ⊢
      have les : es.length = i := by
        have z1 := Paired.length pr6
        have z2 := congrArg List.length eq6
        rw [List.length_map, List.length_take] at z2
        omega
      have kes : es.map (·.1) = (nms.take i).map Sum.inr := by
        rw [← eq6]
        exact keys_es SideE (fun _ _ h => h.1) pr6
      have nout : (Sum.inr nm : Key) ∉ es.map (·.1) := fun hx => by
        rw [kes] at hx
        obtain ⟨y, hy, e1⟩ := List.mem_map.mp hx
        have et : nms.take (i + 1) = nms.take i ++ [nm] := by rw [List.take_succ, en]; rfl
        have z2 : (nms.take i ++ [nm]).Nodup := by rw [← et]; exact nnd.sublist (List.take_sublist _ _)
        rw [List.nodup_append] at z2
        exact z2.2.2 y hy nm (by simp) (Sum.inr.inj e1)
      refine ⟨_, rfl, _, rfl, F, _, rfl, DPut.k (k := Sum.inr nm) oF11 (by rw [sizeLine_eq]; omega), ?_⟩
      have upF : ∀ {u : HO} (b : Addr) (o : HO), b ≠ F → H11 b = some o → upd H11 F u b = some o := fun b o h e => by rw [upd_ne h]; exact e
      refine ⟨?_, fun b o h1 h2 h3 e => upF b o h3 (up11 b o h1 h2 (K6 b o h1 h2 h3 e)), ⟨es ++ [(Sum.inr nm, .ref T)], qs ++ [(nm, kvs, mo)], ?_, ?_, ?_, ?_⟩, _, _, _, rfl⟩
      · obtain ⟨cs', g, k, m', S⟩ := S11
        exact Strm.mono ⟨cs', g, k, m', by rw [upd_ne (Ne.symm aF.1)]; exact S.o, by rw [upd_ne (Ne.symm aF.2)]; exact S.c, S.ne, S.g0, S.k0, S.k1, S.m0, S.m1, S.sz⟩ (by omega)
      · rw [upd_same, put_last nout]
      · rw [List.map_append, eq6, List.take_succ, en]
        rfl
      · have pr6' : Paired (SideE A (upd H11 F (.dK (putK es (Sum.inr nm) (.ref T))))) es qs := Paired.mapP pr6 fun e q h => ⟨h.1, h.2.keep (fun _ z => z) fun b o a x => upF b o a.2.2.1 (up11 b o a.1 a.2.1 x)⟩
        exact paired_join pr6' ⟨rfl, T, R, rfl, ⟨aT.1, aT.2, TF, nT0⟩, ⟨aR.1, aR.2, RF, nR0⟩, upF _ _ TF oT, upF _ _ RF oR11⟩
      · intro q hq
        rcases List.mem_append.mp hq with hq | hq
        · exact ok6 q hq
        · obtain rfl : q = (nm, kvs, mo) := by simpa using hq
          exact ⟨knd, fun e he => zsub _ (ksub e he), kn, mok⟩
  · rintro σ H6 ⟨S6, K6, ⟨es, qs, oF6, eq6, pr6, ok6⟩, s5, s6, s7, rfl⟩
    rw [List.length_map, List.take_length] at eq6
    refine ⟨_, rfl, _, rfl, (by show 2 ≤ sizeLine; decide), fun p np => ?_⟩
    have kp := same_new (o := .tup [.ref u, .ref F]) np
    have uF : u ≠ F := fun z => by rw [z, oF5] at ou5; cases ou5
    refine hq _ p u F us qs ⟨und, by omega, uok, by rw [eq6]; exact nnd, ?_, fun q hq => nok _ (by rw [← eq6]; exact List.mem_map_of_mem hq), ok6⟩ upd_same nu0 au.1 au.2 (kp _ _ (K6 _ _ au.1 au.2 uF ou5)) nF0 aF.1 aF.2 ⟨es, kp _ _ oF6, Paired.mapP pr6 fun e q h => ⟨h.1, h.2.keep (fun _ z => z) fun b o _ x => kp b o x⟩⟩ ((S6.same kp).mono ?_) ?_
    · have z := congrArg List.length eq6
      rw [List.length_map] at z
      omega
    · rw [List.length_map]; omega
    · exact fun b o h1 h2 e => kp _ _ (K6 b o h1 h2 (fun z => by rw [z, nF0] at e; cases e) (B05 b o h1 h2 e))
end
end L2.TB
/-! dot, vector_of, remainder; is_one_of, check_asked over a dict -/
namespace L2.TB
open PySem PySem.Spec PyProof.Rows
theorem boot_sumN : bootBuiltins "sum" = some (.builtin "sum") := by decide +kernel
def dotZ : List Int → List Int → Int
  | a :: l, b :: r => a * b + dotZ l r
  | _, _ => 0
/-- the products, as they are made -/
theorem dot_take : ∀ (l r : List Int), ((l.zip r).map fun p => p.1 * p.2).sum = dotZ l r
  | [], _ => rfl
  | _ :: _, [] => rfl
  | a :: l, b :: r => by
    show a * b + _ = a * b + dotZ l r
    rw [← dot_take l r]
    rfl
def spDot : Sp := fun vs H Q _ => ∃ (a b : Addr) (xs ys : List Int), vs = [.ref a, .ref b] ∧ H a = some (.lst (xs.map V.int)) ∧ H b = some (.lst (ys.map V.int)) ∧ xs.length = ys.length ∧ xs.length < 1000 ∧ (∀ z ∈ xs, NumOk z) ∧ ∀ H', Same H H' → Q (.int (dotZ xs ys)) H'
abbrev NDo2 : List Str := ["one", "other", "a", "b"]
theorem scDot : FnScope NDo2 ["one", "other"] (defScope sDot) := ⟨rfl, rfl, rfl, by decide +kernel, rfl, by decide +kernel, by decide +kernel⟩
def vecZ (ns : List Str) (kvs : List (Str × Int)) : List Int := ns.map fun n => ((kvs.find? fun e => decide (e.1 = n)).map (·.2)).getD 0
theorem val_dkS : ∀ (kvs : List (Str × Int)) (n : Str), (valV (dkS kvs) (Sum.inr n)).getD (.int 0) = .int (((kvs.find? fun e => decide (e.1 = n)).map (·.2)).getD 0)
  | [], _ => rfl
  | e :: kvs, n => by
    have ih := val_dkS kvs n
    unfold dkS at ih ⊢
    rw [List.map_cons]
    by_cases h : e.1 = n
    · rw [valV_pos (show ((Sum.inr e.1, V.int e.2) : Key × V).1 = Sum.inr n from congrArg Sum.inr h), List.find?_cons_of_pos (by simpa using h)]
      rfl
    · rw [valV_neg (fun z => h (Sum.inr.inj z)), List.find?_cons_of_neg (by simpa using h)]
      exact ih
def spVec (K : PySem.W.Frag) : Sp := fun vs H Q _ => ∃ (c d : Addr) (ns : List Str) (kvs : List (Str × Int)), vs = [.ref c, .ref d] ∧ SqA K H c (ns.map V.str) ∧ H d = some (.dK (dkS kvs)) ∧ ns.length < 1000 ∧ ∀ H' p, Same H H' → H p = none → H' p = some (.lst ((vecZ ns kvs).map V.int)) → Q (.ref p) H'
abbrev NVe : List Str := ["names", "row", "name"]
theorem scVec : FnScope NVe ["names", "row"] (defScope sVec) := ⟨rfl, rfl, rfl, by decide +kernel, rfl, by decide +kernel, by decide +kernel⟩
def remZ (z m : Int) : Int := if m = 0 then z else z % m
def spRem : Sp := fun vs H Q _ => ∃ z m : Int, vs = [.int z, .int m] ∧ 0 ≤ m ∧ Q (.int (remZ z m)) H
theorem scRem : FnScope ["number", "modulus"] ["number", "modulus"] (defScope sRem) := ⟨rfl, rfl, rfl, by decide +kernel, rfl, by decide +kernel, by decide +kernel⟩
def spIsOneD : Sp := fun vs H Q _ => ∃ (d : Addr) (kvs : List (Key × V)) (x : Str) (v : V), vs = [.ref d, .str x] ∧ Rd H d (.dK kvs) ∧ valV kvs (Sum.inr x) = some v ∧ Q (.bl true) H
def spCkAD : Sp := fun vs H Q _ => ∃ (d : Addr) (kvs : List (Key × V)) (x : Str) (v : V), vs = [.ref d, .str x] ∧ Rd H d (.dK kvs) ∧ valV kvs (Sum.inr x) = some v ∧ Q .non H
section
variable {P : Program} {w : World} {K : PySem.W.Frag} {mg : Str → Option Value} {base : Heap} {f fO : Addr} {fd fdO : FuncData}
theorem ok_rem (F : Fun K "remainder" "remainder" sRem f fd) : FnOk P w K mg base CX0 1 f fd ["number", "modulus"] spRem := by
  refine F.ok scRem (fun vs H Q E h => by obtain ⟨z, m, e, _⟩ := h; rw [e]; rfl) fun cdv A outer s H vs Q E hr hsp => ?_
  obtain ⟨z, m, rfl, m0, hq⟩ := hsp
  refine ⟨_, pss_cons (ps_if (pt_cmpR op_eq (pv 1) pe_int (nomark _)) (pss_one (ps_ret (pv 0))) pss_nil) (pss_one (ps_ret (pe_op op_mod (pv 0) (pv 1)))), ?_⟩
  refine ⟨_, rfl, rfl, ?_⟩
  unfold remZ at hq
  by_cases h : m = 0
  · rw [if_pos h] at hq
    exact ⟨true, congrArg V.bl (decide_eq_true (congrArg V.int h)), iteT ⟨_, rfl, hq⟩⟩
  · rw [if_neg h] at hq
    exact ⟨false, congrArg V.bl (decide_eq_false (fun z => h (V.int.inj z))), iteF ⟨_, rfl, _, rfl, _, _, rfl, rfl, (by show 0 < m; omega), hq⟩⟩
theorem ok_isOneD (F : Fun K "is_one_of" "is_one_of" sIsOne f fd) (gI : mg "isinstance" = none) (gS : mg "str" = none) : FnOk P w K mg base CX0 1 f fd ["names", "thing"] spIsOneD := by
  refine F.ok scIsOne (fun vs H Q E h => by obtain ⟨d, kvs, x, v, e, _⟩ := h; rw [e]; rfl) fun cdv A outer s H vs Q E hr hsp => ?_
  obtain ⟨d, kvs, x, v, rfl, hd, hv, hq⟩ := hsp
  have hu := hu_of hr
  refine ⟨_, pss_one (ps_ret (pe_and (pe_callB (r := rIsi K) call_isi rfl gI boot_isi (pa_cons (pv 1) (pa_cons (pe_bltn (v := .ty "str") rfl gS boot_str' rfl) pa_nil)))
    (pe_one (pe_cmp (pc_din hu (pv 1) (pv 0)))))), ?_⟩
  refine ⟨_, rfl, _, _, _, _, true, rfl, .ty _, .base (.str x), kit_ty (by decide +kernel), true, rfl, ?_⟩
  refine iteT ⟨_, rfl, _, rfl, d, some v, rfl, .inl ⟨kvs, Sum.inr x, hd, rfl, hv.symm⟩, hq⟩
theorem ok_ckAD (F : Fun K "check_asked" "check_asked" sCkA f fd) (FO : Fun K "is_one_of" "is_one_of" sIsOne fO fdO) (gO : mg "is_one_of" = some (.ref fO)) (gI : mg "isinstance" = none) (gS : mg "str" = none) : FnOk P w K mg base CX0 2 f fd ["names", "asked"] spCkAD := by
  have G : FnOk P w K mg base CX0 1 fO fdO ["names", "thing"] spIsOneD := ok_isOneD FO gI gS
  have b := FO.binds (ps := ["names", "thing"]) fun _ _ _ _ _ _ us hl => match us, hl with | [_, _], _ => rfl
  refine F.ok scCkA (fun vs H Q E h => by obtain ⟨d, kvs, x, v, e, _⟩ := h; rw [e]; rfl) fun cdv A outer s H vs Q E hr hsp => ?_
  obtain ⟨d, kvs, x, v, rfl, hd, hv, hq⟩ := hsp
  refine ⟨_, pss_one (ps_if (pt_not (pt_val (pe_call G hr rfl gO FO.kp b .nil pass0 (pa_cons (pv 0) (pa_cons (pv 1) pa_nil))))) (pss_one ps_never) pss_nil), ?_⟩
  exact ⟨_, rfl, _, rfl, d, kvs, x, v, rfl, hd, hv, _, rfl, iteF hq⟩
theorem ok_dot (F : Fun K "dot" "dot" sDot f fd) (nS : mg "sum" = none) (nZ : mg "zip" = none) : FnOk P w K mg base CX0 1 f fd ["one", "other"] spDot := by
  refine F.ok scDot (fun vs H Q E h => by obtain ⟨a, b, xs, ys, e, _⟩ := h; rw [e]; rfl) fun cdv A outer s H vs Q E hr hsp => ?_
  obtain ⟨a, b, xs, ys, rfl, ha, hb, le, sh, nok, hq⟩ := hsp
  have nd := scDot.nd
  refine ⟨_, pss_one (ps_ret (pe_callB (r := rSum K) (cr_sum rfl) rfl nS boot_sumN (pa_cons (pe_lc (own := [("a", 2), ("b", 3)]) (tt := tYes) (g := gTup K 2 (gCons (gName 2) (gCons (gName 3) gNil))) rfl nd (pi_zip rfl nZ (pa_cons (pv 0) (pa_cons (pv 1) pa_nil))) (blkOk_by (N := NDo2) (sc := defScope sDot) (by decide +kernel))
    (fun _ _ _ _ _ => pg_tup rfl (pgs_cons (pg_name (i := 2) nd rfl (Or.inl rfl)) (pgs_cons (pg_name (i := 3) nd rfl (Or.inl rfl)) pgs_nil))) (fun _ _ _ _ _ => pts_nil) (fun _ _ _ _ _ => pe_op op_mul (pv 2) (pv 3))) pa_nil))), ?_⟩
  let pz : List Int := (xs.zip ys).map fun p => p.1 * p.2
  have lp : pz.length = xs.length := by
    show ((xs.zip ys).map _).length = _
    rw [List.length_map, List.length_zip]
    omega
  refine ⟨_, rfl, _, rfl, a, b, _, _, rfl, SqL.of ha, SqL.of hb, fun D nD => lc_it (walk_zip (xs := xs.map V.int) (ys := ys.map V.int) (n := xs.length) (by rw [List.length_map, List.length_map]; omega)) (fun j H' => H' D = some (.lst ((pz.take j).map V.int)) ∧ Same H H') ⟨upd_same, same_new nD⟩ (fun j H' _ h => ⟨SqL.of (h.2 _ _ ha), SqL.of (h.2 _ _ hb)⟩) ?_ ?_⟩
  · rintro j yv H4 H5 lj ⟨oD, k4⟩ ⟨T, x1, z1, rfl, nT, rfl, ex, ez⟩
    have ex : (xs.map V.int)[j]? = some x1 := ex
    have ez : (ys.map V.int)[j]? = some z1 := ez
    rw [List.getElem?_map] at ex ez
    obtain ⟨x, ex1, rfl⟩ := Option.map_eq_some_iff.mp ex
    obtain ⟨z, ez1, rfl⟩ := Option.map_eq_some_iff.mp ez
    have kT := same_new (o := .tup [.int x, .int z]) nT
    have nx := nok x (List.mem_of_getElem? ex1)
    have ep : pz[j]? = some (x * z) := by
      show ((xs.zip ys).map fun p => p.1 * p.2)[j]? = _
      rw [List.getElem?_map, (List.getElem?_zip_eq_some (z := (x, z))).mpr ⟨ex1, ez1⟩]
      rfl
    refine ⟨T, _, rfl, SqT.of upd_same, rfl, _, _, rfl, _, _, rfl, rfl, rfl, ?_⟩
    refine ⟨_, rfl, _, rfl, _, _, rfl, rfl, .inl ⟨by have := nx.1; omega, by have := nx.2; omega⟩, _, kT _ _ oD, ?_, ?_, ?_⟩
    · rw [List.length_map, List.length_take, sizeLine_eq]; omega
    · rw [upd_same, List.take_succ, ep, List.map_append]
      rfl
    · exact fun b o e => by
        rw [upd_ne (ne_of_none e nD)]
        exact kT _ _ (k4 _ _ e)
  · rintro H1 ⟨oD, k1⟩
    rw [← lp, List.take_length] at oD
    refine ⟨D, pz, rfl, SqL.of oD, ?_⟩
    rw [show pz.sum = dotZ xs ys from dot_take xs ys]
    exact hq H1 k1
theorem ok_vec (F : Fun K "vector_of" "vector_of" sVec f fd) : FnOk P w K mg base CX0 1 f fd ["names", "row"] (spVec K) := by
  refine F.ok scVec (fun vs H Q E h => by obtain ⟨c, d, ns, kvs, e, _⟩ := h; rw [e]; rfl) fun cdv A outer s H vs Q E hr hsp => ?_
  obtain ⟨c, d, ns, kvs, rfl, hc, hd, sh, hq⟩ := hsp
  have nd := scVec.nd
  have hu := hu_of hr
  refine ⟨_, pss_one (ps_ret (pe_lc (own := [("name", 2)]) (tt := tYes) (g := gName 2) rfl nd (pi_seq (pv 0)) (blkOk_by (N := NVe) (sc := defScope sVec) (by decide +kernel)) (fun _ _ _ _ _ => pg_name (i := 2) nd rfl (Or.inl rfl)) (fun _ _ _ _ _ => pts_nil)
    (fun _ _ _ _ _ => pe_dget2 hu (pv 1) (pv 2) pe_int ⟨rfl, rfl, rfl, rfl⟩))), ?_⟩
  have fin : ∀ (H1 : Hp) (p : Addr), H p = none → Same H H1 → H1 p = some (.lst (ns.map fun n => V.int (((kvs.find? fun e => decide (e.1 = n)).map (·.2)).getD 0))) → Q (.ref p) H1 := fun H1 p np k o => hq H1 p k np (by rw [o]; unfold vecZ; rw [List.map_map]; rfl)
  let fv : V → V := fun v => match v with
    | .str n => .int (((kvs.find? fun e => decide (e.1 = n)).map (·.2)).getD 0)
    | v => v
  have step : ∀ (j : Nat) (v : V) (H9 : Hp) (Cn : V → Hp → Prop) (Nn : Hp → Prop), (ns.map V.str)[j]? = some v → Same H H9 → (∀ H', Same H9 H' → Cn (fv v) H') → (∃ n, v = .str n) := fun j v H9 Cn Nn e _ _ => by
    rw [List.getElem?_map] at e
    obtain ⟨n, _, rfl⟩ := Option.map_eq_some_iff.mp e
    exact ⟨n, rfl⟩
  rcases hc with hc | hc
  · refine ⟨_, rfl, lc_seq (.inl rfl) hc (by rw [List.length_map]; omega) (fun _ => true) fv ?_ ?_⟩
    · intro j v H9 Cn Nn ev s9' yes no
      obtain ⟨n, rfl⟩ := step j v H9 Cn Nn ev s9' (fun H' h => yes rfl H' h)
      refine ⟨rfl, ?_⟩
      refine ⟨_, rfl, d, rfl, .inl ⟨_, .inl (s9' _ _ hd)⟩, _, rfl, _, .inl ⟨_, Sum.inr n, .inl (s9' _ _ hd), rfl, rfl⟩, ?_⟩
      rw [val_dkS]
      exact yes rfl H9 (Same.refl _)
    · intro H9 q nq oq s9'
      refine fin H9 q nq s9' ?_
      rw [oq, List.filter_eq_self.mpr (fun _ _ => rfl), List.map_map]
      rfl
  · refine ⟨_, rfl, lc_seq (.inr rfl) hc (by rw [List.length_map]; omega) (fun _ => true) fv ?_ ?_⟩
    · intro j v H9 Cn Nn ev s9' yes no
      obtain ⟨n, rfl⟩ := step j v H9 Cn Nn ev s9' (fun H' h => yes rfl H' h)
      refine ⟨rfl, ?_⟩
      refine ⟨_, rfl, d, rfl, .inl ⟨_, .inl (s9' _ _ hd)⟩, _, rfl, _, .inl ⟨_, Sum.inr n, .inl (s9' _ _ hd), rfl, rfl⟩, ?_⟩
      rw [val_dkS]
      exact yes rfl H9 (Same.refl _)
    · intro H9 q nq oq s9'
      refine fin H9 q nq s9' ?_
      rw [oq, List.filter_eq_self.mpr (fun _ _ => rfl), List.map_map]
      rfl
end
end L2.TB
/-! first_no_name -/
namespace L2.TB
open PySem PySem.Spec PyProof.Rows
def spNoName (K : PySem.W.Frag) : Sp := fun vs H Q _ => ∃ (a : Addr) (ns : List Str), vs = [.ref a] ∧ SqA K H a (ns.map V.str) ∧ 0 < ns.length ∧ ns.Nodup ∧ (∀ x ∈ ns, NmOk x) ∧ ns.length < 1000 ∧ ∀ H', Same H H' → Q .non H'
abbrev NNo : List Str := ["things", "seen", "index", "thing"]
theorem scNoName : FnScope NNo ["things"] (defScope sNoName) := ⟨rfl, rfl, rfl, by decide +kernel, rfl, by decide +kernel, by decide +kernel⟩
def spIsOneA (K : PySem.W.Frag) : Sp := fun vs H Q _ => ∃ (c : Addr) (ns : List Str) (x : Str), vs = [.ref c, .str x] ∧ SqA K H c (ns.map V.str) ∧ x ∈ ns ∧ Q (.bl true) H
section
variable {P : Program} {w : World} {K : PySem.W.Frag} {mg : Str → Option Value} {base : Heap} {f fL fN : Addr} {fd fdL fdN : FuncData}
theorem ok_isOneA (F : Fun K "is_one_of" "is_one_of" sIsOne f fd) (gI : mg "isinstance" = none) (gS : mg "str" = none) : FnOk P w K mg base CX0 1 f fd ["names", "thing"] (spIsOneA K) := by
  refine F.ok scIsOne (fun vs H Q E h => by obtain ⟨c, ns, x, e, _⟩ := h; rw [e]; rfl) fun cdv A outer s H vs Q E hr hsp => ?_
  obtain ⟨c, ns, x, rfl, hS, xin, hq⟩ := hsp
  refine ⟨_, pss_one (ps_ret (pe_and (pe_callB (r := rIsi K) call_isi rfl gI boot_isi (pa_cons (pv 1) (pa_cons (pe_bltn (v := .ty "str") rfl gS boot_str' rfl) pa_nil)))
    (pe_one (pe_cmpR op_in_seq (pv 1) (pv 0) rfl)))), ?_⟩
  refine ⟨_, rfl, _, _, _, _, true, rfl, .ty _, .base (.str x), kit_ty (by decide +kernel), true, rfl, _, rfl, _, rfl, c, _, rfl, hS.imp SqL.of SqT.of, rfl, flat_strs ns, ?_⟩
  rw [inV_strs, decide_eq_true xin]
  exact hq
theorem ok_noName (F : Fun K "first_no_name" "first_no_name" sNoName f fd) (FL : Fun K "is_list" "is_list" sIsList fL fdL) (gIL : mg "is_list" = some (.ref fL)) (FN : Fun K "is_name" "is_name" sIsName fN fdN) (gIN : mg "is_name" = some (.ref fN)) (GN : FnOk P w K mg base CX0 1 fN fdN ["thing"] spIsName)
    (gI : mg "isinstance" = none) (gL : mg "list" = none) (gT : mg "tuple" = none) (gE : mg "enumerate" = none) (gN : mg "len" = none) : FnOk P w K mg base CX0 2 f fd ["things"] (spNoName K) := by
  have GL : FnOk P w K mg base CX0 1 fL fdL ["thing"] (spIsList K) := ok_isList FL gI gL gT
  have bL := FL.binds (ps := ["thing"]) fun _ _ _ _ _ _ us hl => match us, hl with | [_], _ => rfl
  have bN := FN.binds (ps := ["thing"]) fun _ _ _ _ _ _ us hl => match us, hl with | [_], _ => rfl
  refine F.ok scNoName (fun vs H Q E h => by obtain ⟨a, ns, e, _⟩ := h; rw [e]; rfl) fun cdv A outer s H vs Q E hr hsp => ?_
  obtain ⟨a, known, rfl, hS, pos, nd1, nok, short, hq⟩ := hsp
  have nd := scNoName.nd
  have hu := hu_of hr
  refine ⟨_, pss_cons (ps_if (PW.pt (pw_or (pt_not (pt_val (pe_call GL hr rfl gIL FL.kp bL .nil pass0 (pa_cons (pv 0) pa_nil)))) (pw_or1 (pt_cmpR op_eq (pe_callB call_len_seq rfl gN boot_len (pa_cons (pv 0) pa_nil)) pe_int (nomark _))))) (pss_one ps_never) pss_nil)
    (pss_cons (ps_set (i := 1) nd rfl (Or.inl rfl) pe_dnewK)
    (pss_cons (ps_for PassesOwn.never rfl (pi_enumS rfl gE (pa_cons (pv 0) pa_nil)) (pg_tup rfl (pgs_cons (pg_name (i := 2) nd rfl (Or.inl rfl)) (pgs_cons (pg_name (i := 3) nd rfl (Or.inl rfl)) pgs_nil)))
      (pss_cons (ps_if (PW.pt (pw_or (pt_not (pt_val (pe_call GN hr rfl gIN FN.kp bN .nil pass0 (pa_cons (pv 3) pa_nil)))) (pw_or1 (pt_cmp (pc_din hu (pv 3) (pv 1)))))) (pss_one ps_never) pss_nil)
      (pss_one (ps_dput hu (pv 1) (pv 3) pe_bl rfl))))
    (pss_one (ps_ret pe_non)))), ?_⟩
  refine ⟨_, rfl, a, _, rfl, hS, fun H1 k1 => ⟨_, rfl, iteF ?_⟩⟩
  obtain ⟨o, ho, ko⟩ : ∃ o, H1 a = some o ∧ (o = .lst (known.map V.str) ∨ o = .tup (known.map V.str)) := by
    rcases hS.same k1 with e | e
    · exact ⟨_, e, .inl rfl⟩
    · exact ⟨_, e, .inr rfl⟩
  refine ⟨_, rfl, a, _, rfl, (hS.same k1).imp SqL.of SqT.of, rfl, false, congrArg V.bl (decide_eq_false fun z => by have z := V.int.inj z; rw [List.length_map] at z; omega), iteF fun d nd2 => ?_⟩
  have kd := same_new (o := .dK []) nd2
  refine ⟨_, rfl, enum_seq ko (fun i σ H' => H' d = some (.dK (seenD (known.take i))) ∧ Same H1 H' ∧ ∃ s3 s4, σ = [some (.ref a), some (.ref d), s3, s4])
    ⟨upd_same, kd, _, _, rfl⟩ (fun i σ H' _ h => h.2.1 _ _ ho) ?_ ?_⟩
  · rintro i v σ H2 T ev ⟨od, s2, s3, s4, rfl⟩ nT
    rw [List.getElem?_map] at ev
    obtain ⟨x, ex, rfl⟩ := Option.map_eq_some_iff.mp ev
    have hi : i < known.length := (List.getElem?_eq_some_iff.mp ex).1
    have kT := same_new (o := .tup [.int (i : Nat), .str x]) nT
    refine ⟨T, _, rfl, SqT.of upd_same, rfl, ?_⟩
    have e1 : known.take (i + 1) = known.take i ++ [x] := by rw [List.take_succ, ex]; rfl
    have notin : x ∉ known.take i := fun m => by
      have z := nd1
      rw [← List.take_append_drop (i + 1) known, e1, List.append_assoc, List.nodup_append] at z
      exact z.2.2 x m x (by simp) rfl
    refine ⟨_, _, rfl, _, _, rfl, rfl, ?_⟩
    refine ⟨_, rfl, x, rfl, nok x (List.mem_of_getElem? ex), fun H3 k3 => ⟨_, rfl, iteF ?_⟩⟩
    have od3 := k3 _ _ (kT _ _ od)
    refine ⟨_, rfl, _, rfl, d, _, rfl, DGet.k (k := Sum.inr x) od3, ?_⟩
    rw [seen_none notin]
    refine ⟨_, rfl, iteF ?_⟩
    have small : (seenD (known.take i)).length < sizeLine := by
      rw [sizeLine_eq]
      unfold seenD
      rw [List.length_map, List.length_take]; omega
    refine ⟨_, rfl, _, rfl, d, _, rfl, DPut.k (k := Sum.inr x) od3 small, ?_, ?_, _, _, rfl⟩
    · rw [upd_same, seen_put notin, ← e1]
    · intro b u e
      have nb : b ≠ d := ne_of_none e nd2
      rw [upd_ne nb]
      exact k3 _ _ (kT _ _ (s2 _ _ e))
  · rintro σ H2 ⟨od, s2, s3, s4, rfl⟩
    exact hq _ (k1.trans s2)
end
end L2.TB
/-! is_row, _is_side -/
namespace L2.TB
open PySem PySem.Spec PyProof.Rows
theorem lock_offN {H H' : Hp} {d : Addr} {u : HO} {od : Obj} (hd : H d = some u) (s : Same (upd H d (.frz od u)) H') : H' d = some (.frz od u) ∧ Same H (upd H' d u) := by
  refine ⟨s _ _ upd_same, fun b o e => ?_⟩
  by_cases hb : b = d
  · rw [hb, upd_same, ← hd, ← hb]; exact e
  · rw [upd_ne hb]
    exact s _ _ (by rw [upd_ne hb]; exact e)
theorem boot_allN : bootBuiltins "all" = some (.builtin "all") := by decide +kernel
theorem valV_atN : ∀ {kvs : List (Key × V)} {i : Nat} {k : Key} {x : V}, (kvs.map (·.1)).Nodup → kvs[i]? = some (k, x) → valV kvs k = some x
  | [], i, k, x, _, e => by cases e
  | p :: r, 0, k, x, _, e => by
    obtain rfl : p = (k, x) := by simpa using e
    exact valV_pos rfl
  | p :: r, i + 1, k, x, nd, e => by
    have e2 : r[i]? = some (k, x) := by simpa using e
    rw [List.map_cons, List.nodup_cons] at nd
    have ne : ¬ p.1 = k := fun z => nd.1 (by rw [z]; exact List.mem_map.mpr ⟨_, List.mem_of_getElem? e2, rfl⟩)
    rw [valV_neg ne]
    exact valV_atN nd.2 e2
theorem val_at_dkS {kvs : List (Str × Int)} (nd : (kvs.map (·.1)).Nodup) {j : Nat} {e : Str × Int} (h : kvs[j]? = some e) : (dkS kvs)[j]? = some (Sum.inr e.1, .int e.2) ∧ valV (dkS kvs) (Sum.inr e.1) = some (.int e.2) := by
  have h1 : (dkS kvs)[j]? = some (Sum.inr e.1, .int e.2) := by
    unfold dkS
    rw [List.getElem?_map, h]
    rfl
  refine ⟨h1, valV_atN ?_ h1⟩
  have : (dkS kvs).map (·.1) = (kvs.map (·.1)).map Sum.inr := by
    unfold dkS
    rw [List.map_map, List.map_map]
    rfl
  rw [this]
  exact List.Pairwise.map Sum.inr (fun a b h e => h (Sum.inr.inj e)) nd
def spIsRow (K : PySem.W.Frag) : Sp := fun vs H Q _ => ∃ (c d : Addr) (ns : List Str) (kvs : List (Str × Int)), vs = [.ref c, .ref d] ∧ SqA K H c (ns.map V.str) ∧ H d = some (.dK (dkS kvs)) ∧ (kvs.map (·.1)).Nodup ∧ (∀ e ∈ kvs, e.1 ∈ ns) ∧ kvs.length < 1000 ∧ ∀ H', Same H H' → Q (.bl true) H'
abbrev NRo : List Str := ["unknowns", "thing", "name"]
theorem scIsRow : FnScope NRo ["unknowns", "thing"] (defScope sIsRow) := ⟨rfl, rfl, rfl, by decide +kernel, rfl, by decide +kernel, by decide +kernel⟩
def spIsSide (K : PySem.W.Frag) : Sp := fun vs H Q _ => ∃ (c p d : Addr) (ns : List Str) (kvs : List (Str × Int)) (m : Int), vs = [.ref c, .ref p] ∧ SqA K H c (ns.map V.str) ∧ SqA K H p [.ref d, .int m] ∧ H d = some (.dK (dkS kvs)) ∧ (kvs.map (·.1)).Nodup ∧ (∀ e ∈ kvs, e.1 ∈ ns) ∧ kvs.length < 1000 ∧ (m = 0 ∨ 2 ≤ m) ∧ ∀ H', Same H H' → Q (.bl true) H'
theorem scIsSide : FnScope ["unknowns", "thing"] ["unknowns", "thing"] (defScope sIsSide) := ⟨rfl, rfl, rfl, by decide +kernel, rfl, by decide +kernel, by decide +kernel⟩
def spPairA (K : PySem.W.Frag) : Sp := fun vs H Q _ => ∃ (p : Addr) (a b : V), vs = [.ref p] ∧ SqA K H p [a, b] ∧ ∀ H', Same H H' → Q (.bl true) H'
theorem scPairA : FnScope ["thing"] ["thing"] (defScope sIsPair) := ⟨rfl, rfl, rfl, by decide +kernel, rfl, by decide +kernel, by decide +kernel⟩
section
variable {P : Program} {w : World} {K : PySem.W.Frag} {mg : Str → Option Value} {base : Heap} {f fL fO fI fR fP : Addr} {fd fdL fdO fdI fdR fdP : FuncData}
theorem ok_pairA (F : Fun K "is_pair" "is_pair" sIsPair f fd) (FL : Fun K "is_list" "is_list" sIsList fL fdL) (gL : mg "is_list" = some (.ref fL)) (nI : mg "isinstance" = none) (nL : mg "list" = none) (nT : mg "tuple" = none) (nN : mg "len" = none) : FnOk P w K mg base CX0 2 f fd ["thing"] (spPairA K) := by
  have GL : FnOk P w K mg base CX0 1 fL fdL ["thing"] (spIsList K) := ok_isList FL nI nL nT
  have bL := FL.binds (ps := ["thing"]) fun _ _ _ _ _ _ us hl => match us, hl with | [_], _ => rfl
  refine F.ok scPairA (fun vs H Q E h => by obtain ⟨a, u, v, e, _⟩ := h; rw [e]; rfl) fun cdv A outer s H vs Q E hr hsp => ?_
  obtain ⟨a, u, v, rfl, ha, hq⟩ := hsp
  refine ⟨_, pss_one (ps_ret (pe_and (pe_call GL hr rfl gL FL.kp bL .nil pass0 (pa_cons (pv 0) pa_nil)) (pe_one (pe_cmpR op_eq (pe_callB call_len_seq rfl nN boot_len (pa_cons (pv 0) pa_nil)) pe_int (nomark _))))), ?_⟩
  refine ⟨_, rfl, a, _, rfl, ha, fun H1 k1 => ⟨_, rfl, iteT ?_⟩⟩
  exact ⟨_, rfl, a, _, rfl, (ha.same k1).imp SqL.of SqT.of, rfl, hq H1 k1⟩
theorem ok_isRow (F : Fun K "is_row" "is_row" sIsRow f fd) (FO : Fun K "is_one_of" "is_one_of" sIsOne fO fdO) (gO : mg "is_one_of" = some (.ref fO)) (FI : Fun K "is_integer" "is_integer" sIsInt fI fdI) (gI : mg "is_integer" = some (.ref fI)) (nI : mg "isinstance" = none) (nS : mg "str" = none) (nD : mg "dict" = none) (nInt : mg "int" = none) (nB : mg "bool" = none) (nA : mg "all" = none) : FnOk P w K mg base CX0 2 f fd ["unknowns", "thing"] (spIsRow K) := by
  have GO : FnOk P w K mg base CX0 1 fO fdO ["names", "thing"] (spIsOneA K) := ok_isOneA FO nI nS
  have bO := FO.binds (ps := ["names", "thing"]) fun _ _ _ _ _ _ us hl => match us, hl with | [_, _], _ => rfl
  have GI : FnOk P w K mg base CX0 1 fI fdI ["thing"] spIsInt := ok_isInt FI nI nInt nB
  have bI := FI.binds (ps := ["thing"]) fun _ _ _ _ _ _ us hl => match us, hl with | [_], _ => rfl
  refine F.ok scIsRow (fun vs H Q E h => by obtain ⟨c, d, ns, kvs, e, _⟩ := h; rw [e]; rfl) fun cdv A outer s H vs Q E hr hsp => ?_
  obtain ⟨c, d, ns, kvs, rfl, hc, hd, knd, sub, sh, hq⟩ := hsp
  have nd := scIsRow.nd
  have hu := hu_of hr
  refine ⟨_, pss_cons (ps_if (pt_not (pt_val (pe_callB (r := rIsi K) call_isi rfl nI boot_isi (pa_cons (pv 1) (pa_cons (pe_bltn (v := .ty "dict") rfl nD boot_dict' rfl) pa_nil))))) (pss_one ps_never) pss_nil)
    (pss_one (ps_ret (pe_callB (cr_all rfl) rfl nA boot_allN (pa_cons (pe_lock (pe_lc (own := [("name", 2)]) (g := gName 2) (tt := tYes) rfl nd (pi_keys (pv 1)) (blkOk_by (N := NRo) (sc := defScope sIsRow) (by decide +kernel)) (fun _ _ _ _ _ => pg_name (i := 2) nd rfl (Or.inl rfl)) (fun _ _ _ _ _ => pts_nil)
      (fun _ _ _ _ _ => pe_and (pe_call GO hr rfl gO FO.kp bO .nil pass0 (pa_cons (pv 0) (pa_cons (pv 2) pa_nil))) (pe_one (pe_call GI hr rfl gI FI.kp bI .nil pass0 (pa_cons (pe_dget hu (pv 1) (pv 2) (fun _ _ => rfl)) pa_nil)))))) pa_nil)))), ?_⟩
  have ldk : (dkS kvs).length = kvs.length := by unfold dkS; rw [List.length_map]
  refine ⟨_, rfl, _, _, _, _, true, rfl, .ty _, .base (.dK hd), kit_ty (by decide +kernel), _, rfl, iteF ?_⟩
  refine ⟨d, _, hd, trivial, fun od => ⟨_, rfl, d, od, rfl, .inl ⟨_, upd_same, lc_gen (bools kvs.length) (by rw [bools_len]; omega) (fun j H' s lt => ⟨s _ _ upd_same, by rw [ldk]; rw [bools_len] at lt; exact lt⟩) (fun H' s => ⟨s _ _ upd_same, by rw [ldk, bools_len]; exact Nat.le_refl _⟩) ?_ ?_⟩⟩⟩
  · rintro j v y H4 H5 Cn Nn ey s4 ⟨rfl, k, w', ek, rfl⟩ yes
    obtain ⟨rfl, lt⟩ := bools_at ey
    have ee : kvs[j]? = some kvs[j] := List.getElem?_eq_getElem lt
    obtain ⟨e1, e2⟩ := val_at_dkS knd ee
    rw [e1] at ek
    cases ek
    have hcD : SqA K H5 c (ns.map V.str) := by
      have cd : c ≠ d := fun z => by
        rw [z] at hc
        rcases hc with h | h
        · rw [hd] at h; cases h
        · rw [hd] at h; cases h
      rcases hc with h | h
      · exact .inl (s4 _ _ (by rw [upd_ne cd]; exact h))
      · exact .inr (s4 _ _ (by rw [upd_ne cd]; exact h))
    refine ⟨rfl, ?_⟩
    refine ⟨_, rfl, _, rfl, c, ns, _, rfl, hcD, sub _ (List.mem_of_getElem? ee), true, rfl, iteT ?_⟩
    exact ⟨_, rfl, _, rfl, d, _, rfl, .inl ⟨_, Sum.inr kvs[j].1, .inr ⟨_, s4 _ _ upd_same⟩, rfl, e2.symm⟩, _, rfl, yes H5 (Same.refl _)⟩
  · intro H4 D nD oD s4
    obtain ⟨b1, s34⟩ := lock_offN hd s4
    have Da : D ≠ d := fun z => by rw [z, upd_same] at nD; cases nD
    rw [bools_map] at oD
    refine ⟨b1, D, _, rfl, SqL.of (by rw [upd_ne Da]; exact oD), ?_⟩
    rw [all_true]
    exact hq _ s34
theorem ok_isSide (F : Fun K "_is_side" "_is_side" sIsSide f fd) (FP : Fun K "is_pair" "is_pair" sIsPair fP fdP) (gP : mg "is_pair" = some (.ref fP)) (GP : FnOk P w K mg base CX0 2 fP fdP ["thing"] (spPairA K)) (FR : Fun K "is_row" "is_row" sIsRow fR fdR) (gR : mg "is_row" = some (.ref fR)) (GR : FnOk P w K mg base CX0 2 fR fdR ["unknowns", "thing"] (spIsRow K))
    (FI : Fun K "is_integer" "is_integer" sIsInt fI fdI) (gI : mg "is_integer" = some (.ref fI)) (GI : FnOk P w K mg base CX0 1 fI fdI ["thing"] spIsInt) : FnOk P w K mg base CX0 3 f fd ["unknowns", "thing"] (spIsSide K) := by
  have bP := FP.binds (ps := ["thing"]) fun _ _ _ _ _ _ us hl => match us, hl with | [_], _ => rfl
  have bR := FR.binds (ps := ["unknowns", "thing"]) fun _ _ _ _ _ _ us hl => match us, hl with | [_, _], _ => rfl
  have bI := FI.binds (ps := ["thing"]) fun _ _ _ _ _ _ us hl => match us, hl with | [_], _ => rfl
  refine F.ok scIsSide (fun vs H Q E h => by obtain ⟨c, p, d, ns, kvs, m, e, _⟩ := h; rw [e]; rfl) fun cdv A outer s H vs Q E hr hsp => ?_
  obtain ⟨c, p, d, ns, kvs, m, rfl, hc, hp, hd, knd, sub, sh, hm, hq⟩ := hsp
  refine ⟨_, pss_cons (ps_if (PW.pt (pw_or (pt_not (pt_val (pe_call GP hr rfl gP FP.kp bP .nil pass0 (pa_cons (pv 1) pa_nil)))) (pw_or (pt_not (pt_val (pe_call GR hr rfl gR FR.kp bR .nil pass0 (pa_cons (pv 0) (pa_cons (pe_ix (r := rIx K) ix_seq (pv 1) pe_int (fun _ _ => rfl)) pa_nil)))))
      (pw_or1 (pt_not (pt_val (pe_call GI (hr.mono (by decide)) rfl gI FI.kp bI .nil pass0 (pa_cons (pe_ix (r := rIx K) ix_seq (pv 1) pe_int (fun _ _ => rfl)) pa_nil)))))))) (pss_one ps_never) pss_nil)
    (pss_one (ps_ret (pe_or (pe_cmpR op_eq (pe_ix (r := rIx K) ix_seq (pv 1) pe_int (fun _ _ => rfl)) pe_int (nomark _)) (pe_one (pe_cmpR op_ge (pe_ix (r := rIx K) ix_seq (pv 1) pe_int (fun _ _ => rfl)) pe_int (nomark _)))))), ?_⟩
  have ix : ∀ {H' : Hp} {i : Int} {v : V} {R : VK}, Same H H' → atI [V.ref d, .int m] i = some v → R v H' → rIx K (.ref p) (.int i) H' R := fun s e r => by
    rcases hp.same s with h | h
    · exact .inl ⟨p, _, _, _, rfl, rfl, SqL.of h, e, r⟩
    · exact .inr (.inl ⟨p, _, _, _, rfl, rfl, SqT.of h, e, r⟩)
  refine ⟨_, rfl, p, _, _, rfl, hp, fun H1 k1 => ⟨_, rfl, iteF ?_⟩⟩
  refine ⟨_, rfl, _, rfl, ix k1 rfl ⟨c, d, ns, kvs, rfl, hc.same k1, k1 _ _ hd, knd, sub, sh, fun H2 k2 => ⟨_, rfl, iteF ?_⟩⟩⟩
  have k02 := k1.trans k2
  refine ⟨_, rfl, ix k02 rfl ⟨m, rfl, _, rfl, iteF ?_⟩⟩
  refine ⟨_, rfl, ix k02 rfl ⟨rfl, ?_⟩⟩
  by_cases h : m = 0
  · exact ⟨true, congrArg V.bl (decide_eq_true (congrArg V.int h)), iteT (hq _ k02)⟩
  · refine ⟨false, congrArg V.bl (decide_eq_false (fun z => h (V.int.inj z))), iteF ?_⟩
    have h2 : 2 ≤ m := hm.elim (fun z => absurd z h) id
    refine ⟨_, rfl, ix k02 rfl ⟨_, _, rfl, rfl, ?_⟩⟩
    have z := hq _ k02
    rw [← decide_eq_true h2] at z
    exact z
end
end L2.TB
/-! Sums: what it holds, __init__ -/
namespace L2.TB
open PySem PySem.Spec PyProof.Rows
theorem map_snocN {α β : Type} (f : α → β) {l : List α} {x : α} : (l ++ [x]).map f = l.map f ++ [f x] := by rw [List.map_append]; rfl
theorem dc_madeN {J : It} {g : TG} {tt : TT} {tk tv : TE} {vs : List Nat} {σ : St} {H1 : Hp} {Q : Addr → Hp → Prop} (ks : List Key) (short : ks.length < 1000000) (unlike : ks.Nodup) (go : ∀ i H, Same H1 H → i < ks.length → J.go i H) (stop : ∀ H, Same H1 H → J.stop ks.length H)
    (R : Nat → V → Hp → Prop) (stays : ∀ i y H H' D l, R i y H → H D = some (.dK l) → (∀ b o, b ≠ D → H b = some o → H' b = some o) → R i y H')
    (turn : ∀ (i : Nat) (x : V) (k : Key) (H H' : Hp) (C : V → V → Hp → Prop) (N : Hp → Prop), ks[i]? = some k → Same H1 H → J.yld i H x H' → (∀ v H5, R i v H5 → Same H H5 → C (kV k) v H5) →
      g x (wipe σ vs) H' fun σ2 H2 => wipe σ2 vs = wipe σ vs ∧ tt σ2 H2 fun b H3 => if b = true then tk σ2 H3 fun y H4 => tv σ2 H4 fun z H5 => C y z H5 else N H3)
    (fin : ∀ H D kvs, H1 D = none → H D = some (.dK kvs) → kvs.map (·.1) = ks → (∀ j k y, kvs[j]? = some (k, y) → R j y H) → Same H1 H → Q D H) : DcW J g tt tk tv vs σ H1 Q := by
  intro D nD
  refine ⟨fun i m H => m = ks.length - i ∧ i ≤ ks.length ∧ (∃ acc : List (Key × V), H D = some (.dK acc) ∧ acc.map (·.1) = ks.take i ∧ ∀ j k y, acc[j]? = some (k, y) → R j y H) ∧ Same H1 H,
    ⟨_, rfl, Nat.zero_le _, ⟨[], upd_same, by simp, fun j k y e => by simp at e⟩, same_new nD⟩, ?_⟩
  rintro i m H ⟨rfl, le, ⟨acc, oD, ea, hR⟩, s1⟩
  have la : acc.length = i := by
    have z := congrArg List.length ea
    rw [List.length_map, List.length_take] at z
    omega
  by_cases lt : i < ks.length
  · refine .inr ⟨go i H s1 lt, fun H' => (∃ acc : List (Key × V), H' D = some (.dK acc) ∧ acc.map (·.1) = ks.take (i + 1) ∧ ∀ j k y, acc[j]? = some (k, y) → R j y H') ∧ Same H1 H', fun H' h => ⟨ks.length - (i + 1), by omega, rfl, lt, h⟩, fun x H' yl => ?_⟩
    have ek : ks[i]? = some ks[i] := List.getElem?_eq_getElem lt
    have et : ks.take (i + 1) = ks.take i ++ [ks[i]] := by rw [List.take_succ, ek]; rfl
    have sp : (ks.take (i + 1)).Nodup := unlike.sublist (List.take_sublist _ _)
    rw [et, List.nodup_append] at sp
    have out : ks[i] ∉ acc.map (·.1) := fun z => sp.2.2 _ (by rw [← ea]; exact z) _ (by simp) rfl
    refine turn i x ks[i] H H' _ _ ek s1 yl fun v H5 hv s5 => ⟨acc, ks[i], rfl, s5 _ _ oD, by rw [sizeLine_eq]; omega, ⟨acc ++ [(ks[i], v)], ?_, ?_, ?_⟩, ?_⟩
    · rw [upd_same, put_last out]
    · rw [map_snocN, ea, et]
    · have keep : ∀ b o, b ≠ D → H5 b = some o → upd H5 D (.dK (putK acc ks[i] v)) b = some o := fun b o nb e => by rw [upd_ne nb]; exact e
      intro j k y e
      by_cases hj : j < acc.length
      · rw [List.getElem?_append_left hj] at e
        have a1 : R j y H5 := stays j y H H5 D acc (hR j k y e) oD fun b o _ e => s5 _ _ e
        exact stays j y H5 _ D acc a1 (s5 _ _ oD) keep
      · rw [List.getElem?_append_right (by omega)] at e
        have : j - acc.length = 0 := by
          rcases Nat.eq_zero_or_pos (j - acc.length) with z | z
          · exact z
          · rw [List.getElem?_eq_none (by simp; omega)] at e; cases e
        rw [this] at e
        cases e
        have : j = i := by omega
        rw [this]
        exact stays i v H5 _ D acc hv (s5 _ _ oD) keep
    · intro b u e
      rw [upd_ne (ne_of_none e nD)]
      exact s5 _ _ (s1 _ _ e)
  · obtain rfl : i = ks.length := by omega
    rw [List.take_length] at ea
    exact .inl ⟨stop H s1, fin H D acc nD oD ea hR s1⟩
theorem paired_of {α β : Type} {R : α → β → Prop} : ∀ (xs : List α) (ys : List β), xs.length = ys.length → (∀ (i : Nat) (x : α) (y : β), xs[i]? = some x → ys[i]? = some y → R x y) → Paired R xs ys
  | [], [], _, _ => .nil
  | x :: xs, y :: ys, l, h => .cons (h 0 x y rfl rfl) (paired_of xs ys (by simpa using l) fun i a b ea eb => h (i + 1) a b ea eb)
/-- what Sums asks of a question -/
structure SideG (us : List Str) (s : SideT) : Prop where
  nd : (s.1.map (·.1)).Nodup
  sub : ∀ e ∈ s.1, e.1 ∈ us
  mo : s.2 = 0 ∨ 2 ≤ s.2
theorem SideOk.g {us : List Str} {s : SideT} (h : SideOk us s) : SideG us s := ⟨h.nd, h.sub, h.mo.imp id (·.1)⟩
structure SumC (K : PySem.W.Frag) (C : Addr) : Prop where
  cl : Cls K C
  nU : NoAttr K C "_unknowns"
  nS : NoAttr K C "_sides"
abbrev sumF (u D : Addr) : List (Str × V) := [("_unknowns", .ref u), ("_sides", .ref D)]
/-- a question as it is kept -/
def KeptE (us : List Str) (H : Hp) (e : Key × V) (q : Str × SideT) : Prop := e.1 = Sum.inr q.1 ∧ ∃ p v, e.2 = .ref p ∧ H p = some (.tup [.ref v, .int q.2.2]) ∧ H v = some (.lst ((vecZ us q.2.1).map V.int))
structure SumAt (H : Hp) (C x : Addr) (us : List Str) (qs : List (Str × SideT)) : Prop where
  ex : ∃ dx u D es, H x = some (.ins C dx (sumF u D)) ∧ H u = some (.lst (us.map V.str)) ∧ H D = some (.dK es) ∧ Paired (KeptE us H) es qs
/-- with all that it holds in A -/
def KeptA (A : Addr → Prop) (us : List Str) (H : Hp) (e : Key × V) (q : Str × SideT) : Prop := e.1 = Sum.inr q.1 ∧ ∃ p v, e.2 = .ref p ∧ A p ∧ A v ∧ H p = some (.tup [.ref v, .int q.2.2]) ∧ H v = some (.lst ((vecZ us q.2.1).map V.int))
theorem KeptA.kept {A : Addr → Prop} {us : List Str} {H : Hp} {e : Key × V} {q : Str × SideT} (h : KeptA A us H e q) : KeptE us H e q := by
  obtain ⟨h1, p, v, h2, _, _, h3, h4⟩ := h
  exact ⟨h1, p, v, h2, h3, h4⟩
structure SumA (A : Addr → Prop) (H : Hp) (C x : Addr) (us : List Str) (qs : List (Str × SideT)) : Prop where
  ex : ∃ dx u D es, H x = some (.ins C dx (sumF u D)) ∧ A u ∧ A D ∧ H u = some (.lst (us.map V.str)) ∧ H D = some (.dK es) ∧ Paired (KeptA A us H) es qs
theorem SumA.at_ {A : Addr → Prop} {H : Hp} {C x : Addr} {us : List Str} {qs : List (Str × SideT)} (h : SumA A H C x us qs) : SumAt H C x us qs := by
  obtain ⟨dx, u, D, es, h1, _, _, h2, h3, h4⟩ := h.ex
  exact ⟨dx, u, D, es, h1, h2, h3, Paired.mapP h4 fun e q h => h.kept⟩
theorem SumA.keep {A A' : Addr → Prop} {H H' : Hp} {C x : Addr} {us : List Str} {qs : List (Str × SideT)} (h : SumA A H C x us qs) (hA : ∀ b o, H b = some o → A b → A' b) (hx : ∀ o, H x = some o → H' x = some o) (k : ∀ b o, A b → H b = some o → H' b = some o) : SumA A' H' C x us qs := by
  obtain ⟨dx, u, D, es, h1, a1, a2, h2, h3, h4⟩ := h.ex
  refine ⟨dx, u, D, es, hx _ h1, hA _ _ h2 a1, hA _ _ h3 a2, k _ _ a1 h2, k _ _ a2 h3, Paired.mapP h4 fun e q h => ?_⟩
  obtain ⟨g1, p, v, g2, a3, a4, g3, g4⟩ := h
  exact ⟨g1, p, v, g2, hA _ _ g3 a3, hA _ _ g4 a4, k _ _ a3 g3, k _ _ a4 g4⟩
theorem KeptE.keep {us : List Str} {H H' : Hp} {e : Key × V} {q : Str × SideT} (h : KeptE us H e q) (k : ∀ b o, H b = some o → ((∃ l, o = .tup l) ∨ ∃ l, o = .lst l) → H' b = some o) : KeptE us H' e q := by
  obtain ⟨h1, p, v, h2, h3, h4⟩ := h
  exact ⟨h1, p, v, h2, k _ _ h3 (.inl ⟨_, rfl⟩), k _ _ h4 (.inr ⟨_, rfl⟩)⟩
theorem SumAt.same {H H' : Hp} {C x : Addr} {us : List Str} {qs : List (Str × SideT)} (h : SumAt H C x us qs) (s : Same H H') : SumAt H' C x us qs := by
  obtain ⟨dx, u, D, es, h1, h2, h3, h4⟩ := h.ex
  exact ⟨dx, u, D, es, s _ _ h1, s _ _ h2, s _ _ h3, Paired.mapP h4 fun e q h => h.keep fun b o e _ => s b o e⟩
/-- a question as it is handed -/
def HandE (K : PySem.W.Frag) (H : Hp) (e : Key × V) (q : Str × SideT) : Prop := e.1 = Sum.inr q.1 ∧ ∃ p d, e.2 = .ref p ∧ SqA K H p [.ref d, .int q.2.2] ∧ H d = some (.dK (dkS q.2.1))
def spSInit (K : PySem.W.Frag) (C : Addr) : Sp := fun vs H Q _ => ∃ (x dx c g : Addr) (us : List Str) (qs : List (Str × SideT)) (es : List (Key × V)), vs = [.ref x, .ref c, .ref g] ∧ H x = some (.ins C dx []) ∧ SqA K H c (us.map V.str) ∧ H g = some (.dK es) ∧ Paired (HandE K H) es qs ∧
  0 < us.length ∧ us.length < 1000 ∧ us.Nodup ∧ (∀ x ∈ us, NmOk x) ∧ 0 < qs.length ∧ qs.length < 1000 ∧ (qs.map (·.1)).Nodup ∧ (∀ q ∈ qs, NmOk q.1) ∧ (∀ q ∈ qs, SideG us q.2 ∧ q.2.1.length < 1000) ∧
  ∀ H', SumA (fun b => H b = none) H' C x us qs → (∀ b o, b ≠ x → H b = some o → H' b = some o) → Q .non H'
abbrev NSi2 : List Str := ["self", "unknowns", "questions", "index", "name"]
theorem scSInit : FnScope NSi2 ["self", "unknowns", "questions"] (defScope sInit) := ⟨rfl, rfl, rfl, by decide +kernel, rfl, by decide +kernel, by decide +kernel⟩
section
variable {P : Program} {w : World} {K : PySem.W.Frag} {mg : Str → Option Value} {base : Heap} {f C fA fN fS fV : Addr} {fd fdA fdN fdS fdV : FuncData}
theorem ok_sumsInit (F : Fun K "__init__" "Sums.__init__" sInit f fd) (S : SumC K C) (FA : Fun K "first_no_name" "first_no_name" sNoName fA fdA) (gA : mg "first_no_name" = some (.ref fA)) (GA : FnOk P w K mg base CX0 2 fA fdA ["things"] (spNoName K))
    (FN : Fun K "is_name" "is_name" sIsName fN fdN) (gN : mg "is_name" = some (.ref fN)) (GN : FnOk P w K mg base CX0 1 fN fdN ["thing"] spIsName) (FS : Fun K "_is_side" "_is_side" sIsSide fS fdS) (gS : mg "_is_side" = some (.ref fS)) (GS : FnOk P w K mg base CX0 3 fS fdS ["unknowns", "thing"] (spIsSide K))
    (FV : Fun K "vector_of" "vector_of" sVec fV fdV) (gV : mg "vector_of" = some (.ref fV)) (nI : mg "isinstance" = none) (nD : mg "dict" = none) (nN : mg "len" = none) (nL : mg "list" = none) : FnOk P w K mg base CX0 4 f fd ["self", "unknowns", "questions"] (spSInit K C) := by
  have GV : FnOk P w K mg base CX0 1 fV fdV ["names", "row"] (spVec K) := ok_vec FV
  have bV := FV.binds (ps := ["names", "row"]) fun _ _ _ _ _ _ us hl => match us, hl with | [_, _], _ => rfl
  have bA := FA.binds (ps := ["things"]) fun _ _ _ _ _ _ us hl => match us, hl with | [_], _ => rfl
  have bN := FN.binds (ps := ["thing"]) fun _ _ _ _ _ _ us hl => match us, hl with | [_], _ => rfl
  have bS := FS.binds (ps := ["unknowns", "thing"]) fun _ _ _ _ _ _ us hl => match us, hl with | [_, _], _ => rfl
  refine F.ok scSInit (fun vs H Q E h => by obtain ⟨x, dx, c, g, us, qs, es, e, _⟩ := h; rw [e]; rfl) fun cdv A outer s H vs Q E hr hsp => ?_
  obtain ⟨x, dx, c, g, us, qs, es, rfl, hx, hc, hg, hp, ul0, ul1, und, unok, ql0, ql1, qnd, qnok, sok, hq⟩ := hsp
  have nd := scSInit.nd
  have hu := hu_of (hr.mono (show 1 ≤ 3 by decide))
  refine ⟨_, pss_cons (ps_set (i := 3) nd rfl (Or.inl rfl) (pe_call GA (hr.mono (by decide)) rfl gA FA.kp bA .nil pass0 (pa_cons (pv 1) pa_nil)))
    (pss_cons (ps_if (pt_cmp (pc_notN (pv 3))) (pss_one ps_never) pss_nil)
    (pss_cons (ps_if (PW.pt (pw_or (pt_not (pt_val (pe_callB (r := rIsi K) call_isi rfl nI boot_isi (pa_cons (pv 2) (pa_cons (pe_bltn (v := .ty "dict") rfl nD boot_dict' rfl) pa_nil))))) (pw_or1 (pt_cmpR op_eq (pe_callB call_lenD rfl nN boot_len (pa_cons (pv 2) pa_nil)) pe_int (nomark _))))) (pss_one ps_never) pss_nil)
    (pss_cons (ps_lock (ps_for PassesOwn.never rfl (pi_keys (pv 2)) (pg_name (i := 4) nd rfl (Or.inl rfl))
      (pss_one (ps_if (PW.pt (pw_or (pt_not (pt_val (pe_call GN (hr.mono (by decide)) rfl gN FN.kp bN .nil pass0 (pa_cons (pv 4) pa_nil)))) (pw_or1 (pt_not (pt_val (pe_call GS hr rfl gS FS.kp bS .nil pass0 (pa_cons (pv 1) (pa_cons (pe_dget hu (pv 2) (pv 4) (fun _ _ => rfl)) pa_nil)))))))) (pss_one ps_never) pss_nil))))
    (pss_cons (ps_fld (pv 0) (pe_callTy call_list_of rfl nL boot_list' (pa_cons (pv 1) pa_nil)) rfl)
    (pss_one (ps_fld (pv 0) (pe_lock (pe_dc (own := [("name", 4)]) (tt := tYes) (g := gName 4) (tk := tVar 4) (tv := tTup (tCons (tCall (spVec K) [] E0 (tCons (tVar 1) (tCons (tOp (rIx K) (tDGet (tVar 2) (tVar 4)) (tC (.int 0))) tNil))) (tCons (tOp (rIx K) (tDGet (tVar 2) (tVar 4)) (tC (.int 1))) tNil))) rfl nd (pi_keys (pv 2)) (blkOk_by (N := NSi2) (sc := defScope sInit) (by decide +kernel))
      (fun _ _ _ _ _ => pg_name (i := 4) nd rfl (Or.inl rfl)) (fun _ _ _ _ _ => pts_nil) (fun _ _ _ _ _ => pv 4)
      (fun _ _ _ _ _ => pe_tup (pa_cons (pe_call GV (hr.mono (by decide)) rfl gV FV.kp bV .nil pass0 (pa_cons (pv 1) (pa_cons (pe_ix (r := rIx K) ix_seq (pe_dget hu (pv 2) (pv 4) (fun _ _ => rfl)) pe_int (fun _ _ => rfl)) pa_nil))) (pa_cons (pe_ix (r := rIx K) ix_seq (pe_dget hu (pv 2) (pv 4) (fun _ _ => rfl)) pe_int (fun _ _ => rfl)) pa_nil))))) rfl)))))), ?_⟩
  have les : es.length = qs.length := Paired.length hp
  have kes : es.map (·.1) = (qs.map (·.1)).map Sum.inr := by
    clear hq sok qnok qnd ql1 ql0 les hg
    induction hp with
    | nil => rfl
    | cons h _ ih => rw [List.map_cons, List.map_cons, List.map_cons, ih, h.1]
  have ndes : (es.map (·.1)).Nodup := by
    rw [kes]
    exact List.Pairwise.map Sum.inr (fun a b h e => h (Sum.inr.inj e)) qnd
  refine ⟨_, rfl, c, us, rfl, hc, ul0, und, unok, ul1, fun H1 k1 => ?_⟩
  refine ⟨_, rfl, _, rfl, iteF ?_⟩
  have hg1 := k1 _ _ hg
  refine ⟨_, rfl, _, _, _, _, true, rfl, .ty _, .base (.dK hg1), kit_ty (by decide +kernel), _, rfl, iteF ?_⟩
  refine ⟨_, rfl, g, es, rfl, hg1, rfl, false, congrArg V.bl (decide_eq_false fun z => by have z := V.int.inj z; omega), iteF ?_⟩
  -- what the questions dict holds, however it is locked
  have nog : ∀ {b : Addr} {l : List V}, (H b = some (.lst l) ∨ H b = some (.tup l)) → b ≠ g := fun h z => by
    rw [z, hg] at h
    rcases h with h | h <;> cases h
  have got : ∀ (i : Nat) (k : Key) (v : V), es[i]? = some (k, v) → ∃ q p d, qs[i]? = some q ∧ k = Sum.inr q.1 ∧ v = .ref p ∧ SqA K H p [.ref d, .int q.2.2] ∧ H d = some (.dK (dkS q.2.1)) ∧ p ≠ g ∧ d ≠ g := fun i k v e => by
    obtain ⟨q, eq, h1, p, d, h2, h3, h4⟩ := paired_get hp e
    refine ⟨q, p, d, eq, h1, h2, h3, h4, nog h3, fun z => ?_⟩
    rw [z, hg] at h4
    have h5 : es = dkS q.2.1 := HO.dK.inj (Option.some.inj h4)
    have m := List.mem_of_getElem? e
    rw [h5] at m
    obtain ⟨e', _, ee⟩ := List.mem_map.mp m
    have := congrArg (·.2) ee
    have h2 : v = .ref p := h2
    rw [h2] at this
    cases this
  have cg : c ≠ g := nog hc
  refine ⟨g, _, hg1, trivial, fun od => ⟨_, rfl, g, od, rfl, .inl ⟨es, upd_same, for_it walk_keys (fun i σ H' => Same (upd H1 g (.frz od (.dK es))) H' ∧ ∃ s4, σ = [some (.ref x), some (.ref c), some (.ref g), some .non, s4]) ⟨Same.refl _, _, rfl⟩ (fun i σ H' _ h => h.1 _ _ upd_same) ?_ ?_⟩⟩⟩
  · rintro i y σ H2 H3 lt ⟨k2, s4, rfl⟩ ⟨rfl, k0, v0, ekv, rfl⟩
    obtain ⟨q, p, d, eq, rfl, rfl, h3, h4, pg, dg⟩ := got i _ _ ekv
    have up : ∀ {H' : Hp}, Same H3 H' → ∀ b o, b ≠ g → H b = some o → H' b = some o := fun s b o nb e => s _ _ (k2 _ _ (by rw [upd_ne nb]; exact k1 _ _ e))
    have qin := List.mem_of_getElem? eq
    refine ⟨_, rfl, q.1, rfl, qnok q qin, fun H4 k4 => ⟨_, rfl, iteF ?_⟩⟩
    refine ⟨_, rfl, _, rfl, _, rfl, g, _, rfl, .inl ⟨es, Sum.inr q.1, .inr ⟨od, k4 _ _ (k2 _ _ upd_same)⟩, rfl, (valV_atN ndes ekv).symm⟩, ?_⟩
    obtain ⟨so, sl⟩ := sok q qin
    refine ⟨c, p, d, us, q.2.1, q.2.2, rfl, hc.imp (fun h => up k4 _ _ cg h) (fun h => up k4 _ _ cg h), h3.imp (fun h => up k4 _ _ pg h) (fun h => up k4 _ _ pg h), up k4 _ _ dg h4, so.nd, so.sub, sl, so.mo, fun H5 k5 => ⟨_, rfl, iteF ⟨(k2.trans k4).trans k5, _, rfl⟩⟩⟩
  rintro σ H2 ⟨k2, s4, rfl⟩
  obtain ⟨e2, k12⟩ := lock_offN hg1 k2
  refine ⟨e2, ?_⟩
  have k02 := k1.trans k12
  generalize upd H2 g (.dK es) = H3 at k02 k12
  -- the unknowns
  refine ⟨_, rfl, c, _, rfl, (hc.same k02).imp SqL.of SqT.of, fun u nu => ?_⟩
  have ku := same_new (o := .lst (us.map V.str)) nu
  have ou : upd H3 u (.lst (us.map V.str)) u = some (.lst (us.map V.str)) := upd_same
  have k04 := k02.trans ku
  generalize upd H3 u (.lst (us.map V.str)) = H4 at ku ou k04
  have hx4 := k04 _ _ hx
  refine ⟨_, rfl, x, C, dx, _, rfl, hx4, S.cl, S.nU, by decide, ?_⟩
  have hx5 : upd H4 x (.ins C dx (putF "_unknowns" (.ref u) [])) x = some (.ins C dx (putF "_unknowns" (.ref u) [])) := upd_same
  have up5 : ∀ b o, b ≠ x → H4 b = some o → upd H4 x (.ins C dx (putF "_unknowns" (.ref u) [])) b = some o := fun b o nb e => by rw [upd_ne nb]; exact e
  generalize upd H4 x (.ins C dx (putF "_unknowns" (.ref u) [])) = H5 at hx5 up5
  have nox : ∀ {b : Addr} {o : HO}, H b = some o → (∀ d f, o ≠ .ins C d f) → b ≠ x := fun h n z => by
    rw [z, hx] at h
    exact n _ _ (Option.some.inj h).symm
  have up05 : ∀ b o, b ≠ x → H b = some o → H5 b = some o := fun b o nb e => up5 b o nb (k04 _ _ e)
  have ux : u ≠ x := fun z => by rw [z, hx4] at ou; cases ou
  have ou5 := up5 _ _ ux ou
  have gx : g ≠ x := nox hg (fun _ _ z => by cases z)
  have cx : c ≠ x := by
    rcases hc with h | h
    · exact nox h (fun _ _ z => by cases z)
    · exact nox h (fun _ _ z => by cases z)
  have hg5 := up05 _ _ gx hg
  -- the questions
  refine ⟨g, _, hg5, trivial, fun od2 => ⟨_, rfl, g, od2, rfl, .inl ⟨es, upd_same, ?_⟩⟩⟩
  have oL : upd H5 g (.frz od2 (.dK es)) g = some (.frz od2 (.dK es)) := upd_same
  refine dc_madeN (es.map (·.1)) (by rw [List.length_map]; omega) ndes (fun i H' s lt => ⟨s _ _ oL, by rw [List.length_map] at lt; exact lt⟩) (fun H' s => ⟨s _ _ oL, by rw [List.length_map]; exact Nat.le_refl _⟩)
    (fun i y H' => ∃ q p v, qs[i]? = some q ∧ y = V.ref p ∧ H p = none ∧ H v = none ∧ H' p = some (.tup [.ref v, .int q.2.2]) ∧ H' v = some (.lst ((vecZ us q.2.1).map V.int))) ?_ ?_ ?_
  · rintro i y H6 H7 d l ⟨q, p, v, e1, rfl, n1, n2, e2, e3⟩ od keep
    exact ⟨q, p, v, e1, rfl, n1, n2, keep _ _ (fun z => by rw [z, od] at e2; cases e2) e2, keep _ _ (fun z => by rw [z, od] at e3; cases e3) e3⟩
  · rintro i y k H6 H7 Cn Nn ek s6 ⟨rfl, k2, v0, ek2, rfl⟩ yes
    rw [List.getElem?_map, ek2] at ek
    obtain rfl : k2 = k := Option.some.inj ek
    obtain ⟨q, p, d, eq, rfl, rfl, h3, h4, pg, dg⟩ := got i _ _ ek2
    have px : p ≠ x := by
      rcases h3 with h | h
      · exact nox h (fun _ _ z => by cases z)
      · exact nox h (fun _ _ z => by cases z)
    have dx' : d ≠ x := nox h4 (fun _ _ z => by cases z)
    have up : ∀ {H' : Hp}, Same H7 H' → ∀ b o, b ≠ g → b ≠ x → H b = some o → H' b = some o := fun s b o n1 n2 e => s _ _ (s6 _ _ (by rw [upd_ne n1]; exact up05 b o n2 e))
    have ixp : ∀ {H' : Hp} {i : Int} {v : V} {R : VK}, Same H7 H' → atI [V.ref d, .int q.2.2] i = some v → R v H' → rIx K (.ref p) (.int i) H' R := fun s e r => by
      rcases h3 with h | h
      · exact .inl ⟨p, _, _, _, rfl, rfl, SqL.of (up s _ _ pg px h), e, r⟩
      · exact .inr (.inl ⟨p, _, _, _, rfl, rfl, SqT.of (up s _ _ pg px h), e, r⟩)
    have dgt : ∀ {H' : Hp}, Same H7 H' → DGet H' g (.str q.1) (some (.ref p)) := fun s => .inl ⟨es, Sum.inr q.1, .inr ⟨od2, s _ _ (s6 _ _ oL)⟩, rfl, (valV_atN ndes ek2).symm⟩
    refine ⟨rfl, ?_⟩
    refine ⟨_, rfl, _, rfl, _, rfl, _, rfl, g, _, rfl, dgt (Same.refl _), ixp (Same.refl _) rfl ?_⟩
    refine ⟨c, d, us, q.2.1, rfl, hc.imp (fun h => up (Same.refl _) _ _ cg cx h) (fun h => up (Same.refl _) _ _ cg cx h), up (Same.refl _) _ _ dg dx' h4, ul1, fun H8 v k8 nv ov => ?_⟩
    refine ⟨_, rfl, _, rfl, g, _, rfl, dgt k8, ixp k8 rfl ⟨(by show 2 ≤ sizeLine; decide), fun T nT => ?_⟩⟩
    have kT := same_new (o := .tup [.ref v, .int q.2.2]) nT
    have low : ∀ b, H8 b = none → H b = none := fun b n => by
      cases e : H b with
      | none => rfl
      | some o =>
        by_cases bx : b = x
        · rw [bx, k8 _ _ (s6 _ _ (by rw [upd_ne (Ne.symm gx)]; exact hx5))] at n
          cases n
        · by_cases bg : b = g
          · rw [bg, k8 _ _ (s6 _ _ oL)] at n
            cases n
          · rw [up k8 b o bg bx e] at n
            cases n
    have nv' : H v = none := by
      cases e : H v with
      | none => rfl
      | some o =>
        by_cases bx : v = x
        · rw [bx, s6 _ _ (by rw [upd_ne (Ne.symm gx)]; exact hx5)] at nv
          cases nv
        · by_cases bg : v = g
          · rw [bg, s6 _ _ oL] at nv
            cases nv
          · rw [up (Same.refl _) v o bg bx e] at nv
            cases nv
    exact yes _ _ ⟨q, T, v, eq, rfl, low T nT, nv', upd_same, kT _ _ ov⟩ (k8.trans kT)
  · intro H6 D kvs2 nD oD ek2 hR s6
    obtain ⟨b1, s56⟩ := lock_offN hg5 s6
    have Dg : D ≠ g := fun z => by rw [z, upd_same] at nD; cases nD
    have nD5 : H5 D = none := by rw [upd_ne Dg] at nD; exact nD
    refine ⟨b1, ?_⟩
    have upl : ∀ {b : Addr} {o : HO}, H6 b = some o → (∀ a f, o ≠ .frz a f) → upd H6 g (.dK es) b = some o := fun h n => by
      rw [upd_ne (fun z => by rw [z, b1] at h; exact n _ _ (Option.some.inj h).symm)]
      exact h
    have oD7 := upl oD (fun _ _ z => by cases z)
    have hx7 := s56 _ _ hx5
    refine ⟨_, rfl, x, C, dx, _, rfl, hx7, S.cl, S.nS, by show 1 < 1000; decide, ?_⟩
    have up8 : ∀ b o, b ≠ x → upd H6 g (.dK es) b = some o → upd (upd H6 g (.dK es)) x (.ins C dx (putF "_sides" (.ref D) (putF "_unknowns" (.ref u) []))) b = some o := fun b o nb e => by rw [upd_ne nb]; exact e
    have Dx : D ≠ x := fun z => by rw [z, hx5] at nD5; cases nD5
    have nD0 : H D = none := by
      cases e : H D with
      | none => rfl
      | some o =>
        by_cases bx : D = x
        · exact absurd bx Dx
        · rw [up05 D o bx e] at nD5
          cases nD5
    refine hq _ ⟨dx, u, D, kvs2, ?_, k02.free nu, nD0, up8 _ _ ux (s56 _ _ ou5), up8 _ _ Dx oD7, ?_⟩ fun b o nb e => up8 b o nb (s56 _ _ (up05 b o nb e))
    · rw [upd_same]
      rfl
    · refine paired_of _ _ (by have z := congrArg List.length ek2; rw [List.length_map, List.length_map] at z; omega) fun j e q e1 e2 => ?_
      obtain ⟨q', p, v, e3, e4, n1, n2, e5, e6⟩ := hR j e.1 e.2 e1
      rw [e2] at e3
      obtain rfl := Option.some.inj e3
      have ekj : e.1 = Sum.inr q.1 := by
        have z := congrArg (fun l => l[j]?) (ek2.trans kes)
        simp only [List.getElem?_map, e1, e2, Option.map_some] at z
        exact Option.some.inj z
      have h1 := upl e5 (fun _ _ z => by cases z)
      have h2 := upl e6 (fun _ _ z => by cases z)
      exact ⟨ekj, p, v, e4, n1, n2, up8 _ _ (fun z => by rw [z, hx7] at h1; cases h1) h1, up8 _ _ (fun z => by rw [z, hx7] at h2; cases h2) h2⟩
end
end L2.TB
/-! Sums: questions, unknowns, home -/
namespace L2.TB
open PySem PySem.Spec PyProof.Rows
def spSQs (C : Addr) : Sp := fun vs H Q _ => ∃ (x : Addr) (us : List Str) (qs : List (Str × SideT)), vs = [.ref x] ∧ SumAt H C x us qs ∧ ∀ H' q, H q = none → H' q = some (.lst ((qs.map (·.1)).map V.str)) → Same H H' → Q (.ref q) H'
def spSUnk (C : Addr) : Sp := fun vs H Q _ => ∃ (x : Addr) (us : List Str) (qs : List (Str × SideT)), vs = [.ref x] ∧ SumAt H C x us qs ∧ ∀ H' q, H q = none → H' q = some (.lst (us.map V.str)) → Same H H' → Q (.ref q) H'
def spSHome (C : Addr) : Sp := fun vs H Q _ => ∃ (x : Addr) (us : List Str) (qs : List (Str × SideT)), vs = [.ref x] ∧ SumAt H C x us qs ∧ us.Nodup ∧ us.length < 1000 ∧ ∀ H' q, H q = none → H' q = some (.dK (dkS (us.map fun n => (n, (0 : Int))))) → Same H H' → Q (.ref q) H'
theorem scSQs : FnScope ["self"] ["self"] (defScope sQs) := ⟨rfl, rfl, rfl, by decide +kernel, rfl, by decide +kernel, by decide +kernel⟩
theorem scSUnk : FnScope ["self"] ["self"] (defScope sUnk) := ⟨rfl, rfl, rfl, by decide +kernel, rfl, by decide +kernel, by decide +kernel⟩
theorem scSHome : FnScope ["self", "name"] ["self"] (defScope sHome) := ⟨rfl, rfl, rfl, by decide +kernel, rfl, by decide +kernel, by decide +kernel⟩
section
variable {P : Program} {w : World} {K : PySem.W.Frag} {mg : Str → Option Value} {base : Heap} {f C : Addr} {fd : FuncData}
theorem ok_sQs (F : Fun K "questions" "Sums.questions" sQs f fd) (S : SumC K C) (nL : mg "list" = none) : FnOk P w K mg base CX0 1 f fd ["self"] (spSQs C) := by
  refine F.ok scSQs (fun vs H Q E h => by obtain ⟨x, us, qs, e, _⟩ := h; rw [e]; rfl) fun cdv A outer s H vs Q E hr hsp => ?_
  obtain ⟨x, us, qs, rfl, hx, hq⟩ := hsp
  obtain ⟨dx, u, D, es, h1, h2, h3, h4⟩ := hx.ex
  refine ⟨_, pss_one (ps_ret (pe_callTy (call_listD rfl) rfl nL boot_list' (pa_cons (pe_fld (pv 0) rfl) pa_nil))), ?_⟩
  refine ⟨_, rfl, x, C, dx, _, _, rfl, h1, S.cl, S.nS, rfl, D, es, rfl, .inl h3, fun q nq => hq _ q nq ?_ (same_new nq)⟩
  have ek : (es.map fun kv => kV kv.1) = (qs.map (·.1)).map V.str := by
    have z : es.map (·.1) = (qs.map (·.1)).map Sum.inr := by
      clear hq h3 h1 h2 hx
      induction h4 with
      | nil => rfl
      | cons h _ ih => rw [List.map_cons, List.map_cons, List.map_cons, ih, h.1]
    have z2 := congrArg (List.map kV) z
    rw [List.map_map, List.map_map] at z2
    exact z2
  rw [ek]
  exact upd_same
theorem ok_sUnk (F : Fun K "unknowns" "Sums.unknowns" sUnk f fd) (S : SumC K C) (nL : mg "list" = none) : FnOk P w K mg base CX0 1 f fd ["self"] (spSUnk C) := by
  refine F.ok scSUnk (fun vs H Q E h => by obtain ⟨x, us, qs, e, _⟩ := h; rw [e]; rfl) fun cdv A outer s H vs Q E hr hsp => ?_
  obtain ⟨x, us, qs, rfl, hx, hq⟩ := hsp
  obtain ⟨dx, u, D, es, h1, h2, h3, h4⟩ := hx.ex
  refine ⟨_, pss_one (ps_ret (pe_callTy call_list_of rfl nL boot_list' (pa_cons (pe_fld (pv 0) rfl) pa_nil))), ?_⟩
  exact ⟨_, rfl, x, C, dx, _, _, rfl, h1, S.cl, S.nU, rfl, u, _, rfl, .inl (SqL.of h2), fun q nq => hq _ q nq upd_same (same_new nq)⟩
theorem ok_sHome (F : Fun K "home" "Sums.home" sHome f fd) (S : SumC K C) : FnOk P w K mg base CX0 1 f fd ["self"] (spSHome C) := by
  refine F.ok scSHome (fun vs H Q E h => by obtain ⟨x, us, qs, e, _⟩ := h; rw [e]; rfl) fun cdv A outer s H vs Q E hr hsp => ?_
  obtain ⟨x, us, qs, rfl, hx, und, ul, hq⟩ := hsp
  obtain ⟨dx, u, D, es, h1, h2, h3, h4⟩ := hx.ex
  have nd := scSHome.nd
  refine ⟨_, pss_one (ps_ret (pe_dc (own := [("name", 1)]) (tt := tYes) (g := gName 1) (tk := tVar 1) (tv := tC (.int 0)) rfl nd (pi_list (pe_fld (pv 0) rfl)) (blkOk_by (N := ["self", "name"]) (sc := defScope sHome) (by decide +kernel)) (fun _ _ _ _ _ => pg_name (i := 1) nd rfl (Or.inl rfl)) (fun _ _ _ _ _ => pts_nil) (fun _ _ _ _ _ => pv 1) (fun _ _ _ _ _ => pe_int))), ?_⟩
  have ndk : (us.map (Sum.inr : Str → Key)).Nodup := List.Pairwise.map Sum.inr (fun a b h e => h (Sum.inr.inj e)) und
  refine ⟨_, rfl, x, C, dx, _, _, rfl, h1, S.cl, S.nU, rfl, u, rfl, ⟨_, SqL.of h2⟩, ?_⟩
  refine dc_madeN (us.map Sum.inr) (by rw [List.length_map]; omega) ndk (fun i H' s lt => ⟨us.map V.str, _, SqL.of (s _ _ h2), List.getElem?_eq_getElem (by rw [List.length_map] at lt ⊢; exact lt)⟩) (fun H' s => ⟨us.map V.str, SqL.of (s _ _ h2), by rw [List.length_map, List.length_map]; exact Nat.le_refl _⟩)
    (fun i y H' => y = V.int 0) (fun i y H6 H7 d l h _ _ => h) ?_ ?_
  · rintro i y k H6 H7 Cn Nn ek s6 ⟨rfl, ey⟩ yes
    have ey := ey _ (SqL.of (s6 _ _ h2))
    rw [List.getElem?_map] at ek ey
    obtain ⟨n, en, rfl⟩ := Option.map_eq_some_iff.mp ek
    rw [en] at ey
    obtain rfl := Option.some.inj ey
    exact ⟨rfl, _, rfl, yes _ _ rfl (Same.refl _)⟩
  · intro H6 D2 kvs nD oD ek2 hR s6
    refine hq H6 D2 nD ?_ s6
    rw [oD]
    congr 2
    refine List.ext_getElem? fun j => ?_
    have lk : kvs.length = us.length := by
      have z := congrArg List.length ek2
      rw [List.length_map, List.length_map] at z
      exact z
    by_cases hj : j < us.length
    · obtain ⟨⟨k, v⟩, e1⟩ : ∃ e, kvs[j]? = some e := ⟨kvs[j]'(by omega), List.getElem?_eq_getElem _⟩
      have z := congrArg (fun l => l[j]?) ek2
      simp only [List.getElem?_map, e1, List.getElem?_eq_getElem hj, Option.map_some] at z
      have v0 : v = V.int 0 := hR j k v e1
      obtain rfl : k = Sum.inr us[j] := Option.some.inj z
      subst v0
      rw [e1]
      unfold dkS
      rw [List.getElem?_map, List.getElem?_map, List.getElem?_eq_getElem hj]
      rfl
    · rw [List.getElem?_eq_none (by omega), List.getElem?_eq_none (by unfold dkS; rw [List.length_map, List.length_map]; omega)]
end
end L2.TB
/-! has_just in any order, Sums._is_world -/
namespace L2.TB
open PySem PySem.Spec PyProof.Rows
theorem const_mapN (xs : List Str) : ((xs.map V.str).filter fun _ => true).map (fun _ => V.bl true) = bools xs.length := by
  rw [List.filter_eq_self.mpr (fun _ _ => rfl), List.map_map]
  unfold bools
  induction xs with
  | nil => rfl
  | cons a l ih => rw [List.map_cons, ih, List.length_cons, List.replicate_succ]; rfl
/-- a world: just the unknowns, in any order -/
structure WldAt (H : Hp) (d : Addr) (us : List Str) (kvs : List (Str × Int)) : Prop where
  o : H d = some (.dK (dkS kvs))
  pm : (kvs.map (·.1)).Perm us
  nd : us.Nodup
  sh : us.length < 1000
theorem WldAt.same {H H' : Hp} {d : Addr} {us : List Str} {kvs : List (Str × Int)} (h : WldAt H d us kvs) (s : Same H H') : WldAt H' d us kvs := ⟨s _ _ h.o, h.pm, h.nd, h.sh⟩
theorem WldAt.get {H : Hp} {d : Addr} {us : List Str} {kvs : List (Str × Int)} (h : WldAt H d us kvs) {x : Str} (xin : x ∈ us) : ∃ z, valV (dkS kvs) (Sum.inr x) = some (.int z) := by
  obtain ⟨e, he, e1⟩ := List.mem_map.mp (h.pm.mem_iff.mpr xin)
  obtain ⟨j, hj⟩ := List.getElem?_of_mem he
  obtain ⟨_, e2⟩ := val_at_dkS (h.pm.nodup_iff.mpr h.nd) hj
  rw [e1] at e2
  exact ⟨_, e2⟩
def spJustP : Sp := fun vs H Q _ => ∃ (d c : Addr) (us : List Str) (kvs : List (Str × Int)), vs = [.ref d, .ref c] ∧ WldAt H d us kvs ∧ H c = some (.lst (us.map V.str)) ∧ ∀ H', Same H H' → Q (.bl true) H'
def spIsWorldS (C : Addr) : Sp := fun vs H Q _ => ∃ (x d : Addr) (us : List Str) (qs : List (Str × SideT)) (kvs : List (Str × Int)), vs = [.ref x, .ref d] ∧ SumAt H C x us qs ∧ WldAt H d us kvs ∧ ∀ H', Same H H' → Q (.bl true) H'
theorem scIsWorldS : FnScope ["self", "thing", "name"] ["self", "thing"] (defScope sIsWorld) := ⟨rfl, rfl, rfl, by decide +kernel, rfl, by decide +kernel, by decide +kernel⟩
section
variable {P : Program} {w : World} {K : PySem.W.Frag} {mg : Str → Option Value} {base : Heap} {f fJ fI C : Addr} {fd fdJ fdI : FuncData}
theorem ok_justP (F : Fun K "has_just" "has_just" sHasJust f fd) (gI : mg "isinstance" = none) (gD : mg "dict" = none) (gN : mg "len" = none) (gA : mg "all" = none) : FnOk P w K mg base CX0 1 f fd ["thing", "names"] spJustP := by
  refine F.ok scHasJust (fun vs H Q E h => by obtain ⟨d, c, us, kvs, e, _⟩ := h; rw [e]; rfl) fun cdv A outer s H vs Q E hr hsp => ?_
  obtain ⟨d, c, us, kvs, rfl, wd, hc, hq⟩ := hsp
  have nd := scHasJust.nd
  have hu := hu_of hr
  refine ⟨_, pss_one (ps_ret (pe_and (pe_callB (r := rIsi K) call_isi rfl gI boot_isi (pa_cons (pv 0) (pa_cons (pe_bltn (v := .ty "dict") rfl gD boot_dict' rfl) pa_nil))) (pe_and (pe_cmpR op_eq (pe_callB call_lenD rfl gN boot_len (pa_cons (pv 0) pa_nil)) (pe_callB call_len_seq rfl gN boot_len (pa_cons (pv 1) pa_nil)) (nomark _))
    (pe_one (pe_callB (cr_all rfl) rfl gA boot_allN (pa_cons (pe_lc (own := [("name", 2)]) (tt := tYes) rfl nd (pi_seq (pv 1)) (blkOk_by (N := NHj) (sc := defScope sHasJust) (by decide +kernel)) (fun _ _ _ _ _ => pg_name (i := 2) nd rfl (Or.inl rfl)) (fun _ _ _ _ _ => pts_nil)
      (fun _ _ _ _ _ => pe_cmp (pc_din hu (pv 2) (pv 0)))) pa_nil)))))), ?_⟩
  have lk : (dkS kvs).length = us.length := by
    have z := wd.pm.length_eq
    rw [List.length_map] at z
    unfold dkS
    rw [List.length_map]
    exact z
  have sh := wd.sh
  refine ⟨_, rfl, _, _, _, _, true, rfl, .ty _, .base (.dK wd.o), kit_ty (by decide +kernel), _, rfl, iteT ?_⟩
  refine ⟨_, rfl, d, _, rfl, wd.o, _, rfl, c, _, rfl, .inl (SqL.of hc), rfl, true, congrArg V.bl (decide_eq_true (by rw [List.length_map, lk])), iteT ?_⟩
  refine ⟨_, rfl, lc_seq (.inl rfl) hc (by rw [List.length_map]; omega) (fun _ => true) (fun _ => .bl true) ?_ ?_⟩
  · rintro i v H2 Cn Nn ev s2 yes no
    rw [List.getElem?_map] at ev
    obtain ⟨x, ex, rfl⟩ := Option.map_eq_some_iff.mp ev
    obtain ⟨z, ez⟩ := wd.get (List.mem_of_getElem? ex)
    refine ⟨rfl, ?_⟩
    refine ⟨_, rfl, _, rfl, d, _, rfl, DGet.k (k := Sum.inr x) (s2 _ _ wd.o), ?_⟩
    rw [ez]
    exact yes rfl H2 (Same.refl _)
  · intro H2 D nD oD s2
    rw [const_mapN, bools_map] at oD
    refine ⟨D, _, rfl, SqL.of oD, ?_⟩
    rw [all_true]
    exact hq H2 s2
theorem ok_isWorldS (F : Fun K "_is_world" "Sums._is_world" sIsWorld f fd) (S : SumC K C) (FJ : Fun K "has_just" "has_just" sHasJust fJ fdJ) (gJ : mg "has_just" = some (.ref fJ)) (FI : Fun K "is_integer" "is_integer" sIsInt fI fdI) (gIn : mg "is_integer" = some (.ref fI)) (gI : mg "isinstance" = none) (gInt : mg "int" = none) (gB : mg "bool" = none) (gD : mg "dict" = none) (gN : mg "len" = none) (gA : mg "all" = none) :
    FnOk P w K mg base CX0 2 f fd ["self", "thing"] (spIsWorldS C) := by
  have GJ : FnOk P w K mg base CX0 1 fJ fdJ ["thing", "names"] spJustP := ok_justP FJ gI gD gN gA
  have bJ := FJ.binds (ps := ["thing", "names"]) fun _ _ _ _ _ _ us hl => match us, hl with | [_, _], _ => rfl
  have GI : FnOk P w K mg base CX0 1 fI fdI ["thing"] spIsInt := ok_isInt FI gI gInt gB
  have bI := FI.binds (ps := ["thing"]) fun _ _ _ _ _ _ us hl => match us, hl with | [_], _ => rfl
  refine F.ok scIsWorldS (fun vs H Q E h => by obtain ⟨x, d, us, qs, kvs, e, _⟩ := h; rw [e]; rfl) fun cdv A outer s H vs Q E hr hsp => ?_
  obtain ⟨x, d, us, qs, kvs, rfl, hx, wd, hq⟩ := hsp
  obtain ⟨dx, u, D, es, h1, h2, h3, h4⟩ := hx.ex
  have nd := scIsWorldS.nd
  have hu := hu_of hr
  refine ⟨_, pss_one (ps_ret (pe_and (pe_call GJ hr rfl gJ FJ.kp bJ .nil pass0 (pa_cons (pv 1) (pa_cons (pe_fld (pv 0) rfl) pa_nil)))
    (pe_one (pe_callB (cr_all rfl) rfl gA boot_allN (pa_cons (pe_lc (own := [("name", 2)]) (g := gName 2) (tt := tYes) (te := tCall spIsInt [] E0 (tCons (tDGet (tVar 1) (tVar 2)) tNil)) rfl nd (pi_seq (pe_fld (pv 0) rfl)) (blkOk_by (N := ["self", "thing", "name"]) (sc := defScope sIsWorld) (by decide +kernel)) (fun _ _ _ _ _ => pg_name (i := 2) nd rfl (Or.inl rfl)) (fun _ _ _ _ _ => pts_nil)
      (fun _ _ _ _ _ => pe_call GI hr rfl gIn FI.kp bI .nil pass0 (pa_cons (pe_dget hu (pv 1) (pv 2) (fun _ _ => rfl)) pa_nil))) pa_nil))))), ?_⟩
  have sh := wd.sh
  refine ⟨_, rfl, _, rfl, x, C, dx, _, _, rfl, h1, S.cl, S.nU, rfl, d, u, us, kvs, rfl, wd, h2, fun H1 k1 => ⟨true, rfl, iteT ?_⟩⟩
  refine ⟨_, rfl, x, C, dx, _, _, rfl, k1 _ _ h1, S.cl, S.nU, rfl, lc_seq (.inl rfl) (k1 _ _ h2) (by rw [List.length_map]; omega) (fun _ => true) (fun _ => .bl true) ?_ ?_⟩
  · rintro i v H2 Cn Nn ev s2 yes no
    rw [List.getElem?_map] at ev
    obtain ⟨n, en, rfl⟩ := Option.map_eq_some_iff.mp ev
    obtain ⟨z, ez⟩ := wd.get (List.mem_of_getElem? en)
    refine ⟨rfl, ?_⟩
    exact ⟨_, rfl, _, rfl, d, _, rfl, .inl ⟨_, Sum.inr n, .inl (s2 _ _ (k1 _ _ wd.o)), rfl, ez.symm⟩, z, rfl, yes rfl H2 (Same.refl _)⟩
  · intro H2 D nD oD s2
    rw [const_mapN, bools_map] at oD
    refine ⟨D, _, rfl, SqL.of oD, ?_⟩
    rw [all_true]
    exact hq H2 (k1.trans s2)
end
end L2.TB
/-! Sums.answers -/
namespace L2.TB
open PySem PySem.Spec PyProof.Rows
def ansZ (us : List Str) (kvs : List (Str × Int)) (s : SideT) : Int := remZ (dotZ (vecZ us s.1) (vecZ us kvs)) s.2
theorem vec_ok {us : List Str} {kvs : List (Str × Int)} (h : ∀ e ∈ kvs, NumOk e.2) : ∀ z ∈ vecZ us kvs, NumOk z := fun z hz => by
  obtain ⟨n, _, rfl⟩ := List.mem_map.mp hz
  cases q : kvs.find? fun e => decide (e.1 = n) with
  | none => exact ⟨by decide, by decide⟩
  | some e => exact h e (List.mem_of_find?_eq_some q)
theorem vec_len (us : List Str) (kvs : List (Str × Int)) : (vecZ us kvs).length = us.length := by
  unfold vecZ
  rw [List.length_map]
def spSAns (C : Addr) : Sp := fun vs H Q _ => ∃ (x d : Addr) (us : List Str) (qs : List (Str × SideT)) (kvs : List (Str × Int)), vs = [.ref x, .ref d] ∧ SumAt H C x us qs ∧ WldAt H d us kvs ∧ (qs.map (·.1)).Nodup ∧ qs.length < 1000 ∧ (∀ q ∈ qs, SideOk us q.2) ∧
  ∀ H' p, H p = none → Same H H' → H' p = some (.dK (dkS (qs.map fun q => (q.1, ansZ us kvs q.2)))) → Q (.ref p) H'
abbrev NAn : List Str := ["self", "world", "vector", "name", "row", "modulus"]
theorem scSAns : FnScope NAn ["self", "world"] (defScope sAnswers) := ⟨rfl, rfl, rfl, by decide +kernel, rfl, by decide +kernel, by decide +kernel⟩
section
variable {P : Program} {w : World} {K : PySem.W.Frag} {mg : Str → Option Value} {base : Heap} {f fW fV fD fR C : Addr} {fd fdW fdV fdD fdR : FuncData}
theorem ok_sAns (F : Fun K "answers" "Sums.answers" sAnswers f fd) (S : SumC K C) (FW : Fun K "_is_world" "Sums._is_world" sIsWorld fW fdW) (mW : Meth K C "_is_world" fW) (GW : FnOk P w K mg base CX0 2 fW fdW ["self", "thing"] (spIsWorldS C))
    (FV : Fun K "vector_of" "vector_of" sVec fV fdV) (gV : mg "vector_of" = some (.ref fV)) (FD : Fun K "dot" "dot" sDot fD fdD) (gD : mg "dot" = some (.ref fD)) (FR : Fun K "remainder" "remainder" sRem fR fdR) (gR : mg "remainder" = some (.ref fR)) (nS : mg "sum" = none) (nZ : mg "zip" = none) : FnOk P w K mg base CX0 3 f fd ["self", "world"] (spSAns C) := by
  have bW := FW.binds (ps := ["self", "thing"]) fun _ _ _ _ _ _ us hl => match us, hl with | [_, _], _ => rfl
  have GV : FnOk P w K mg base CX0 1 fV fdV ["names", "row"] (spVec K) := ok_vec FV
  have bV := FV.binds (ps := ["names", "row"]) fun _ _ _ _ _ _ us hl => match us, hl with | [_, _], _ => rfl
  have GD : FnOk P w K mg base CX0 1 fD fdD ["one", "other"] spDot := ok_dot FD nS nZ
  have bD := FD.binds (ps := ["one", "other"]) fun _ _ _ _ _ _ us hl => match us, hl with | [_, _], _ => rfl
  have GR : FnOk P w K mg base CX0 1 fR fdR ["number", "modulus"] spRem := ok_rem FR
  have bR := FR.binds (ps := ["number", "modulus"]) fun _ _ _ _ _ _ us hl => match us, hl with | [_, _], _ => rfl
  refine F.ok scSAns (fun vs H Q E h => by obtain ⟨x, d, us, qs, kvs, e, _⟩ := h; rw [e]; rfl) fun cdv A outer s H vs Q E hr hsp => ?_
  obtain ⟨x, d, us, qs, kvs, rfl, hx, wd, qnd, ql, sok, hq⟩ := hsp
  obtain ⟨dx, u, D, es, h1, h2, h3, h4⟩ := hx.ex
  have nd := scSAns.nd
  refine ⟨_, pss_cons (ps_if (pt_not (pt_val (pe_meth (pv 0) S.cl mW GW (hr.mono (by decide)) bW .nil pass0 (pa_cons (pv 1) pa_nil)))) (pss_one ps_never) pss_nil)
    (pss_cons (ps_set (i := 2) nd rfl (Or.inr rfl) (pe_call GV (hr.mono (by decide)) rfl gV FV.kp bV .nil pass0 (pa_cons (pe_fld (pv 0) rfl) (pa_cons (pv 1) pa_nil))))
    (pss_one (ps_ret (pe_lock (pe_dc (own := [("name", 3), ("row", 4), ("modulus", 5)]) (g := gTup K 2 (gCons (gName 3) (gCons (gTup K 2 (gCons (gName 4) (gCons (gName 5) gNil))) gNil))) (tt := tYes) (tk := tVar 3) (tv := tCall spRem [] E0 (tCons (tCall spDot [] E0 (tCons (tVar 4) (tCons (tVar 2) tNil))) (tCons (tVar 5) tNil))) rfl nd (pi_items (pe_fld (pv 0) rfl)) (blkOk_by (N := NAn) (sc := defScope sAnswers) (by decide +kernel))
      (fun _ _ _ _ _ => pg_tup rfl (pgs_cons (pg_name (i := 3) nd rfl (Or.inl rfl)) (pgs_cons (pg_tup rfl (pgs_cons (pg_name (i := 4) nd rfl (Or.inl rfl)) (pgs_cons (pg_name (i := 5) nd rfl (Or.inl rfl)) pgs_nil))) pgs_nil))) (fun _ _ _ _ _ => pts_nil) (fun _ _ _ _ _ => pv 3)
      (fun _ _ _ _ _ => pe_call GR (hr.mono (by decide)) rfl gR FR.kp bR .nil pass0 (pa_cons (pe_call GD (hr.mono (by decide)) rfl gD FD.kp bD .nil pass0 (pa_cons (pv 4) (pa_cons (pv 2) pa_nil))) (pa_cons (pv 5) pa_nil)))))))), ?_⟩
  have les : es.length = qs.length := Paired.length h4
  have kes : es.map (·.1) = (qs.map (·.1)).map Sum.inr := by
    clear hq sok qnd ql les h3 h1 h2 hx
    induction h4 with
    | nil => rfl
    | cons h _ ih => rw [List.map_cons, List.map_cons, List.map_cons, ih, h.1]
  have ndes : (es.map (·.1)).Nodup := by
    rw [kes]
    exact List.Pairwise.map Sum.inr (fun a b h e => h (Sum.inr.inj e)) qnd
  have sh := wd.sh
  refine ⟨_, rfl, x, dx, _, rfl, h1, rfl, _, rfl, x, d, us, qs, kvs, rfl, hx, wd, fun H1 k1 => ⟨_, rfl, iteF ?_⟩⟩
  refine ⟨_, rfl, x, C, dx, _, _, rfl, k1 _ _ h1, S.cl, S.nU, rfl, _, rfl, u, d, us, kvs, rfl, .inl (k1 _ _ h2), k1 _ _ wd.o, sh, fun H2 v k2 nv ov => ?_⟩
  have k02 := k1.trans k2
  have h12 := k02 _ _ h1
  have h32 := k02 _ _ h3
  have h42 : Paired (KeptE us H2) es qs := Paired.mapP h4 fun e q h => h.keep fun b o e _ => k02 b o e
  have vD : v ≠ D := fun z => by rw [z, h32] at ov; cases ov
  have xD : x ≠ D := fun z => by rw [z, h32] at h12; cases h12
  refine ⟨D, _, h32, trivial, fun od => ⟨_, rfl, x, C, dx, _, _, rfl, (by rw [upd_ne xD]; exact h12), S.cl, S.nS, rfl, D, od, es, rfl, upd_same, ?_⟩⟩
  have oL : upd H2 D (.frz od (.dK es)) D = some (.frz od (.dK es)) := upd_same
  refine dc_madeN (es.map (·.1)) (by rw [List.length_map]; omega) ndes (fun i H' s lt => ⟨s _ _ oL, by rw [List.length_map] at lt; exact lt⟩) (fun H' s => ⟨s _ _ oL, by rw [List.length_map]; exact Nat.le_refl _⟩)
    (fun i y H' => ∃ q, qs[i]? = some q ∧ y = V.int (ansZ us kvs q.2)) (fun i y H6 H7 d l h _ _ => h) ?_ ?_
  · rintro i y k H6 H7 Cn Nn ek s6 ⟨T, k2', v0, ek2, rfl, nT, rfl⟩ yes
    rw [List.getElem?_map, ek2] at ek
    obtain rfl : k2' = k := Option.some.inj ek
    obtain ⟨q, eq, hk, p, vq, hv0, hp, hvq⟩ := paired_get h42 ek2
    have hk : k2' = Sum.inr q.1 := hk
    have hv0 : v0 = .ref p := hv0
    subst hk hv0
    have kT := same_new (o := .tup [kV (Sum.inr q.1), .ref p]) nT
    have up : ∀ b o, b ≠ D → H2 b = some o → upd H6 T (.tup [kV (Sum.inr q.1), .ref p]) b = some o := fun b o nb e => kT _ _ (s6 _ _ (by rw [upd_ne nb]; exact e))
    have pD : p ≠ D := fun z => by rw [z, h32] at hp; cases hp
    have vqD : vq ≠ D := fun z => by rw [z, h32] at hvq; cases hvq
    have oT : upd H6 T (.tup [kV (Sum.inr q.1), .ref p]) T = some (.tup [.str q.1, .ref p]) := upd_same
    have hp' := up _ _ pD hp
    have hvq' := up _ _ vqD hvq
    have ov' := up _ _ vD ov
    generalize upd H6 T (.tup [kV (Sum.inr q.1), .ref p]) = H8 at kT up oT hp' hvq' ov' yes ⊢
    have so := sok q (List.mem_of_getElem? eq)
    have m0 : 0 ≤ q.2.2 := by
      rcases so.mo with h | h
      · omega
      · omega
    refine ⟨T, _, rfl, SqT.of oT, rfl, _, _, rfl, _, _, rfl, ⟨p, _, rfl, SqT.of hp', rfl, _, _, rfl, _, _, rfl, rfl, ?_⟩⟩
    exact ⟨rfl, rfl, _, rfl, _, rfl, _, rfl, vq, v, _, _, rfl, hvq', ov', by rw [vec_len, vec_len], by rw [vec_len]; exact sh, vec_ok so.num, fun H9 k9 => ⟨_, rfl, _, _, rfl, m0, yes _ _ ⟨q, eq, rfl⟩ (kT.trans k9)⟩⟩
  · intro H6 D2 kvs2 nD oD ek2 hR s6
    obtain ⟨b1, s26⟩ := lock_offN h32 s6
    have Dd : D2 ≠ D := fun z => by rw [z, upd_same] at nD; cases nD
    have nD2 : H2 D2 = none := by rw [upd_ne Dd] at nD; exact nD
    refine ⟨b1, hq _ D2 (k02.free nD2) (k02.trans s26) ?_⟩
    rw [upd_ne Dd, oD]
    congr 2
    refine List.ext_getElem? fun j => ?_
    have lk : kvs2.length = qs.length := by
      have z := congrArg List.length ek2
      rw [List.length_map, List.length_map] at z
      omega
    by_cases hj : j < qs.length
    · obtain ⟨⟨k, y⟩, e1⟩ : ∃ e, kvs2[j]? = some e := ⟨kvs2[j]'(by omega), List.getElem?_eq_getElem _⟩
      obtain ⟨q, eq, ey⟩ := hR j k y e1
      have z := congrArg (fun l => l[j]?) (ek2.trans kes)
      simp only [List.getElem?_map, e1, eq, Option.map_some] at z
      obtain rfl : k = Sum.inr q.1 := Option.some.inj z
      subst ey
      rw [e1]
      unfold dkS
      rw [List.getElem?_map, List.getElem?_map, eq]
      rfl
    · rw [List.getElem?_eq_none (by omega), List.getElem?_eq_none (by unfold dkS; rw [List.length_map, List.length_map]; omega)]
end
end L2.TB
/-! Sums.row -/
namespace L2.TB
open PySem PySem.Spec PyProof.Rows
theorem dc_itN {J : It} {n : Nat} {G : Hp → Prop} {Y : Nat → Hp → V → Hp → Prop} (w : Walk J n G Y) {g : TG} {tt : TT} {tk tv : TE} {vs : List Nat} {σ : St} {H1 : Hp} {D : Addr} {Qd : Hp → Prop} (Pv : Nat → Hp → Prop) (h0 : Pv 0 (upd H1 D (.dK []))) (hG : ∀ i H, i ≤ n → Pv i H → G H)
    (hs : ∀ i x H H', i < n → Pv i H → Y i H x H' → g x (wipe σ vs) H' fun σ2 H2 => wipe σ2 vs = wipe σ vs ∧ tt σ2 H2 fun b H3 =>
      if b = true then tk σ2 H3 fun y H4 => tv σ2 H4 fun z H5 => ∃ kvs k, y = kV k ∧ H5 D = some (.dK kvs) ∧ kvs.length < sizeLine ∧ Pv (i + 1) (upd H5 D (.dK (putK kvs k z))) else Pv (i + 1) H3) (hd : ∀ H, Pv n H → Qd H) :
    ∃ W : Nat → Nat → Hp → Prop, (∃ m, W 0 m (upd H1 D (.dK []))) ∧ ∀ i m H, W i m H →
      (J.stop i H ∧ Qd H) ∨ (J.go i H ∧ ∃ Nx : Hp → Prop, (∀ H', Nx H' → ∃ m', m' < m ∧ W (i + 1) m' H') ∧ ∀ x H', J.yld i H x H' → g x (wipe σ vs) H' fun σ2 H2 => wipe σ2 vs = wipe σ vs ∧ tt σ2 H2 fun b H3 =>
        if b = true then tk σ2 H3 fun y H4 => tv σ2 H4 fun z H5 => ∃ kvs k, y = kV k ∧ H5 D = some (.dK kvs) ∧ kvs.length < sizeLine ∧ Nx (upd H5 D (.dK (putK kvs k z))) else Nx H3) := by
  refine ⟨fun i m H => m = n - i ∧ i ≤ n ∧ Pv i H, ⟨n, by simp, Nat.zero_le _, h0⟩, ?_⟩
  rintro i m H ⟨rfl, hi, p⟩
  have q := hG i H hi p
  by_cases hlt : i < n
  · refine .inr ⟨w.goes i H hlt q, Pv (i + 1), fun H' p' => ⟨n - (i + 1), by omega, rfl, hlt, p'⟩, fun x H' y => hs i x H H' hlt p (w.yields i H x H' hlt q y)⟩
  · have e : i = n := by omega
    subst e
    exact .inl ⟨w.stops H q, hd H p⟩
def rowZ (us : List Str) (kvs : List (Str × Int)) : List (Str × Int) := (us.zip (vecZ us kvs)).filter fun e => decide (e.2 ≠ 0)
def spSRow (C : Addr) : Sp := fun vs H Q _ => ∃ (x : Addr) (us : List Str) (qs : List (Str × SideT)) (nm : Str) (s : SideT), vs = [.ref x, .str nm] ∧ SumAt H C x us qs ∧ (qs.map (·.1)).Nodup ∧ us.Nodup ∧ us.length < 1000 ∧ (nm, s) ∈ qs ∧
  ∀ H' p d, H p = none → H d = none → Same H H' → H' p = some (.tup [.ref d, .int s.2]) → H' d = some (.dK (dkS (rowZ us s.1))) → Q (.ref p) H'
abbrev NRw : List Str := ["self", "name", "vector", "modulus", "unknown", "number"]
theorem scSRow : FnScope NRw ["self", "name"] (defScope sRowM) := ⟨rfl, rfl, rfl, by decide +kernel, rfl, by decide +kernel, by decide +kernel⟩
section
variable {P : Program} {w : World} {K : PySem.W.Frag} {mg : Str → Option Value} {base : Heap} {f fC C : Addr} {fd fdC : FuncData}
theorem ok_sRow (F : Fun K "row" "Sums.row" sRowM f fd) (S : SumC K C) (FC : Fun K "check_asked" "check_asked" sCkA fC fdC) (gC : mg "check_asked" = some (.ref fC)) (GC : FnOk P w K mg base CX0 2 fC fdC ["names", "asked"] spCkAD) (nZ : mg "zip" = none) : FnOk P w K mg base CX0 3 f fd ["self", "name"] (spSRow C) := by
  have bC := FC.binds (ps := ["names", "asked"]) fun _ _ _ _ _ _ us hl => match us, hl with | [_, _], _ => rfl
  refine F.ok scSRow (fun vs H Q E h => by obtain ⟨x, us, qs, nm, s, e, _⟩ := h; rw [e]; rfl) fun cdv A outer s H vs Q E hr hsp => ?_
  obtain ⟨x, us, qs, nm, sd, rfl, hx, qnd, und, ul, hin, hq⟩ := hsp
  obtain ⟨dx, u, D, es, h1, h2, h3, h4⟩ := hx.ex
  have nd := scSRow.nd
  have hu := hu_of (hr.mono (show 1 ≤ 2 by decide))
  refine ⟨_, pss_cons (ps_expr (pe_call GC hr rfl gC FC.kp bC .nil pass0 (pa_cons (pe_fld (pv 0) rfl) (pa_cons (pv 1) pa_nil))))
    (pss_cons (ps_asg (pe_dget hu (pe_fld (pv 0) rfl) (pv 1) (fun _ _ => rfl)) (pg_tup rfl (pgs_cons (pg_name (i := 2) nd rfl (Or.inl rfl)) (pgs_cons (pg_name (i := 3) nd rfl (Or.inl rfl)) pgs_nil))))
    (pss_one (ps_ret (pe_tup (pa_cons (pe_dc (own := [("unknown", 4), ("number", 5)]) (g := gTup K 2 (gCons (gName 4) (gCons (gName 5) gNil))) (tt := tTest (tOp rNe (tVar 5) (tC (.int 0)))) (tk := tVar 4) (tv := tVar 5) rfl nd (pi_zip rfl nZ (pa_cons (pe_fld (pv 0) rfl) (pa_cons (pv 2) pa_nil))) (blkOk_by (N := NRw) (sc := defScope sRowM) (by decide +kernel))
      (fun _ _ _ _ _ => pg_tup rfl (pgs_cons (pg_name (i := 4) nd rfl (Or.inl rfl)) (pgs_cons (pg_name (i := 5) nd rfl (Or.inl rfl)) pgs_nil))) (fun _ _ _ _ _ => pts_one (pt_cmpR op_ne (pv 5) pe_int (nomark _))) (fun _ _ _ _ _ => pv 4) (fun _ _ _ _ _ => pv 5)) (pa_cons (pv 3) pa_nil)))))), ?_⟩
  have kes : es.map (·.1) = (qs.map (·.1)).map Sum.inr := by
    clear hq qnd hin h3 h1 h2 hx
    induction h4 with
    | nil => rfl
    | cons h _ ih => rw [List.map_cons, List.map_cons, List.map_cons, ih, h.1]
  have ndes : (es.map (·.1)).Nodup := by
    rw [kes]
    exact List.Pairwise.map Sum.inr (fun a b h e => h (Sum.inr.inj e)) qnd
  obtain ⟨j, ej⟩ := List.getElem?_of_mem hin
  have les : es.length = qs.length := Paired.length h4
  have lj : j < es.length := by
    have := (List.getElem?_eq_some_iff.mp ej).1
    omega
  have ee : es[j]? = some es[j] := List.getElem?_eq_getElem lj
  obtain ⟨q, eq, hk, p, v, hv, hp, ov⟩ := paired_get h4 ee
  rw [ej] at eq
  obtain rfl := Option.some.inj eq
  generalize es[j] = e at ee hk hv
  obtain ⟨k, v0⟩ := e
  obtain rfl : k = Sum.inr nm := hk
  obtain rfl : v0 = .ref p := hv
  have vv := valV_atN ndes ee
  refine ⟨_, rfl, x, C, dx, _, _, rfl, h1, S.cl, S.nS, rfl, _, rfl, D, es, nm, _, rfl, .inl h3, vv, ?_⟩
  refine ⟨_, rfl, x, C, dx, _, _, rfl, h1, S.cl, S.nS, rfl, _, rfl, D, _, rfl, .inl ⟨es, Sum.inr nm, .inl h3, rfl, vv.symm⟩, p, _, rfl, SqT.of hp, rfl, _, _, rfl, _, _, rfl, rfl, ?_⟩
  have lv : (vecZ us sd.1).length = us.length := vec_len _ _
  let pz := us.zip (vecZ us sd.1)
  have lp : pz.length = us.length := by
    show (us.zip _).length = _
    rw [List.length_zip, lv]
    omega
  refine ⟨_, rfl, x, C, dx, _, _, rfl, h1, S.cl, S.nU, rfl, _, rfl, u, v, _, _, rfl, SqL.of h2, SqL.of ov, fun R nR => dc_itN (walk_zip (xs := us.map V.str) (ys := (vecZ us sd.1).map V.int) (n := us.length) (by rw [List.length_map, List.length_map, lv]; omega)) (fun i H' => H' R = some (.dK (dkS ((pz.take i).filter fun e => decide (e.2 ≠ 0)))) ∧ Same H H') ⟨upd_same, same_new nR⟩ (fun i H' _ h => ⟨SqL.of (h.2 _ _ h2), SqL.of (h.2 _ _ ov)⟩) ?_ ?_⟩
  · rintro i yv H4 H5 li ⟨oR, k4⟩ ⟨T, x1, z1, rfl, nT, rfl, ex, ez⟩
    have ex : (us.map V.str)[i]? = some x1 := ex
    have ez : ((vecZ us sd.1).map V.int)[i]? = some z1 := ez
    rw [List.getElem?_map] at ex ez
    obtain ⟨n, en, rfl⟩ := Option.map_eq_some_iff.mp ex
    obtain ⟨z, ez1, rfl⟩ := Option.map_eq_some_iff.mp ez
    have kT := same_new (o := .tup [.str n, .int z]) nT
    have ep : pz[i]? = some (n, z) := (List.getElem?_zip_eq_some (z := (n, z))).mpr ⟨en, ez1⟩
    have et : pz.take (i + 1) = pz.take i ++ [(n, z)] := by rw [List.take_succ, ep]; rfl
    have oR5 := kT _ _ oR
    refine ⟨T, _, rfl, SqT.of upd_same, rfl, _, _, rfl, _, _, rfl, rfl, rfl, ?_⟩
    generalize upd H4 T (.tup [.str n, .int z]) = H6 at kT oR5
    by_cases h : z = 0
    · refine ⟨_, rfl, rfl, false, congrArg V.bl (by rw [h]; simp), iteF ⟨?_, k4.trans kT⟩⟩
      rw [et, List.filter_append]
      simpa [h] using oR5
    · refine ⟨_, rfl, rfl, true, congrArg V.bl (by simp [h]), iteT ⟨_, rfl, _, rfl, _, Sum.inr n, rfl, oR5, ?_, ?_, fun b o e => ?_⟩⟩
      · have z1 := List.length_filter_le (fun e : Str × Int => decide (e.2 ≠ 0)) (pz.take i)
        rw [List.length_take] at z1
        rw [sizeLine_eq]
        unfold dkS
        rw [List.length_map]
        omega
      · have nout : (Sum.inr n : Key) ∉ (dkS ((pz.take i).filter fun e => decide (e.2 ≠ 0))).map (·.1) := fun hx => by
          obtain ⟨e, he, e1⟩ := List.mem_map.mp hx
          obtain ⟨e', he', rfl⟩ := List.mem_map.mp he
          have m := (List.mem_filter.mp he').1
          obtain ⟨i2, hi2, e2⟩ := List.getElem_of_mem m
          rw [List.length_take] at hi2
          have e3 : pz[i2]? = some e' := by
            rw [List.getElem_take] at e2
            rw [← e2]
            exact List.getElem?_eq_getElem _
          have e4 := (List.getElem?_zip_eq_some.mp e3).1
          have e5 : e'.1 = n := Sum.inr.inj e1
          rw [e5] at e4
          have := (List.getElem?_inj (by omega) und).mp (e4.trans en.symm)
          omega
        rw [upd_same, put_last nout, et, List.filter_append]
        unfold dkS
        rw [List.map_append]
        simp [h]
      · rw [upd_ne (ne_of_none e nR)]
        exact kT _ _ (k4 _ _ e)
  · rintro H6 ⟨oR, k6⟩
    rw [← lp, List.take_length] at oR
    refine ⟨_, rfl, (by show 2 ≤ sizeLine; decide), fun T nT => ?_⟩
    have kT := same_new (o := .tup [.ref R, .int sd.2]) nT
    exact hq _ T R (k6.free nT) nR (k6.trans kT) upd_same (kT _ _ oR)
end
end L2.TB
namespace L2.TB
open PySem PySem.Spec PyProof.Rows
/-! == and != of two of one class with an own __eq__ -/
section
variable {X : Cx} {CX : CXT} {k : Nat} {f C : Addr} {fd : FuncData} {ps : List Str} {sp : Sp} {E : XK}
def rEqI (C : Addr) (sp : Sp) (E : XK) (g : Bool → Bool) : R2 := fun x y H Q => ∃ a b dx dy fs gs, x = .ref a ∧ y = .ref b ∧ H a = some (.ins C dx fs) ∧ H b = some (.ins C dy gs) ∧ sp [.ref a, .ref b] H (fun v H' => ∃ t, v = .bl t ∧ Q (.bl (g t)) H') E
theorem rel_ref {v : V} {a : Addr} {u : Value} (e : v = .ref a) (r : RelV v u) : u = .ref a := by
  subst e
  exact r
theorem rel_bl {v : V} {t : Bool} {u : Value} (e : v = .bl t) (r : RelV v u) : u = .bool t := by
  subst e
  exact r
/-- the method's call -/
theorem call_eqI (F : FnOk X.prog X.w X.K X.mg X.base CX k f fd ps sp) {A : Around} (hr : Room k A) (hA : A.frames = X.A.frames) (hb : Binds X.K fd ps []) (hx : Passes CX X E) {pins : List (Addr × Obj)} {σ : St} {H : Hp} {s : Shared} (I : Inv X pins σ H s) {a b : Addr} {R : Bool → Hp → Prop}
    (hsp : sp [.ref a, .ref b] H (fun v H' => ∃ t, v = .bl t ∧ R t H') E) {Q : Value → Shared → Prop} (fin : ∀ t H' s', Inv X pins σ H' s' → R t H' → Q (.bool t) s') :
    wpAny (model X.prog X.w) A (call (.ref f) [.ref a, .ref b]) Q X.xe s := by
  have e0 : Env0 X.prog X.w X.K X.mg X.base A X.stack s H := by
    have z := I.env0
    exact ⟨by rw [hA]; exact z.frames, z.mod, z.bs, z.bsz, z.funs, z.frf, z.hok, z.bare⟩
  have many := F.len _ _ _ _ hsp
  have two : Vals [V.ref a, V.ref b] [Value.ref a, Value.ref b] := .cons rfl (.cons rfl .nil)
  have ok := F.run A X.stack s H ⟨[.ref a, .ref b], []⟩ [.ref a, .ref b] [.ref a, .ref b] _ E hr e0 (by simpa using hb s [.ref a, .ref b] I.kIn (by simpa using many)) two hsp
  refine wpAny_call (codeAny_mono ok fun q s' got => ?_)
  cases q with
  | error e => exact hx pins σ H s e s' I got
  | ok fl =>
    cases fl with
    | next => exact got.elim
    | brk => exact got.elim
    | cont => exact got.elim
    | ret v =>
      obtain ⟨u, H', I', ru, t, et, q⟩ := I.after got
      have ev := rel_bl et ru
      subst ev
      exact fin t H' s' I' q
theorem op_eqI (F : FnOk X.prog X.w X.K X.mg X.base CX k f fd ps sp) (hr : Room k X.A) (hm : Meth X.K C "__eq__" f) (hb : Binds X.K fd ps []) (hx : Passes CX X E) : OpR X (compareOp .Eq) (rEqI C sp E id) := by
  intro pins s σ H x y v u Q I rx ry h
  obtain ⟨a, b, dx, dy, fs, gs, rfl, rfl, ha, hb', hsp⟩ := h
  have ev := rel_ref rfl rx
  have eu := rel_ref rfl ry
  subst ev eu
  obtain ⟨mA, JA, _⟩ := ins_get I.hok ha
  obtain ⟨mB, JB, _⟩ := ins_get I.hok hb'
  obtain ⟨od, LA, _⟩ := JA.look
  obtain ⟨od', LB, _⟩ := JB.look
  obtain ⟨m, hF⟩ := I.fr
  show wpAny _ _ (richCompare .Eq (.ref a) (.ref b)) _ _ _
  refine PySem.W.cmp_K (op := .Eq) (tb := .ref C) (by have := hr.un; omega) hF I.ok.mod.kin LA LB.type (by simp [PySem.W.notFirst]) hm.at_ hm.fn ?_
  exact call_eqI F hr rfl hb hx I hsp fun t H' s' I' q => ⟨.bl t, H', I', rfl, q⟩
/-- object's own != asks for == -/
theorem op_neI (G : FnOk X.prog X.w X.K X.mg X.base CX k f fd ps sp) (hr : Room (k + 2) X.A) (hm : Meth X.K C "__eq__" f) (hne : PySem.W.findIn X.K (.ref C) "__ne__" = some (some (.builtin "object.__ne__"))) (hob : PySem.W.mroIn X.K C (.type "object") = some true)
    (hb : Binds X.K fd ps []) (hx : Passes CX X E) : OpR X (compareOp .NotEq) (rEqI C sp E fun t => !t) := by
  intro pins s σ H x y v u Q I rx ry h
  obtain ⟨a, b, dx, dy, fs, gs, rfl, rfl, ha, hb', hsp⟩ := h
  have ev := rel_ref rfl rx
  have eu := rel_ref rfl ry
  subst ev eu
  obtain ⟨mA, JA, _⟩ := ins_get I.hok ha
  obtain ⟨mB, JB, _⟩ := ins_get I.hok hb'
  obtain ⟨od, LA, _⟩ := JA.look
  obtain ⟨od', LB, _⟩ := JB.look
  have Xs := I.kIn
  have hun := hr.un
  have low : X.A.units < cLine := by omega
  have low1 : X.A.in1.units < cLine := by
    have := (hr.in1).un
    omega
  have isO : PySem.W.subIn X.K (.ref C) (.type "object") = some true := hob
  -- the builtin's run
  have body : ∀ {Q' : Value → Shared → Prop}, (∀ t H' s', Inv X pins σ H' s' → Q (.bl (!t)) H' → Q' (.bool (!t)) s') → wpAny (model X.prog X.w) X.A (call (.builtin "object.__ne__") [.ref a, .ref b]) Q' X.xe s := by
    intro Q' fin
    have inner : ∀ {Q2 : Option Value → Shared → Prop}, (∀ t H' s', Inv X pins σ H' s' → Q (.bl (!t)) H' → Q2 (some (.bool t)) s') → wpAny (model X.prog X.w) X.A.in1 (callSpecialIfBound? (.ref a) "__eq__" [.ref b]) Q2 X.xe s := by
      intro Q2 fin2
      refine PySem.W.ifBound_K Xs LA hm.at_ hm.fn (call_eqI G (hr.in1.mono (by omega)) rfl hb hx I hsp fun t H' s' I' q => fin2 t H' s' I' q)
    refine wpAny_call (codeAny_call_builtin PySem.F.cmp_object.ne.plain PySem.F.cmpEntry_ne (PySem.W.check_slot PySem.F.cmpKind_ne PySem.F.cmpSplit_ne (LA.type.andThen (PySem.W.looks_subIn Xs isO)) (PySem.F.cmpArgs_ne _ _) ?_))
    unfold Builtin.«object.__ne__»
    repeat (first | with_reducible refine wpAny_cRoomFor low1 ?_ | with_reducible refine inner fun t H' s' I' q => ?_ | wp_step)
    exact fin t H' s' I' q
  have one : wpAny (model X.prog X.w) X.A (tryCompare (.ref a) "__ne__" (.ref b)) (fun r s' => ∃ v, r = some v ∧ EP X pins σ Q v s') X.xe s := by
    have told : wpAny (model X.prog X.w) X.A (call (.builtin "object.__ne__") ([.ref a] ++ [.ref b]) >>= fun v => pure (some v)) (fun r s' => ∃ t H', r = some (.bool (!t)) ∧ Inv X pins σ H' s' ∧ Q (.bl (!t)) H') X.xe s :=
      wpAny_bind (body fun t H' s' I' q => wpAny_pure ⟨t, H', rfl, I', q⟩)
    have asked : wpAny (model X.prog X.w) X.A (callSpecialIfBound? (.ref a) "__ne__" [.ref b]) (fun r s' => ∃ t H', r = some (.bool (!t)) ∧ Inv X pins σ H' s' ∧ Q (.bl (!t)) H') X.xe s := by
      simp only [callSpecialIfBound?, bindSpecialIfBound?]
      refine wpAny_holding (wpAny_bind (wpAny_bind (wpAny_bind (LA.type.here ((PySem.W.looks_findIn Xs hne).here (wpAny_bind (wpAny_askSetting (wpAny_ite ?_))))))))
      have bd := PySem.F.cmp_object.ne.bind (.ref a)
      split
      · rw [bd]
        exact wpAny_bind (wpAny_pure (wpAny_pure told))
      · rw [bd]
        exact wpAny_tryCatch (wpAny_bind (wpAny_pure (wpAny_pure told)))
    unfold tryCompare
    refine wpAny_bind (wpAny_mono asked (fun r s' z => ?_) fun _ _ e => e)
    obtain ⟨t, H', rfl, I', q⟩ := z
    exact wpAny_pure ⟨_, rfl, .bl (!t), H', I', rfl, q⟩
  show wpAny _ _ (richCompare .NotEq (.ref a) (.ref b)) _ _ _
  unfold richCompare
  simp only [oneThing_ref]
  refine wpAny_holding (wpAny_bind (wpAny_cRoomFor low (wpAny_bind (LA.type.here (wpAny_bind (LB.type.here ?_))))))
  simp only [bne_self_eq_false, Bool.false_eq_true, if_false]
  refine wpAny_bind (wpAny_pure (wpAny_bind (wpAny_mono one (fun r s' z => ?_) fun _ _ e => e)))
  obtain ⟨v, rfl, q⟩ := z
  exact wpAny_pure q
end
/-! an own == asked about a thing of another kind -/
section
variable {X : Cx} {CX : CXT} {k : Nat} {f C : Addr} {fd : FuncData} {ps : List Str} {sp : Sp} {E : XK}
def rEqO (K : PySem.W.Frag) (C : Addr) (sp : Sp) (E : XK) : R2 := fun x y H Q => ∃ a dx fs t, x = .ref a ∧ H a = some (.ins C dx fs) ∧ TyX K H y t ∧ PySem.W.notFirst K C t = true ∧ sp [.ref a, y] H (fun v H' => ∃ b, v = .bl b ∧ Q (.bl b) H') E
theorem op_eqO (G : FnOk X.prog X.w X.K X.mg X.base CX k f fd ps sp) (hr : Room k X.A) (hm : Meth X.K C "__eq__" f) (hb : Binds X.K fd ps []) (hx : Passes CX X E) : OpR X (compareOp .Eq) (rEqO X.K C sp E) := by
  intro pins s σ H x y v u Q I rx ry h
  obtain ⟨a, dx, fs, t, rfl, ha, ty, nf, hsp⟩ := h
  have ev := rel_ref rfl rx
  subst ev
  obtain ⟨mA, JA, _⟩ := ins_get I.hok ha
  obtain ⟨od, LA, _⟩ := JA.look
  obtain ⟨m, hF⟩ := I.fr
  obtain ⟨Pt, Z, pt, _⟩ := kit_of I ry ty
  show wpAny _ _ (richCompare .Eq (.ref a) u) _ _ _
  refine PySem.W.cmp_K (op := .Eq) (tb := t) (by have := hr.un; omega) hF I.ok.mod.kin LA (Z.ty _ _ I.kIn pt) nf hm.at_ hm.fn ?_
  have z := run_fn (us := [Value.ref a, u]) (vs := [V.ref a, y]) G hr hb .nil hx I (.cons rfl (.cons ry .nil)) (by simpa using hsp)
  refine wpAny_mono z (fun r s' got => ?_) fun _ _ q => q
  obtain ⟨v0, H', I', rt, qq⟩ := got
  rcases qq with ⟨et, qq⟩ | ⟨et, qq⟩
  · have er := rel_bl et rt
    subst er
    exact ⟨.bl false, H', I', rfl, qq⟩
  · have er := rel_bl et rt
    subst er
    exact ⟨.bl true, H', I', rfl, qq⟩
end
/-! == and != of data with a Lean type -/
section
variable {X : Cx} {α : Type} [DecidableEq α] [PySem.W.Datum α]
def rEqT (α : Type) [DecidableEq α] [PySem.W.Datum α] (K : PySem.W.Frag) (g : Bool → Bool) : R2 := fun x y H Q => ∃ p q : α, Dp K H x (PySem.W.Datum.toD p) ∧ Dp K H y (PySem.W.Datum.toD q) ∧ Q (.bl (g (decide (p = q)))) H
theorem op_eqT (dp : PySem.W.Datum.depth α ≤ 60) (hu : X.A.units + 64 < cLine) : OpR X (compareOp .Eq) (rEqT α X.K id) := by
  intro pins s σ H x y v u Q I rx ry h
  obtain ⟨p, q, hp, hq, q2⟩ := h
  obtain ⟨as, r1⟩ := Dp.reads I _ x v hp rx
  obtain ⟨bs, r2⟩ := Dp.reads I _ y u hq ry
  have l1 := PySem.W.Datum.depth_le p
  have l2 := Nat.min_le_left (PySem.W.Datum.toD p).depth (PySem.W.Datum.toD q).depth
  refine SeqAt.eq_plain r1 r2 (PySem.W.Datum.plain p) (PySem.W.Datum.plain q) (by omega) ?_
  rw [PySem.W.Datum.eqv]
  exact ⟨.bl _, H, I, rfl, q2⟩
theorem op_neT (dp : PySem.W.Datum.depth α ≤ 60) (hu : X.A.units + 64 < cLine) : OpR X (compareOp .NotEq) (rEqT α X.K fun b => !b) := by
  intro pins s σ H x y v u Q I rx ry h
  obtain ⟨p, q, hp, hq, q2⟩ := h
  obtain ⟨as, r1⟩ := Dp.reads I _ x v hp rx
  obtain ⟨bs, r2⟩ := Dp.reads I _ y u hq ry
  have l1 := PySem.W.Datum.depth_le p
  have l2 := Nat.min_le_left (PySem.W.Datum.toD p).depth (PySem.W.Datum.toD q).depth
  refine SeqAt.ne_plain r1 r2 (PySem.W.Datum.plain p) (PySem.W.Datum.plain q) (by omega) ?_
  rw [PySem.W.Datum.eqv]
  exact ⟨.bl _, H, I, rfl, q2⟩
end
section
variable {K : PySem.W.Frag} {H : Hp}
theorem dp_strsN : ∀ xs : List Str, DpAll K H (xs.map V.str) (xs.map PySem.W.Datum.toD)
  | [] => .nil
  | x :: xs => .cons (.str x) (dp_strsN xs)
theorem dp_intsN : ∀ xs : List Int, DpAll K H (xs.map V.int) (xs.map PySem.W.Datum.toD)
  | [] => .nil
  | x :: xs => .cons (.int x) (dp_intsN xs)
theorem dp_strL {a : Addr} {xs : List Str} (h : H a = some (.lst (xs.map V.str))) : Dp K H (.ref a) (PySem.W.Datum.toD xs) := .lst (SqL.of h) (dp_strsN xs)
theorem dp_intL {a : Addr} {xs : List Int} (h : H a = some (.lst (xs.map V.int))) : Dp K H (.ref a) (PySem.W.Datum.toD xs) := .lst (SqL.of h) (dp_intsN xs)
end
end L2.TB
/-! the law's look whether two things are the same: texts, numbers, None, lists and tuples of these -/
namespace L2.TB
open PySem PySem.Spec PyProof.Rows
/-- what needs no heap to be told -/
inductive Atom : V → Prop
  | str (x : Str) : Atom (.str x)
  | int (i : Int) : Atom (.int i)
  | bl (b : Bool) : Atom (.bl b)
  | non : Atom .non
theorem ty_same {K : PySem.W.Frag} {H H' : Hp} {v : V} {t : String} (h : TyX K H v (.type t)) (s : Same H H') : TyX K H' v (.type t) := by
  generalize e : Value.type t = u at h
  cases h with
  | base b =>
    refine .base ?_
    cases b with
    | non => exact .non
    | bl x => exact .bl x
    | int i => exact .int i
    | str x => exact .str x
    | flt x => exact .flt x
    | lst q => exact .lst (s _ _ q)
    | frz q => exact .frz (s _ _ q)
    | tup q => exact .tup (s _ _ q)
    | dK q => exact .dK (s _ _ q)
    | dT q => exact .dT (s _ _ q)
    | ins q => cases e
  | byt b => exact .byt b
  | set q => exact .set (s _ _ q)
  | kList q c => exact .kList q c
  | kTuple q c => exact .kTuple q c
  | kDict q c => exact .kDict q c
  | fTuple q => exact .fTuple (s _ _ q)
  | fDict q => exact .fDict (s _ _ q)
theorem kit_two_n {K : PySem.W.Frag} {t : String} (h1 : kitB t "list" = some false) (h2 : kitB t "tuple" = some false) : PySem.W.kitAny K (.type t) [.type "list", .type "tuple"] = some false :=
  kitAny_cons (b := false) (kit_ty h1) (fun _ => kitAny_cons (b := false) (kit_ty h2) (fun _ => kitAny_nil) (fun z => by cases z)) (fun z => by cases z)
theorem dec_int2 (a b : Int) : decide (V.int a = V.int b) = decide (a = b) := by
  by_cases h : a = b
  · rw [h]; simp
  · rw [decide_eq_false h, decide_eq_false]
    exact fun z => h (V.int.inj z)
abbrev NSm : List Str := ["found", "due", "x", "y"]
theorem scSame : FnScope NSm ["found", "due"] (defScope sSame) := ⟨rfl, rfl, rfl, by decide +kernel, rfl, by decide +kernel, by decide +kernel⟩
/-- the names that it reads -/
structure Sm (mg : Str → Option Value) : Prop where
  nI : mg "isinstance" = none
  nL : mg "list" = none
  nT : mg "tuple" = none
  nInt : mg "int" = none
  nB : mg "bool" = none
  nN : mg "len" = none
  nA : mg "all" = none
  nZ : mg "zip" = none
/-- alike, to this depth -/
inductive AlkF (H : Hp) : Nat → V → V → Prop
  | one {v : V} (h : Atom v) : AlkF H 0 v v
  | lst {n : Nat} {a b : Addr} {xs ys : List V} (ha : H a = some (.lst xs)) (hb : H b = some (.lst ys)) (l : xs.length = ys.length) (sh : xs.length < 1000) (al : ∀ (i : Nat) (x y : V), xs[i]? = some x → ys[i]? = some y → AlkF H n x y) : AlkF H (n + 1) (.ref a) (.ref b)
  | tup {n : Nat} {a b : Addr} {xs ys : List V} (ha : H a = some (.tup xs)) (hb : H b = some (.tup ys)) (l : xs.length = ys.length) (sh : xs.length < 1000) (al : ∀ (i : Nat) (x y : V), xs[i]? = some x → ys[i]? = some y → AlkF H n x y) : AlkF H (n + 1) (.ref a) (.ref b)
  | up {n : Nat} {x y : V} (h : AlkF H n x y) : AlkF H (n + 1) x y
theorem AlkF.same {H H' : Hp} (s : Same H H') {n : Nat} {x y : V} (h : AlkF H n x y) : AlkF H' n x y := by
  induction h with
  | one h => exact .one h
  | lst ha hb l sh _ ih => exact .lst (s _ _ ha) (s _ _ hb) l sh ih
  | tup ha hb l sh _ ih => exact .tup (s _ _ ha) (s _ _ hb) l sh ih
  | up _ ih => exact .up ih
theorem kit_three_n {K : PySem.W.Frag} {t : String} (h0 : kitB t "int" = some false) (h1 : kitB t "list" = some false) (h2 : kitB t "tuple" = some false) : PySem.W.kitAny K (.type t) [.type "int", .type "list", .type "tuple"] = some false :=
  kitAny_cons (b := false) (kit_ty h0) (fun _ => kit_two_n h1 h2) (fun z => by cases z)
def spSameF (n : Nat) : Sp := fun vs H Q _ => ∃ x y : V, vs = [x, y] ∧ AlkF H n x y ∧ ∀ H', Same H H' → Q (.bl true) H'
section
variable {P : Program} {w : World} {K : PySem.W.Frag} {mg : Str → Option Value} {base : Heap} {f : Addr} {fd : FuncData}
theorem same_num (F : Fun K "_law_same" "_law_same" sSame f fd) (M : Sm mg) : FnOk P w K mg base CX0 1 f fd ["found", "due"] (fun vs H Q _ => ∃ v : V, vs = [v, v] ∧ ((∃ i, v = .int i) ∨ ∃ b, v = .bl b) ∧ ∀ H', Same H H' → Q (.bl true) H') := by
  refine F.ok scSame (fun vs H Q E h => by obtain ⟨x, e, _⟩ := h; rw [e]; rfl) fun cdv A outer s H vs Q E hr hsp => ?_
  obtain ⟨v, rfl, hv, hq⟩ := hsp
  refine ⟨_, pss_cons (ps_if (pt_val (pe_callB (r := rIsiT K) call_isiT rfl M.nI boot_isi (pa_cons (pv 1) (pa_cons (pe_tup (pa_cons (pe_bltn (v := .ty "list") rfl M.nL boot_list' rfl) (pa_cons (pe_bltn (v := .ty "tuple") rfl M.nT boot_tuple' rfl) pa_nil))) pa_nil)))) pss_never pss_nil)
    (pss_cons (ps_if (pt_val (pe_callB (r := rIsi K) call_isi rfl M.nI boot_isi (pa_cons (pv 1) (pa_cons (pe_bltn (v := .ty "int") rfl M.nInt boot_int' rfl) pa_nil)))) (pss_one (ps_ret (pe_and (pe_callB (r := rIsi K) call_isi rfl M.nI boot_isi (pa_cons (pv 0) (pa_cons (pe_bltn (v := .ty "int") rfl M.nInt boot_int' rfl) pa_nil))) (pe_and (pe_cmpR op_eq (pe_callB (r := rIsi K) call_isi rfl M.nI boot_isi (pa_cons (pv 0) (pa_cons (pe_bltn (v := .ty "bool") rfl M.nB boot_bool' rfl) pa_nil))) (pe_callB (r := rIsi K) call_isi rfl M.nI boot_isi (pa_cons (pv 1) (pa_cons (pe_bltn (v := .ty "bool") rfl M.nB boot_bool' rfl) pa_nil))) (nomark _)) (pe_one (pe_cmpR op_eq (pv 0) (pv 1) (nomark _))))))) pss_nil) pss_never), ?_⟩
  refine ⟨_, rfl, (by show 2 ≤ sizeLine; decide), fun t nt => ?_⟩
  have st := same_new (o := .tup [.ty "list", .ty "tuple"]) nt
  rcases hv with ⟨k, rfl⟩ | ⟨k, rfl⟩
  · refine ⟨_, _, _, _, _, false, rfl, upd_same, .cons (.ty _) (.cons (.ty _) .nil), .base (.int k), kit_two_n (by decide +kernel) (by decide +kernel), _, rfl, iteF ?_⟩
    refine ⟨_, rfl, _, _, _, _, true, rfl, .ty _, .base (.int k), kit_ty (by decide +kernel), _, rfl, iteT ?_⟩
    refine ⟨_, rfl, _, _, _, _, true, rfl, .ty _, .base (.int k), kit_ty (by decide +kernel), _, rfl, iteT ?_⟩
    refine ⟨_, rfl, _, _, _, _, false, rfl, .ty _, .base (.int k), kit_ty (by decide +kernel), _, rfl, _, _, _, _, false, rfl, .ty _, .base (.int k), kit_ty (by decide +kernel), rfl, _, rfl, iteT ⟨_, rfl, _, rfl, rfl, ?_⟩⟩
    rw [decide_eq_true rfl]
    exact hq _ st
  · refine ⟨_, _, _, _, _, false, rfl, upd_same, .cons (.ty _) (.cons (.ty _) .nil), .base (.bl k), kit_two_n (by decide +kernel) (by decide +kernel), _, rfl, iteF ?_⟩
    refine ⟨_, rfl, _, _, _, _, true, rfl, .ty _, .base (.bl k), kit_ty (by decide +kernel), _, rfl, iteT ?_⟩
    refine ⟨_, rfl, _, _, _, _, true, rfl, .ty _, .base (.bl k), kit_ty (by decide +kernel), _, rfl, iteT ?_⟩
    refine ⟨_, rfl, _, _, _, _, true, rfl, .ty _, .base (.bl k), kit_ty (by decide +kernel), _, rfl, _, _, _, _, true, rfl, .ty _, .base (.bl k), kit_ty (by decide +kernel), rfl, _, rfl, iteT ⟨_, rfl, _, rfl, rfl, ?_⟩⟩
    rw [decide_eq_true rfl]
    exact hq _ st
/-- what is neither a number nor a list: by == -/
theorem same_oth (F : Fun K "_law_same" "_law_same" sSame f fd) (M : Sm mg) {x y : V} {r : R2} {t : String} (h0 : kitB t "int" = some false) (h1 : kitB t "list" = some false) (h2 : kitB t "tuple" = some false) (op : ∀ X : Cx, X.A.units + 1 < cLine → OpR X (compareOp .Eq) r) :
    FnOk P w K mg base CX0 1 f fd ["found", "due"] (fun vs H Q _ => vs = [x, y] ∧ TyX K H x (.type t) ∧ TyX K H y (.type t) ∧ ∀ H', Same H H' → r x y H' Q) := by
  refine F.ok scSame (fun vs H Q E h => by obtain ⟨e, _⟩ := h; rw [e]; rfl) fun cdv A outer s H vs Q E hr hsp => ?_
  obtain ⟨rfl, tx, ty, hq⟩ := hsp
  refine ⟨_, pss_cons (ps_if (pt_val (pe_callB (r := rIsiT K) call_isiT rfl M.nI boot_isi (pa_cons (pv 1) (pa_cons (pe_tup (pa_cons (pe_bltn (v := .ty "list") rfl M.nL boot_list' rfl) (pa_cons (pe_bltn (v := .ty "tuple") rfl M.nT boot_tuple' rfl) pa_nil))) pa_nil)))) pss_never pss_nil)
    (pss_cons (ps_if (pt_val (pe_callB (r := rIsi K) call_isi rfl M.nI boot_isi (pa_cons (pv 1) (pa_cons (pe_bltn (v := .ty "int") rfl M.nInt boot_int' rfl) pa_nil)))) pss_never pss_nil)
    (pss_one (ps_ret (pe_and (pe_cmpR op_isBl (pe_callB (r := rIsiT K) call_isiT rfl M.nI boot_isi (pa_cons (pv 0) (pa_cons (pe_tup (pa_cons (pe_bltn (v := .ty "int") rfl M.nInt boot_int' rfl) (pa_cons (pe_bltn (v := .ty "list") rfl M.nL boot_list' rfl) (pa_cons (pe_bltn (v := .ty "tuple") rfl M.nT boot_tuple' rfl) pa_nil)))) pa_nil))) pe_bl (nomark _)) (pe_one (pe_cmpR (op _ (hu_of hr)) (pv 0) (pv 1) (nomark _))))))), ?_⟩
  refine ⟨_, rfl, (by show 2 ≤ sizeLine; decide), fun t nt => ?_⟩
  have st := same_new (o := .tup [.ty "list", .ty "tuple"]) nt
  refine ⟨_, _, _, _, _, false, rfl, upd_same, .cons (.ty _) (.cons (.ty _) .nil), ty_same ty st, kit_two_n h1 h2, _, rfl, iteF ?_⟩
  refine ⟨_, rfl, _, _, _, _, false, rfl, .ty _, ty_same ty st, kit_ty h0, _, rfl, iteF ?_⟩
  refine ⟨_, rfl, (by show 3 ≤ sizeLine; decide), fun t2 nt2 => ?_⟩
  have st2 := same_new (o := .tup [.ty "int", .ty "list", .ty "tuple"]) nt2
  refine ⟨_, _, _, _, _, false, rfl, upd_same, .cons (.ty _) (.cons (.ty _) (.cons (.ty _) .nil)), ty_same tx (st.trans st2), kit_three_n h0 h1 h2, _, _, rfl, rfl, _, rfl, iteT ⟨_, rfl, _, rfl, ?_⟩⟩
  exact hq _ (st.trans st2)
theorem same_lst (F : Fun K "_law_same" "_law_same" sSame f fd) (gSm : mg "_law_same" = some (.ref f)) (M : Sm mg) {n : Nat} (G : FnOk P w K mg base CX0 (n + 1) f fd ["found", "due"] (spSameF n)) : FnOk P w K mg base CX0 (n + 2) f fd ["found", "due"] (fun vs H Q _ => ∃ (a b : Addr) (xs ys : List V), vs = [.ref a, .ref b] ∧ H a = some (.lst xs) ∧ H b = some (.lst ys) ∧ xs.length = ys.length ∧ xs.length < 1000 ∧
    (∀ (i : Nat) (x y : V), xs[i]? = some x → ys[i]? = some y → AlkF H n x y) ∧ ∀ H', Same H H' → Q (.bl true) H') := by
  have b := F.binds (ps := ["found", "due"]) fun _ _ _ _ _ _ us hl => match us, hl with | [_, _], _ => rfl
  refine F.ok scSame (fun vs H Q E h => by obtain ⟨a, b, xs, ys, e, _⟩ := h; rw [e]; rfl) fun cdv A outer s H vs Q E hr hsp => ?_
  obtain ⟨a, bb, xs, ys, rfl, ha, hb, len, short, al, hq⟩ := hsp
  have nd := scSame.nd
  refine ⟨_, pss_cons (ps_if (pt_val (pe_callB (r := rIsiT K) call_isiT rfl M.nI boot_isi (pa_cons (pv 1) (pa_cons (pe_tup (pa_cons (pe_bltn (v := .ty "list") rfl M.nL boot_list' rfl) (pa_cons (pe_bltn (v := .ty "tuple") rfl M.nT boot_tuple' rfl) pa_nil))) pa_nil))))
      (pss_cons (ps_if (PW.pt (pw_or (pt_cmpR op_ne (pe_callB (r := rIsi K) call_isi rfl M.nI boot_isi (pa_cons (pv 0) (pa_cons (pe_bltn (v := .ty "list") rfl M.nL boot_list' rfl) pa_nil))) (pe_callB (r := rIsi K) call_isi rfl M.nI boot_isi (pa_cons (pv 1) (pa_cons (pe_bltn (v := .ty "list") rfl M.nL boot_list' rfl) pa_nil))) (nomark _)) (pw_or1 (pt_cmpR op_ne (pe_callB (r := rIsi K) call_isi rfl M.nI boot_isi (pa_cons (pv 0) (pa_cons (pe_bltn (v := .ty "tuple") rfl M.nT boot_tuple' rfl) pa_nil))) (pe_callB (r := rIsi K) call_isi rfl M.nI boot_isi (pa_cons (pv 1) (pa_cons (pe_bltn (v := .ty "tuple") rfl M.nT boot_tuple' rfl) pa_nil))) (nomark _))))) pss_never pss_nil)
      (pss_one (ps_ret (pe_and (pe_cmpR op_eq (pe_callB call_len_seq rfl M.nN boot_len (pa_cons (pv 0) pa_nil)) (pe_callB call_len_seq rfl M.nN boot_len (pa_cons (pv 1) pa_nil)) (nomark _))
        (pe_one (pe_callB (cr_all rfl) rfl M.nA boot_all' (pa_cons (pe_lc (own := [("x", 2), ("y", 3)]) (tt := tYes) (g := gTup K 2 (gCons (gName 2) (gCons (gName 3) gNil))) rfl nd (RZ.pi_zipA rfl M.nZ (pa_cons (pv 0) (pa_cons (pv 1) pa_nil))) (blkOk_by (N := NSm) (sc := defScope sSame) (by decide +kernel))
          (fun _ _ _ _ _ => pg_tup rfl (pgs_cons (pg_name (i := 2) nd rfl (Or.inl rfl)) (pgs_cons (pg_name (i := 3) nd rfl (Or.inl rfl)) pgs_nil))) (fun _ _ _ _ _ => pts_nil)
          (fun _ _ _ _ _ => pe_call G hr rfl gSm F.kp b .nil pass0 (pa_cons (pv 2) (pa_cons (pv 3) pa_nil)))) pa_nil))))))) pss_nil) pss_never, ?_⟩
  refine ⟨_, rfl, (by show 2 ≤ sizeLine; decide), fun t nt => ?_⟩
  have st := same_new (o := .tup [.ty "list", .ty "tuple"]) nt
  refine ⟨_, _, _, _, _, true, rfl, upd_same, .cons (.ty _) (.cons (.ty _) .nil), .base (.lst (st _ _ hb)), kit_two_l, _, rfl, iteT ?_⟩
  generalize upd H t (.tup [.ty "list", .ty "tuple"]) = H1 at st
  have ha := st _ _ ha
  have hb := st _ _ hb
  refine ⟨_, rfl, _, _, _, _, true, rfl, .ty _, .base (.lst ha), kit_ty (by decide +kernel), _, rfl, _, _, _, _, true, rfl, .ty _, .base (.lst hb), kit_ty (by decide +kernel), rfl, _, rfl, iteF ?_⟩
  refine ⟨_, rfl, _, _, _, _, false, rfl, .ty _, .base (.lst ha), kit_ty (by decide +kernel), _, rfl, _, _, _, _, false, rfl, .ty _, .base (.lst hb), kit_ty (by decide +kernel), rfl, _, rfl, iteF ?_⟩
  refine ⟨_, rfl, a, _, rfl, .inl (SqL.of ha), _, rfl, bb, _, rfl, .inl (SqL.of hb), rfl, _, rfl, ?_⟩
  rw [dec_int2, decide_eq_true (by omega : ((xs.length : Nat) : Int) = (ys.length : Nat))]
  refine iteT ⟨_, rfl, _, rfl, a, bb, _, _, rfl, .inl ⟨SqL.of ha, SqL.of hb, ?_⟩⟩
  refine lc_gen (bools xs.length) (by rw [bools_len]; omega) (fun i H' s lt => ?_) (fun H' s => ?_) ?_ ?_
  · rw [bools_len] at lt
    exact ⟨_, _, _, _, SqL.of (s _ _ ha), SqL.of (s _ _ hb), List.getElem?_eq_getElem (by omega), List.getElem?_eq_getElem (by omega)⟩
  · exact ⟨_, _, SqL.of (s _ _ ha), SqL.of (s _ _ hb), .inl (by rw [bools_len]; exact Nat.le_refl _)⟩
  · rintro i v y H2 H3 Cn Nn ey s2 ⟨T, u1, u2, rfl, nT, rfl, e1, e2⟩ yes
    obtain ⟨rfl, lt⟩ := bools_at ey
    have e1 := e1 _ (SqL.of (s2 _ _ ha))
    have e2 := e2 _ (SqL.of (s2 _ _ hb))
    have sT := same_new (o := .tup [u1, u2]) nT
    refine ⟨T, _, rfl, SqT.of upd_same, rfl, _, _, rfl, _, _, rfl, rfl, rfl, ?_⟩
    exact ⟨_, rfl, _, rfl, u1, u2, rfl, (al i u1 u2 e1 e2).same ((st.trans s2).trans sT), fun H4 s4 => yes H4 (sT.trans s4)⟩
  · intro H2 D nD oD s2
    rw [bools_map] at oD
    refine ⟨D, _, rfl, SqL.of oD, ?_⟩
    rw [all_true]
    exact hq _ (st.trans s2)
theorem same_tup (F : Fun K "_law_same" "_law_same" sSame f fd) (gSm : mg "_law_same" = some (.ref f)) (M : Sm mg) {n : Nat} (G : FnOk P w K mg base CX0 (n + 1) f fd ["found", "due"] (spSameF n)) : FnOk P w K mg base CX0 (n + 2) f fd ["found", "due"] (fun vs H Q _ => ∃ (a b : Addr) (xs ys : List V), vs = [.ref a, .ref b] ∧ H a = some (.tup xs) ∧ H b = some (.tup ys) ∧ xs.length = ys.length ∧ xs.length < 1000 ∧
    (∀ (i : Nat) (x y : V), xs[i]? = some x → ys[i]? = some y → AlkF H n x y) ∧ ∀ H', Same H H' → Q (.bl true) H') := by
  have b := F.binds (ps := ["found", "due"]) fun _ _ _ _ _ _ us hl => match us, hl with | [_, _], _ => rfl
  refine F.ok scSame (fun vs H Q E h => by obtain ⟨a, b, xs, ys, e, _⟩ := h; rw [e]; rfl) fun cdv A outer s H vs Q E hr hsp => ?_
  obtain ⟨a, bb, xs, ys, rfl, ha, hb, len, short, al, hq⟩ := hsp
  have nd := scSame.nd
  refine ⟨_, pss_cons (ps_if (pt_val (pe_callB (r := rIsiT K) call_isiT rfl M.nI boot_isi (pa_cons (pv 1) (pa_cons (pe_tup (pa_cons (pe_bltn (v := .ty "list") rfl M.nL boot_list' rfl) (pa_cons (pe_bltn (v := .ty "tuple") rfl M.nT boot_tuple' rfl) pa_nil))) pa_nil))))
      (pss_cons (ps_if (PW.pt (pw_or (pt_cmpR op_ne (pe_callB (r := rIsi K) call_isi rfl M.nI boot_isi (pa_cons (pv 0) (pa_cons (pe_bltn (v := .ty "list") rfl M.nL boot_list' rfl) pa_nil))) (pe_callB (r := rIsi K) call_isi rfl M.nI boot_isi (pa_cons (pv 1) (pa_cons (pe_bltn (v := .ty "list") rfl M.nL boot_list' rfl) pa_nil))) (nomark _)) (pw_or1 (pt_cmpR op_ne (pe_callB (r := rIsi K) call_isi rfl M.nI boot_isi (pa_cons (pv 0) (pa_cons (pe_bltn (v := .ty "tuple") rfl M.nT boot_tuple' rfl) pa_nil))) (pe_callB (r := rIsi K) call_isi rfl M.nI boot_isi (pa_cons (pv 1) (pa_cons (pe_bltn (v := .ty "tuple") rfl M.nT boot_tuple' rfl) pa_nil))) (nomark _))))) pss_never pss_nil)
      (pss_one (ps_ret (pe_and (pe_cmpR op_eq (pe_callB call_len_seq rfl M.nN boot_len (pa_cons (pv 0) pa_nil)) (pe_callB call_len_seq rfl M.nN boot_len (pa_cons (pv 1) pa_nil)) (nomark _))
        (pe_one (pe_callB (cr_all rfl) rfl M.nA boot_all' (pa_cons (pe_lc (own := [("x", 2), ("y", 3)]) (tt := tYes) (g := gTup K 2 (gCons (gName 2) (gCons (gName 3) gNil))) rfl nd (RZ.pi_zipA rfl M.nZ (pa_cons (pv 0) (pa_cons (pv 1) pa_nil))) (blkOk_by (N := NSm) (sc := defScope sSame) (by decide +kernel))
          (fun _ _ _ _ _ => pg_tup rfl (pgs_cons (pg_name (i := 2) nd rfl (Or.inl rfl)) (pgs_cons (pg_name (i := 3) nd rfl (Or.inl rfl)) pgs_nil))) (fun _ _ _ _ _ => pts_nil)
          (fun _ _ _ _ _ => pe_call G hr rfl gSm F.kp b .nil pass0 (pa_cons (pv 2) (pa_cons (pv 3) pa_nil)))) pa_nil))))))) pss_nil) pss_never, ?_⟩
  refine ⟨_, rfl, (by show 2 ≤ sizeLine; decide), fun t nt => ?_⟩
  have st := same_new (o := .tup [.ty "list", .ty "tuple"]) nt
  refine ⟨_, _, _, _, _, true, rfl, upd_same, .cons (.ty _) (.cons (.ty _) .nil), .base (.tup (st _ _ hb)), kit_two_t, _, rfl, iteT ?_⟩
  generalize upd H t (.tup [.ty "list", .ty "tuple"]) = H1 at st
  have ha := st _ _ ha
  have hb := st _ _ hb
  refine ⟨_, rfl, _, _, _, _, false, rfl, .ty _, .base (.tup ha), kit_ty (by decide +kernel), _, rfl, _, _, _, _, false, rfl, .ty _, .base (.tup hb), kit_ty (by decide +kernel), rfl, _, rfl, iteF ?_⟩
  refine ⟨_, rfl, _, _, _, _, true, rfl, .ty _, .base (.tup ha), kit_ty (by decide +kernel), _, rfl, _, _, _, _, true, rfl, .ty _, .base (.tup hb), kit_ty (by decide +kernel), rfl, _, rfl, iteF ?_⟩
  refine ⟨_, rfl, a, _, rfl, .inr (SqT.of ha), _, rfl, bb, _, rfl, .inr (SqT.of hb), rfl, _, rfl, ?_⟩
  rw [dec_int2, decide_eq_true (by omega : ((xs.length : Nat) : Int) = (ys.length : Nat))]
  refine iteT ⟨_, rfl, _, rfl, a, bb, _, _, rfl, .inr ⟨SqT.of ha, SqT.of hb, ?_⟩⟩
  refine lc_gen (bools xs.length) (by rw [bools_len]; omega) (fun i H' s lt => ?_) (fun H' s => ?_) ?_ ?_
  · rw [bools_len] at lt
    exact ⟨_, _, _, _, SqT.of (s _ _ ha), SqT.of (s _ _ hb), List.getElem?_eq_getElem (by omega), List.getElem?_eq_getElem (by omega)⟩
  · exact ⟨_, _, SqT.of (s _ _ ha), SqT.of (s _ _ hb), .inl (by rw [bools_len]; exact Nat.le_refl _)⟩
  · rintro i v y H2 H3 Cn Nn ey s2 ⟨T, u1, u2, rfl, nT, rfl, e1, e2⟩ yes
    obtain ⟨rfl, lt⟩ := bools_at ey
    have e1 := e1 _ (SqT.of (s2 _ _ ha))
    have e2 := e2 _ (SqT.of (s2 _ _ hb))
    have sT := same_new (o := .tup [u1, u2]) nT
    refine ⟨T, _, rfl, SqT.of upd_same, rfl, _, _, rfl, _, _, rfl, rfl, rfl, ?_⟩
    exact ⟨_, rfl, _, rfl, u1, u2, rfl, (al i u1 u2 e1 e2).same ((st.trans s2).trans sT), fun H4 s4 => yes H4 (sT.trans s4)⟩
  · intro H2 D nD oD s2
    rw [bools_map] at oD
    refine ⟨D, _, rfl, SqL.of oD, ?_⟩
    rw [all_true]
    exact hq _ (st.trans s2)
theorem ok_sameF (F : Fun K "_law_same" "_law_same" sSame f fd) (gSm : mg "_law_same" = some (.ref f)) (M : Sm mg) : ∀ n : Nat, FnOk P w K mg base CX0 (n + 1) f fd ["found", "due"] (spSameF n)
  | 0 => by
    refine ⟨fun vs H Q E h => by obtain ⟨x, y, e, _⟩ := h; rw [e]; rfl, fun A outer s H args us vs Q E hr he hb hv hs => ?_⟩
    obtain ⟨x, y, rfl, al, hq⟩ := hs
    cases al with
    | one h =>
      cases h with
      | int i => exact (same_num F M).run A outer s H args us _ Q E hr he hb hv ⟨_, rfl, .inl ⟨i, rfl⟩, hq⟩
      | bl i => exact (same_num F M).run A outer s H args us _ Q E hr he hb hv ⟨_, rfl, .inr ⟨i, rfl⟩, hq⟩
      | str z => exact (same_oth F M (x := .str z) (y := .str z) (r := rEq) (t := "str") (by decide +kernel) (by decide +kernel) (by decide +kernel) fun X _ => op_eq).run A outer s H args us _ Q E hr he hb hv ⟨rfl, .base (.str z), .base (.str z), fun H' s => ⟨rfl, by rw [decide_eq_true rfl]; exact hq _ s⟩⟩
      | non => exact (same_oth F M (x := .non) (y := .non) (r := rEq) (t := "NoneType") (by decide +kernel) (by decide +kernel) (by decide +kernel) fun X _ => op_eq).run A outer s H args us _ Q E hr he hb hv ⟨rfl, .base .non, .base .non, fun H' s => ⟨rfl, by rw [decide_eq_true rfl]; exact hq _ s⟩⟩
  | n + 1 => by
    have G := ok_sameF F gSm M n
    have GU : FnOk P w K mg base CX0 (n + 2) f fd ["found", "due"] (spSameF n) := G.mono (Nat.le_succ _)
    refine ⟨fun vs H Q E h => by obtain ⟨x, y, e, _⟩ := h; rw [e]; rfl, fun A outer s H args us vs Q E hr he hb hv hs => ?_⟩
    obtain ⟨x, y, rfl, al, hq⟩ := hs
    cases al with
    | lst ha hb' l sh al => exact (same_lst F gSm M G).run A outer s H args us _ Q E hr he hb hv ⟨_, _, _, _, rfl, ha, hb', l, sh, al, hq⟩
    | tup ha hb' l sh al => exact (same_tup F gSm M G).run A outer s H args us _ Q E hr he hb hv ⟨_, _, _, _, rfl, ha, hb', l, sh, al, hq⟩
    | up h => exact GU.run A outer s H args us _ Q E hr he hb hv ⟨_, _, rfl, h, hq⟩
end
section
variable {H : Hp}
theorem alk_one {v : V} (h : Atom v) : AlkF H 0 v v := .one h
theorem AlkF.le {n m : Nat} {x y : V} (h : AlkF H n x y) (l : n ≤ m) : AlkF H m x y := by
  induction l with
  | refl => exact h
  | step _ ih => exact .up ih
theorem alk_strs {a b : Addr} {xs : List Str} (ha : H a = some (.lst (xs.map V.str))) (hb : H b = some (.lst (xs.map V.str))) (sh : xs.length < 1000) : AlkF H 1 (.ref a) (.ref b) :=
  .lst ha hb rfl (by rw [List.length_map]; exact sh) fun i x y e1 e2 => by
    rw [List.getElem?_map] at e1 e2
    obtain ⟨s, es, rfl⟩ := Option.map_eq_some_iff.mp e1
    rw [es] at e2
    obtain rfl := Option.some.inj e2
    exact .one (.str _)
theorem alk_pair {a b : Addr} {x1 x2 y1 y2 : V} {n : Nat} (ha : H a = some (.tup [x1, x2])) (hb : H b = some (.tup [y1, y2])) (h1 : AlkF H n x1 y1) (h2 : AlkF H n x2 y2) : AlkF H (n + 1) (.ref a) (.ref b) :=
  .tup ha hb rfl (by show 2 < 1000; decide) fun i x y e1 e2 => by
    match i with
    | 0 => cases e1; cases e2; exact h1
    | 1 => cases e1; cases e2; exact h2
    | i + 2 => simp at e1
theorem alk_two {a b : Addr} {x1 x2 y1 y2 : V} {n : Nat} (ha : H a = some (.lst [x1, x2])) (hb : H b = some (.lst [y1, y2])) (h1 : AlkF H n x1 y1) (h2 : AlkF H n x2 y2) : AlkF H (n + 1) (.ref a) (.ref b) :=
  .lst ha hb rfl (by show 2 < 1000; decide) fun i x y e1 e2 => by
    match i with
    | 0 => cases e1; cases e2; exact h1
    | 1 => cases e1; cases e2; exact h2
    | i + 2 => simp at e1
end
end L2.TB
/-! _law_s_handed -/
namespace L2.TB
open PySem PySem.Spec PyProof.Rows
/-- all stays but the spring and what is at g -/
def BG (g l ls : Addr) (H H' : Hp) : Prop := ∀ b o, b ≠ l → b ≠ ls → b ≠ g → H b = some o → H' b = some o
theorem BG.free {g l ls p : Addr} {H H' : Hp} (B : BG g l ls H H') (h1 : p ≠ l) (h2 : p ≠ ls) (h3 : p ≠ g) (n : H' p = none) : H p = none := by
  cases e : H p with
  | none => rfl
  | some o => rw [B p o h1 h2 h3 e] at n; cases n
theorem But.free {l ls p : Addr} {H H' : Hp} (B : But l ls H H') (a : p ≠ l ∧ p ≠ ls) (n : H' p = none) : H p = none := by
  cases e : H p with
  | none => rfl
  | some o => rw [B p o a.1 a.2 e] at n; cases n
theorem BG.but {g l ls : Addr} {H H1 H2 : Hp} (B : BG g l ls H H1) (C : But l ls H1 H2) : BG g l ls H H2 := fun b o h1 h2 h3 e => C b o h1 h2 (B b o h1 h2 h3 e)
theorem BG.upd {g l ls : Addr} {H H1 : Hp} {o : HO} (B : BG g l ls H H1) : BG g l ls H (upd H1 g o) := fun b u h1 h2 h3 e => by rw [upd_ne h3]; exact B b u h1 h2 h3 e
theorem BG.new {g l ls : Addr} {H H1 : Hp} (B : BG g l ls H H1) (n : H g = none) : But l ls H H1 := fun b o h1 h2 e => B b o h1 h2 (fun z => by rw [z, n] at e; cases e) e
theorem strm_upd {l ls b : Addr} {o : HO} {H : Hp} {N : Int} (S : Strm H l ls N) (a : b ≠ l ∧ b ≠ ls) : Strm (upd H b o) l ls N := by
  obtain ⟨cs', g, k, m, S⟩ := S
  exact ⟨cs', g, k, m, by rw [upd_ne (Ne.symm a.1)]; exact S.o, by rw [upd_ne (Ne.symm a.2)]; exact S.c, S.ne, S.g0, S.k0, S.k1, S.m0, S.m1, S.sz⟩
theorem but_unlock {l ls dd : Addr} {u : HO} {od : Obj} {H0 H' : Hp} (hd : H0 dd = some u) (a : dd ≠ l ∧ dd ≠ ls) (B : But l ls (upd H0 dd (.frz od u)) H') : H' dd = some (.frz od u) ∧ But l ls H0 (upd H' dd u) :=
  ⟨B _ _ a.1 a.2 upd_same, fun b o h1 h2 e => by
    by_cases hb : b = dd
    · subst hb
      rw [hd] at e
      rw [upd_same]; exact e
    · rw [upd_ne hb]
      exact B _ _ h1 h2 (by rw [upd_ne hb]; exact e)⟩
theorem keys_side {A : Addr → Prop} {H : Hp} {es : List (Key × V)} {qs : List (Str × SideT)} (h : Paired (SideE A H) es qs) : es.map (·.1) = (qs.map (·.1)).map Sum.inr := keys_es SideE (fun _ _ h => h.1) h
theorem nd_side {A : Addr → Prop} {H : Hp} {es : List (Key × V)} {qs : List (Str × SideT)} (h : Paired (SideE A H) es qs) (nd : (qs.map (·.1)).Nodup) : (es.map (·.1)).Nodup := by
  rw [keys_side h]
  exact List.Pairwise.map Sum.inr (fun a b h e => h (Sum.inr.inj e)) nd
/-- a question as it is handed, all of it in A -/
def HandA (A : Addr → Prop) (K : PySem.W.Frag) (H : Hp) (e : Key × V) (q : Str × SideT) : Prop := e.1 = Sum.inr q.1 ∧ ∃ p d, e.2 = .ref p ∧ A p ∧ A d ∧ SqA K H p [.ref d, .int q.2.2] ∧ H d = some (.dK (dkS q.2.1))
theorem HandA.e {A : Addr → Prop} {K : PySem.W.Frag} {H : Hp} {e : Key × V} {q : Str × SideT} (h : HandA A K H e q) : HandE K H e q := by
  obtain ⟨h1, p, d, h2, _, _, h3, h4⟩ := h
  exact ⟨h1, p, d, h2, h3, h4⟩
theorem HandA.keep {A A' : Addr → Prop} {K : PySem.W.Frag} {H H' : Hp} {e : Key × V} {q : Str × SideT} (h : HandA A K H e q) (hA : ∀ b, A b → A' b) (k : ∀ b o, A b → H b = some o → H' b = some o) : HandA A' K H' e q := by
  obtain ⟨h1, p, d, h2, a1, a2, h3, h4⟩ := h
  exact ⟨h1, p, d, h2, hA _ a1, hA _ a2, h3.imp (k _ _ a1) (k _ _ a1), k _ _ a2 h4⟩
theorem SideE.keep {A A' : Addr → Prop} {H H' : Hp} {e : Key × V} {q : Str × SideT} (h : SideE A H e q) (hA : ∀ b, A b → A' b) (k : ∀ b o, A b → H b = some o → H' b = some o) : SideE A' H' e q := ⟨h.1, h.2.keep hA k⟩
theorem pair_snoc {α β : Type} {F : α → β → Prop} {as : List α} {bs : List β} {a : α} {b : β} {i : Nat} (h : Paired F as (bs.take i)) (e : bs[i]? = some b) (q : F a b) : Paired F (as ++ [a]) (bs.take (i + 1)) := by
  rw [List.take_succ, e]
  exact paired_join h q
def spHanded (K : PySem.W.Frag) : Sp := fun vs H Q _ => ∃ (l ls F : Addr) (N : Int) (qs : List (Str × SideT)), vs = [.ref l, .ref F] ∧ Strm H l ls N ∧ N ≤ 900000 ∧ F ≠ l ∧ F ≠ ls ∧ QuesAt (fun b => b ≠ l ∧ b ≠ ls ∧ b ≠ F) H F qs ∧ (qs.map (·.1)).Nodup ∧ qs.length < 1000 ∧
  ∀ H' g es, H g = none → H' g = some (.dK es) → Paired (HandA (fun b => H b = none ∧ b ≠ l ∧ b ≠ ls) K H') es qs → Strm H' l ls (N + qs.length) → But l ls H H' → Q (.ref g) H'
abbrev NHa : List Str := ["stream", "questions", "found", "name", "pair"]
theorem scHanded : FnScope NHa ["stream", "questions"] (defScope sHanded) := ⟨rfl, rfl, rfl, by decide +kernel, rfl, by decide +kernel, by decide +kernel⟩
section
variable {P : Program} {w : World} {K : PySem.W.Frag} {mg : Str → Option Value} {base : Heap} {f fP : Addr} {fd fdP : FuncData}
theorem ok_handed (F : Fun K "_law_s_handed" "_law_s_handed" sHanded f fd) (gP : mg "_law_pick" = some (.ref fP)) (kP : PySem.W.keepIn K (.ref fP) = true) (GP : FnOk P w K mg base CX0 2 fP fdP ["stream", "some"] (spPick K)) (bP : Binds K fdP ["stream", "some"] []) (nD : mg "dict" = none) (nL : mg "list" = none) : FnOk P w K mg base CX0 3 f fd ["stream", "questions"] (spHanded K) := by
  refine F.ok scHanded (fun vs H Q E h => by obtain ⟨l, ls, F, N, qs, e, _⟩ := h; rw [e]; rfl) fun cdv A outer s H vs Q E hr hsp => ?_
  obtain ⟨l, ls, F, N, qs, rfl, S, hN, F1, F2, ⟨es0, oF, pr⟩, qnd, qsh, hq⟩ := hsp
  have nd := scHanded.nd
  have hu := hu_of (hr.mono (show 1 ≤ 2 by decide))
  refine ⟨_, pss_cons (ps_set (i := 2) nd rfl (Or.inl rfl) pe_dnewK)
    (pss_cons (ps_lock (ps_for PassesOwn.never rfl (pi_keys (pv 1)) (pg_name (i := 3) nd rfl (Or.inl rfl))
      (pss_cons (ps_set (i := 4) nd rfl (Or.inl rfl) (pe_tup (pa_cons (pe_callTy call_dictD rfl nD boot_dict' (pa_cons (pe_ix (r := rIx K) ix_seq (pe_dget hu (pv 1) (pv 3) (fun _ _ => rfl)) pe_int (fun _ _ => rfl)) pa_nil)) (pa_cons (pe_ix (r := rIx K) ix_seq (pe_dget hu (pv 1) (pv 3) (fun _ _ => rfl)) pe_int (fun _ _ => rfl)) pa_nil))))
      (pss_one (ps_dput hu (pv 2) (pv 3) (pe_call GP hr rfl gP kP bP .nil pass0 (pa_cons (pv 0) (pa_cons (pe_lst (pa_cons (pv 4) (pa_cons (pe_callTy call_list_of rfl nL boot_list' (pa_cons (pv 4) pa_nil)) pa_nil))) pa_nil))) rfl)))))
    (pss_one (ps_ret (pv 2)))), ?_⟩
  intro g ng
  have ag := S.apart (Same.refl _) ng
  have gF : g ≠ F := fun z => by rw [z, oF] at ng; cases ng
  have kg := same_new (o := .dK []) ng
  have og : upd H g (.dK []) g = some (.dK []) := upd_same
  have S1 := S.same kg
  have oF1 := kg _ _ oF
  have pr1 : Paired (SideE (fun b => b ≠ l ∧ b ≠ ls ∧ b ≠ F) (upd H g (.dK []))) es0 qs := Paired.mapP pr fun e q h => h.keep (fun _ z => z) fun b o _ x => kg b o x
  generalize upd H g (.dK []) = H1 at kg og S1 oF1 pr1 ⊢
  have les : es0.length = qs.length := Paired.length pr
  have ndes := nd_side pr qnd
  refine ⟨F, _, oF1, trivial, fun od => ⟨_, rfl, F, od, rfl, .inl ⟨es0, upd_same, ?_⟩⟩⟩
  have oL : upd H1 F (.frz od (.dK es0)) F = some (.frz od (.dK es0)) := upd_same
  have oGL : upd H1 F (.frz od (.dK es0)) g = some (.dK []) := by rw [upd_ne gF]; exact og
  refine for_it walk_keys (fun i σ H' => Strm H' l ls (N + i) ∧ BG g l ls (upd H1 F (.frz od (.dK es0))) H' ∧ (∃ es, H' g = some (.dK es) ∧ Paired (HandA (fun b => H b = none ∧ b ≠ l ∧ b ≠ ls ∧ b ≠ g) K H') es (qs.take i)) ∧ ∃ s3 s4, σ = [some (.ref l), some (.ref F), some (.ref g), s3, s4])
    ⟨by simpa using strm_upd S1 ⟨F1, F2⟩, fun _ _ _ _ _ e => e, ⟨[], oGL, by rw [List.take_zero]; exact .nil⟩, _, _, rfl⟩ (fun i σ H' _ h => h.2.1 _ _ F1 F2 (Ne.symm gF) oL) ?_ ?_
  · rintro i y σ H2 H3 lt ⟨S2, B2, ⟨es, oG, pe⟩, s3, s4, rfl⟩ ⟨rfl, k0, v0, ekv, rfl⟩
    obtain ⟨q, eq, hk, p0, d0, hv, a1, a2, op, od0⟩ := paired_get pr1 ekv
    have hk : k0 = Sum.inr q.1 := hk
    have hv : v0 = .ref p0 := hv
    subst hk hv
    have op : H1 p0 = some (.tup [.ref d0, .int q.2.2]) := op
    have od0 : H1 d0 = some (.dK (dkS q.2.1)) := od0
    have p0g : p0 ≠ g := fun z => by rw [z, og] at op; cases op
    have lel : es.length = i := by
      have z := Paired.length pe
      rw [List.length_take] at z
      omega
    have li : i < qs.length := (List.getElem?_eq_some_iff.mp eq).1
    have d0g : d0 ≠ g ∨ d0 = g := Decidable.em _ |>.symm
    have oF3 := B2 _ _ F1 F2 (Ne.symm gF) oL
    have op3 := B2 _ _ a1.1 a1.2.1 p0g (by rw [upd_ne a1.2.2]; exact op)
    have d0g : d0 ≠ g := fun z => by
      obtain ⟨q2, eq2, hk2, p2, d2, hv2, b1, b2, o1, o2⟩ := paired_get pr ekv
      rw [eq] at eq2
      obtain rfl := Option.some.inj eq2
      have hv2 : V.ref p0 = .ref p2 := hv2
      obtain rfl := V.ref.inj hv2
      have o3 := kg _ _ o1
      rw [op] at o3
      have e2 := HO.tup.inj (Option.some.inj o3)
      obtain rfl : d0 = d2 := V.ref.inj (List.cons.inj e2).1
      rw [z, ng] at o2
      cases o2
    have od3 := B2 _ _ a2.1 a2.2.1 d0g (by rw [upd_ne a2.2.2]; exact od0)
    have dg : ∀ {H' : Hp}, H' F = some (.frz od (.dK es0)) → DGet H' F (.str q.1) (some (.ref p0)) := fun o => .inl ⟨es0, Sum.inr q.1, .inr ⟨od, o⟩, rfl, (valV_atN ndes ekv).symm⟩
    have ix : ∀ {H' : Hp} {j : Int} {v : V} {R : VK}, H' p0 = some (.tup [.ref d0, .int q.2.2]) → atI [V.ref d0, .int q.2.2] j = some v → R v H' → rIx K (.ref p0) (.int j) H' R := fun o e r => .inr (.inl ⟨p0, _, _, _, rfl, rfl, SqT.of o, e, r⟩)
    refine ⟨_, rfl, _, rfl, F, _, rfl, dg oF3, ix op3 rfl ⟨d0, _, rfl, .inl od3, fun d nd1 => ?_⟩⟩
    have kd := same_new (o := .dK (dkS q.2.1)) nd1
    have ad := S2.apart (Same.refl _) nd1
    have dgg : d ≠ g := fun z => by rw [z, oG] at nd1; cases nd1
    have odd : upd H3 d (.dK (dkS q.2.1)) d = some (.dK (dkS q.2.1)) := upd_same
    have S4 := S2.same kd
    have B4 := B2.but (.of kd)
    have oG4 := kd _ _ oG
    have oF4 := kd _ _ oF3
    have op4 := kd _ _ op3
    have pe4 : Paired (HandA (fun b => H b = none ∧ b ≠ l ∧ b ≠ ls ∧ b ≠ g) K (upd H3 d (.dK (dkS q.2.1)))) es (qs.take i) := Paired.mapP pe fun e q h => h.keep (fun _ z => z) fun b o _ x => kd b o x
    have nd0 : H d = none := by
      have z := B2.free ad.1 ad.2 dgg nd1
      have dF : d ≠ F := fun z => by rw [z, oF3] at nd1; cases nd1
      rw [upd_ne dF] at z
      exact kg.free z
    generalize upd H3 d (.dK (dkS q.2.1)) = H4 at kd odd S4 B4 oG4 oF4 op4 pe4 ⊢
    refine ⟨_, rfl, _, rfl, F, _, rfl, dg oF4, ix op4 rfl ⟨(by show 2 ≤ sizeLine; decide), fun t nt => ?_⟩⟩
    have kt := same_new (o := .tup [.ref d, .int q.2.2]) nt
    have at_ := S4.apart (Same.refl _) nt
    have tg : t ≠ g := fun z => by rw [z, oG4] at nt; cases nt
    have ott : upd H4 t (.tup [.ref d, .int q.2.2]) t = some (.tup [.ref d, .int q.2.2]) := upd_same
    have nt0 : H t = none := by
      have z := B4.free at_.1 at_.2 tg nt
      have tF : t ≠ F := fun z => by rw [z, oF4] at nt; cases nt
      rw [upd_ne tF] at z
      exact kg.free z
    have S5 := S4.same kt
    have B5 := B4.but (.of kt)
    have oG5 := kt _ _ oG4
    have odd5 := kt _ _ odd
    have pe5 : Paired (HandA (fun b => H b = none ∧ b ≠ l ∧ b ≠ ls ∧ b ≠ g) K (upd H4 t (.tup [.ref d, .int q.2.2]))) es (qs.take i) := Paired.mapP pe4 fun e q h => h.keep (fun _ z => z) fun b o _ x => kt b o x
    generalize upd H4 t (.tup [.ref d, .int q.2.2]) = H5 at kt ott S5 B5 oG5 odd5 pe5 ⊢
    refine ⟨_, rfl, _, rfl, _, rfl, t, _, rfl, .inr (SqT.of ott), fun u nu => ?_⟩
    have ku := same_new (o := .lst [.ref d, .int q.2.2]) nu
    have au := S5.apart (Same.refl _) nu
    have ug : u ≠ g := fun z => by rw [z, oG5] at nu; cases nu
    have ouu : upd H5 u (.lst [.ref d, .int q.2.2]) u = some (.lst [.ref d, .int q.2.2]) := upd_same
    have nu0 : H u = none := by
      have z := B5.free au.1 au.2 ug nu
      have uF : u ≠ F := fun z => by rw [z, B5 _ _ F1 F2 (Ne.symm gF) oL] at nu; cases nu
      rw [upd_ne uF] at z
      exact kg.free z
    have S6 := S5.same ku
    have B6 := B5.but (.of ku)
    have oG6 := ku _ _ oG5
    have odd6 := ku _ _ odd5
    have ott6 := ku _ _ ott
    have pe6 : Paired (HandA (fun b => H b = none ∧ b ≠ l ∧ b ≠ ls ∧ b ≠ g) K (upd H5 u (.lst [.ref d, .int q.2.2]))) es (qs.take i) := Paired.mapP pe5 fun e q h => h.keep (fun _ z => z) fun b o _ x => ku b o x
    generalize upd H5 u (.lst [.ref d, .int q.2.2]) = H6 at ku ouu S6 B6 oG6 odd6 ott6 pe6 ⊢
    refine ⟨(by show 2 ≤ sizeLine; decide), fun c nc => ?_⟩
    have kc := same_new (o := .lst [.ref t, .ref u]) nc
    have ac := S6.apart (Same.refl _) nc
    refine ⟨l, ls, c, [.ref t, .ref u], _, rfl, S6.same kc, by omega, ac.1, ac.2, upd_same, by show 0 < 2; decide, by show 2 < 1000; decide, fun H7 v hv S7 B7 => ?_⟩
    have B67 : But l ls H6 H7 := (But.of kc).trans B7
    have oG7 := B67 _ _ ag.1 ag.2 oG6
    have odd7 := B67 _ _ ad.1 ad.2 odd6
    obtain ⟨v', rfl, va, vs⟩ : ∃ v', v = .ref v' ∧ (H v' = none ∧ v' ≠ l ∧ v' ≠ ls ∧ v' ≠ g) ∧ SqA K H7 v' [.ref d, .int q.2.2] := by
      rcases List.mem_cons.mp hv with e | hv
      · exact ⟨t, e, ⟨nt0, at_.1, at_.2, tg⟩, .inr (B67 _ _ at_.1 at_.2 ott6)⟩
      · exact ⟨u, List.mem_singleton.mp hv, ⟨nu0, au.1, au.2, ug⟩, .inl (B67 _ _ au.1 au.2 ouu)⟩
    have nout : (Sum.inr q.1 : Key) ∉ es.map (·.1) := fun hx => by
      have ke : es.map (·.1) = ((qs.take i).map (·.1)).map Sum.inr := keys_es (fun A H => HandA A K H) (fun _ _ h => h.1) pe
      rw [ke] at hx
      obtain ⟨y, hy, e1⟩ := List.mem_map.mp hx
      obtain rfl := Sum.inr.inj e1
      have et : qs.take (i + 1) = qs.take i ++ [q] := by rw [List.take_succ, eq]; rfl
      have z2 : ((qs.take (i + 1)).map (·.1)).Nodup := qnd.sublist ((List.take_sublist _ _).map _)
      rw [et, List.map_append, List.nodup_append] at z2
      exact z2.2.2 _ hy _ (by simp) rfl
    refine ⟨_, rfl, _, rfl, g, _, rfl, DPut.k (k := Sum.inr q.1) oG7 (by rw [sizeLine_eq]; omega), ?_⟩
    have up : ∀ {o' : HO} (b : Addr) (o : HO), b ≠ g → H7 b = some o → upd H7 g o' b = some o := fun b o nb e => by rw [upd_ne nb]; exact e
    refine ⟨(strm_upd S7 ag).mono (by omega), (B6.but B67).upd, ⟨es ++ [(Sum.inr q.1, .ref v')], by rw [upd_same, put_last nout], ?_⟩, _, _, rfl⟩
    refine pair_snoc (Paired.mapP pe6 fun e q h => h.keep (fun _ z => z) fun b o a x => up _ _ a.2.2.2 (B67 _ _ a.2.1 a.2.2.1 x)) eq ⟨rfl, v', d, rfl, va, ⟨nd0, ad.1, ad.2, dgg⟩, vs.imp (up _ _ va.2.2.2) (up _ _ va.2.2.2), up _ _ dgg odd7⟩
  · rintro σ H2 ⟨S2, B2, ⟨es, oG, pe⟩, s3, s4, rfl⟩
    rw [les, List.take_length] at pe
    have BL : But l ls (upd H1 F (.frz od (.dK es0))) H2 ∨ True := .inr trivial
    have oF2 := B2 _ _ F1 F2 (Ne.symm gF) oL
    refine ⟨oF2, _, rfl, ?_⟩
    have gF2 : upd H2 F (.dK es0) g = some (.dK es) := by rw [upd_ne gF]; exact oG
    refine hq _ g es ng gF2 (Paired.mapP pe fun e q h => h.keep (fun b z => ⟨z.1, z.2.1, z.2.2.1⟩) fun b o a x => ?_) (by rw [← les]; exact strm_upd S2 ⟨F1, F2⟩) ?_
    · rw [upd_ne (fun z => by rw [z, oF] at a; cases a.1)]
      exact x
    · intro b o h1 h2 e
      have bg : b ≠ g := fun z => by rw [z, ng] at e; cases e
      by_cases bF : b = F
      · rw [bF] at e ⊢
        rw [oF] at e
        rw [upd_same]
        exact e
      · rw [upd_ne bF]
        exact B2 b o h1 h2 bg (by rw [upd_ne bF]; exact kg _ _ e)
end
end L2.TB
/-! comprehensions of pairs, with a condition; dict(pairs) -/
namespace L2.TB
open PySem PySem.Spec PyProof.Rows
theorem opt_lc {α : Type} {J : It} {g : TG} {tt : TT} {te : TE} {vs : List Nat} {σ : St} {H1 : Hp} {Q : Addr → Hp → Prop} (xs : List α) (f : α → Option (Key × V)) (short : xs.length < 1000) (go : ∀ i H, Same H1 H → i < xs.length → J.go i H) (stop : ∀ H, Same H1 H → J.stop xs.length H)
    (turn : ∀ (i : Nat) (v : V) (a : α) (H H' : Hp) (C : V → Hp → Prop) (N : Hp → Prop), xs[i]? = some a → Same H1 H → J.yld i H v H' → (∀ k x, f a = some (k, x) → ∀ t H4, H4 t = some (.tup [kV k, x]) → Same H H4 → C (.ref t) H4) → (f a = none → ∀ H4, Same H H4 → N H4) →
      g v (wipe σ vs) H' fun σ2 H2 => wipe σ2 vs = wipe σ vs ∧ tt σ2 H2 fun b H3 => if b = true then te σ2 H3 C else N H3)
    (fin : ∀ H D ps, H1 D = none → H D = some (.lst ((ps : List Addr).map V.ref)) → Paired (fun p (kv : Key × V) => H p = some (.tup [kV kv.1, kv.2])) ps (xs.filterMap f) → Same H1 H → Q D H) : LcW J g tt te vs σ H1 Q := by
  intro D nD
  refine ⟨fun i m H => m = xs.length - i ∧ i ≤ xs.length ∧ (∃ ps : List Addr, H D = some (.lst (ps.map V.ref)) ∧ ps.length ≤ i ∧ Paired (fun p (kv : Key × V) => H p = some (.tup [kV kv.1, kv.2])) ps ((xs.take i).filterMap f)) ∧ Same H1 H,
    ⟨_, rfl, Nat.zero_le _, ⟨[], upd_same, Nat.le_refl _, by rw [List.take_zero]; exact .nil⟩, same_new nD⟩, ?_⟩
  rintro i m H ⟨rfl, le, ⟨ps, oD, lp, pr⟩, s1⟩
  by_cases lt : i < xs.length
  · refine .inr ⟨go i H s1 lt, fun H' => (∃ ps : List Addr, H' D = some (.lst (ps.map V.ref)) ∧ ps.length ≤ i + 1 ∧ Paired (fun p (kv : Key × V) => H' p = some (.tup [kV kv.1, kv.2])) ps ((xs.take (i + 1)).filterMap f)) ∧ Same H1 H', fun H' h => ⟨xs.length - (i + 1), by omega, rfl, lt, h⟩, fun x H' yl => ?_⟩
    have ea : xs[i]? = some xs[i] := List.getElem?_eq_getElem lt
    have et : (xs.take (i + 1)).filterMap f = (xs.take i).filterMap f ++ (f xs[i]).toList := by
      rw [List.take_succ, ea, List.filterMap_append]
      show _ ++ List.filterMap f [xs[i]] = _
      cases e : f xs[i] <;> simp [e]
    refine turn i x xs[i] H H' _ _ ea s1 yl (fun k x ek t H4 ot s4 => ?_) (fun en H4 s4 => ?_)
    · have oD4 := s4 _ _ oD
      have tD : t ≠ D := fun z => by rw [z, oD4] at ot; cases ot
      have up : ∀ {l : List V} b o, b ≠ D → H4 b = some o → upd H4 D (.lst l) b = some o := fun b o nb e => by rw [upd_ne nb]; exact e
      refine ⟨_, oD4, by rw [sizeLine_eq, List.length_map]; omega, ⟨ps ++ [t], by rw [upd_same, List.map_append]; rfl, by rw [List.length_append]; show _ + 1 ≤ _; omega, ?_⟩, ?_⟩
      · rw [et, ek]
        exact paired_join (Paired.mapP pr fun p kv h => up _ _ (fun z => by rw [z, oD] at h; cases h) (s4 _ _ h)) (up _ _ tD ot)
      · intro b u e
        rw [upd_ne (ne_of_none e nD)]
        exact s4 _ _ (s1 _ _ e)
    · refine ⟨⟨ps, s4 _ _ oD, by omega, ?_⟩, s1.trans s4⟩
      rw [et, en]
      simp only [Option.toList_none, List.append_nil]
      exact Paired.mapP pr fun p kv h => s4 _ _ h
  · obtain rfl : i = xs.length := by omega
    rw [List.take_length] at pr
    exact .inl ⟨stop H s1, fin H D ps nD oD pr s1⟩
theorem merge_new : ∀ (kvs acc : List (Key × V)), ((acc ++ kvs).map (·.1)).Nodup → mergeK acc kvs = acc ++ kvs
  | [], acc, _ => by simp [mergeK]
  | p :: more, acc, h => by
    have hn : p.1 ∉ acc.map (·.1) := fun z => by
      rw [List.map_append, List.nodup_append] at h
      exact h.2.2 _ z p.1 (by simp) rfl
    show mergeK (putK acc p.1 p.2) more = _
    rw [put_last hn, merge_new more _ (by rw [List.append_assoc]; exact h), List.append_assoc]
    rfl
theorem merge_nd {kvs : List (Key × V)} (h : (kvs.map (·.1)).Nodup) : mergeK [] kvs = kvs := by
  rw [merge_new kvs [] (by simpa using h), List.nil_append]
def rDk (K : PySem.W.Frag) : List V → Hp → VK → Prop := fun vs H Q => ∃ (l : Addr) (ts : List Addr) (es : List (Key × V)), vs = [.ref l] ∧ SqL K H l (ts.map V.ref) ∧ Paired (fun t e => SqT K H t [kV e.1, e.2]) ts es ∧ ∀ d, H d = none → Q (.ref d) (upd H d (.dK (mergeK [] es)))
theorem call_dk {X : Cx} (hc : X.calm = true) : CallR X (.type "dict") (rDk X.K) := call_dictP hc
theorem nd_dkS {kvs : List (Str × Int)} (nd : (kvs.map (·.1)).Nodup) : ((dkS kvs).map (·.1)).Nodup := by
  have : (dkS kvs).map (·.1) = (kvs.map (·.1)).map Sum.inr := by
    unfold dkS
    rw [List.map_map, List.map_map]
    rfl
  rw [this]
  exact List.Pairwise.map Sum.inr (fun a b h e => h (Sum.inr.inj e)) nd
end L2.TB
/-! _law_s_world, _law_s_answer, _law_s_is_world -/
namespace L2.TB
open PySem PySem.Spec PyProof.Rows
def spWorldL (K : PySem.W.Frag) : Sp := fun vs H Q _ => ∃ (l ls u : Addr) (us : List Str) (N : Int), vs = [.ref l, .ref u, .bl true] ∧ Strm H l ls N ∧ N ≤ 800000 ∧ H u = some (.lst (us.map V.str)) ∧ u ≠ l ∧ u ≠ ls ∧ us.Nodup ∧ us.length < 1000 ∧
  ∀ H' d kvs, H d = none → d ≠ l → d ≠ ls → WldAt H' d us kvs → (∀ e ∈ kvs, NumOk e.2) → Strm H' l ls (N + 4 * us.length) → But l ls H H' → Q (.ref d) H'
abbrev NWo : List Str := ["stream", "unknowns", "is_wide", "name"]
theorem scWorldL : FnScope NWo ["stream", "unknowns", "is_wide"] (defScope sWorldL) := ⟨rfl, rfl, rfl, by decide +kernel, rfl, by decide +kernel, by decide +kernel⟩
def sumZ (kvs row : List (Str × Int)) : Int := (row.map fun e => e.2 * ((kvs.find? fun x => decide (x.1 = e.1)).map (·.2)).getD 0).sum
def ansL (kvs : List (Str × Int)) (s : SideT) : Int := if s.2 = 0 then sumZ kvs s.1 else sumZ kvs s.1 % s.2
def spAnswerL : Sp := fun vs H Q _ => ∃ (p d w : Addr) (us : List Str) (s : SideT) (kvs : List (Str × Int)), vs = [.ref p, .ref w] ∧ H p = some (.tup [.ref d, .int s.2]) ∧ H d = some (.dK (dkS s.1)) ∧ SideOk us s ∧ s.1.length < 1000 ∧ WldAt H w us kvs ∧ (∀ e ∈ kvs, NumOk e.2) ∧ d ≠ w ∧ ∀ H', Same H H' → Q (.int (ansL kvs s)) H'
abbrev NAw : List Str := ["question", "world", "row", "modulus", "whole", "name"]
theorem scAnswerL : FnScope NAw ["question", "world"] (defScope sAnswerL) := ⟨rfl, rfl, rfl, by decide +kernel, rfl, by decide +kernel, by decide +kernel⟩
def spIsWorldL : Sp := fun vs H Q _ => ∃ (u w : Addr) (us : List Str) (kvs : List (Str × Int)), vs = [.ref u, .ref w] ∧ H u = some (.lst (us.map V.str)) ∧ WldAt H w us kvs ∧ ∀ H', Same H H' → Q (.bl true) H'
abbrev NIl : List Str := ["unknowns", "thing", "name"]
theorem scIsWorldL : FnScope NIl ["unknowns", "thing"] (defScope sIsWorldL) := ⟨rfl, rfl, rfl, by decide +kernel, rfl, by decide +kernel, by decide +kernel⟩
section
variable {P : Program} {w : World} {K : PySem.W.Frag} {mg : Str → Option Value} {base : Heap} {f fM fU : Addr} {fd fdM fdU : FuncData}
theorem ok_worldL (F : FunD K "_law_s_world" "_law_s_world" (defArgs sWorldL) (defBody sWorldL) (defScope sWorldL) [.bl false] [] f fd) (gM : mg "_law_mixed" = some (.ref fM)) (kM : PySem.W.keepIn K (.ref fM) = true) (GM : FnOk P w K mg base CX0 2 fM fdM ["stream", "some"] (spMixed K)) (bM : Binds K fdM ["stream", "some"] [])
    (gU : mg "_law_s_number" = some (.ref fU)) (kU : PySem.W.keepIn K (.ref fU) = true) (GU : FnOk P w K mg base CX0 2 fU fdU ["stream", "far", "is_wide"] spNumber) (bU : Binds K fdU ["stream", "far", "is_wide"] []) (nD : mg "dict" = none) : FnOk P w K mg base CX0 3 f fd ["stream", "unknowns", "is_wide"] (spWorldL K) := by
  refine FunD.ok F scWorldL (fun vs H Q E h => by obtain ⟨l, ls, u, us, N, e, _⟩ := h; rw [e]; rfl) fun cdv A outer s H vs Q E hr hsp => ?_
  obtain ⟨l, ls, u, us, N, rfl, S, hN, ou, u1, u2, und, ush, hq⟩ := hsp
  have nd := scWorldL.nd
  refine ⟨_, PSs.nox (st := defBody sWorldL) (pss_one (ps_ret (pe_callTy (r := rDk K) (call_dk rfl) rfl nD boot_dict' (pa_cons (pe_lc (own := [("name", 3)]) (tt := tYes) (g := gName 3) (te := tTup (tCons (tVar 3) (tCons (tCall spNumber [] E0 (tCons (tVar 0) (tCons (tC (.int 10)) (tCons (tVar 2) tNil)))) tNil))) rfl nd (pi_list (pe_call GM hr rfl gM kM bM .nil pass0 (pa_cons (pv 0) (pa_cons (pv 1) pa_nil)))) (blkOk_by (N := NWo) (sc := defScope sWorldL) (by decide +kernel)) (fun _ _ _ _ _ => pg_name (i := 3) nd rfl (Or.inl rfl)) (fun _ _ _ _ _ => pts_nil)
    (fun _ _ _ _ _ => pe_tup (pa_cons (pv 3) (pa_cons (pe_call GU hr rfl gU kU bU .nil pass0 (pa_cons (pv 0) (pa_cons pe_int (pa_cons (pv 2) pa_nil)))) pa_nil)))) pa_nil)))), ?_⟩
  refine ⟨_, rfl, _, rfl, l, ls, u, _, _, rfl, S, by omega, SqL.of ou, by rw [List.length_map]; omega, fun H1 q ys pm nq oq S1 B1 => ?_⟩
  obtain ⟨ks, rfl⟩ : ∃ ks : List Str, ys = ks.map V.str := strs_of ys fun y hy => by
    obtain ⟨x, _, rfl⟩ := List.mem_map.mp (pm.mem_iff.mp hy)
    exact ⟨x, rfl⟩
  have pk : ks.Perm us := by
    have z := pm.map (fun v : V => match v with | .str x => x | _ => Str.ofString "")
    rw [List.map_map, List.map_map] at z
    have e1 : ∀ l : List Str, l.map ((fun v : V => match v with | .str x => x | _ => Str.ofString "") ∘ V.str) = l := fun l => by
      induction l with
      | nil => rfl
      | cons a l ih => rw [List.map_cons, ih]; rfl
    rw [e1, e1] at z
    exact z
  have lk := pk.length_eq
  have aq := S.apart (Same.refl _) nq
  rw [List.length_map] at S1
  refine ⟨q, rfl, ⟨_, SqL.of oq⟩, fun D nD1 => ?_⟩
  have aD := S1.apart (Same.refl _) nD1
  refine lc_list (xs := ks.map V.str) (fun j H' => (∃ (ts : List Addr) (kvs : List (Str × Int)), H' D = some (.lst (ts.map V.ref)) ∧ Paired (fun t (e : Str × Int) => H' t = some (.tup [.str e.1, .int e.2]) ∧ t ≠ l ∧ t ≠ ls ∧ t ≠ D) ts kvs ∧ kvs.map (·.1) = ks.take j ∧ ∀ e ∈ kvs, NumOk e.2) ∧ Strm H' l ls (N + us.length + 3 * j) ∧ But l ls H1 H')
    ⟨⟨[], [], upd_same, .nil, by simp, fun e he => by cases he⟩, (S1.same (same_new nD1)).mono (by omega), .of (same_new nD1)⟩ (fun j H' _ h => SqL.of (h.2.2 _ _ aq.1 aq.2 oq)) ?_ ?_
  · rintro j v H2 ev ⟨⟨ts, kvs, oD, pt, ek, kn⟩, S2, B2⟩
    rw [List.getElem?_map] at ev
    obtain ⟨x, ex, rfl⟩ := Option.map_eq_some_iff.mp ev
    have lj : j < ks.length := (List.getElem?_eq_some_iff.mp ex).1
    refine ⟨rfl, ?_⟩
    refine ⟨_, rfl, _, rfl, _, rfl, l, ls, 10, _, true, rfl, S2, by omega, by decide, by decide, fun H3 z zok S3 B3 => ?_⟩
    refine ⟨(by show 2 ≤ sizeLine; decide), fun t nt => ?_⟩
    have kt := same_new (o := .tup [.str x, .int z]) nt
    have at_ := S3.apart (Same.refl _) nt
    have oD3 := kt _ _ (B3 _ _ aD.1 aD.2 oD)
    have tD : t ≠ D := fun z => by rw [z, B3 _ _ aD.1 aD.2 oD] at nt; cases nt
    have lts : ts.length = j := by
      have e1 := Paired.length pt
      have e2 := congrArg List.length ek
      rw [List.length_map, List.length_take] at e2
      omega
    refine ⟨_, oD3, by rw [sizeLine_eq, List.length_map]; omega, ⟨ts ++ [t], kvs ++ [(x, z)], by rw [upd_same, List.map_append]; rfl, ?_, ?_, ?_⟩, (strm_upd (S3.same kt) aD).mono (by omega), ?_⟩
    · refine paired_join (Paired.mapP pt fun t e h => ⟨?_, h.2⟩) ⟨by rw [upd_ne tD, upd_same], at_.1, at_.2, tD⟩
      rw [upd_ne h.2.2.2]
      exact kt _ _ (B3 _ _ h.2.1 h.2.2.1 h.1)
    · rw [List.map_append, ek, List.take_succ, ex]
      rfl
    · intro e he
      rcases List.mem_append.mp he with he | he
      · exact kn e he
      · obtain rfl : e = (x, z) := by simpa using he
        exact zok
    · intro b o h1 h2 e
      rw [upd_ne (ne_of_none e nD1)]
      exact kt _ _ (B3 _ _ h1 h2 (B2 _ _ h1 h2 e))
  · rintro H2 ⟨⟨ts, kvs, oD, pt, ek, kn⟩, S2, B2⟩
    rw [List.length_map, List.take_length] at ek
    have knd : (kvs.map (·.1)).Nodup := by rw [ek]; exact pk.nodup_iff.mpr und
    refine ⟨D, ts, dkS kvs, rfl, SqL.of oD, ?_, fun d nd2 => ?_⟩
    · clear ek kn knd oD
      induction pt with
      | nil => exact .nil
      | cons h _ ih => exact .cons (SqT.of h.1) ih
    · rw [merge_nd (nd_dkS knd)]
      have kd := same_new (o := .dK (dkS kvs)) nd2
      have ad := S2.apart (Same.refl _) nd2
      refine hq _ d kvs ((B1.trans B2).free ad nd2) ad.1 ad.2 ⟨upd_same, by rw [ek]; exact pk, und, ush⟩ kn ((S2.same kd).mono (by rw [List.length_map]; omega)) ((B1.trans B2).trans (.of kd))
theorem find_at {kvs : List (Str × Int)} {x : Str} {z : Int} (h : valV (dkS kvs) (Sum.inr x) = some (.int z)) : ((kvs.find? fun e => decide (e.1 = x)).map (·.2)).getD 0 = z := by
  have e := val_dkS kvs x
  rw [h] at e
  exact (V.int.inj e).symm
theorem ok_answerL (F : Fun K "_law_s_answer" "_law_s_answer" sAnswerL f fd) (nS : mg "sum" = none) : FnOk P w K mg base CX0 1 f fd ["question", "world"] spAnswerL := by
  refine F.ok scAnswerL (fun vs H Q E h => by obtain ⟨p, d, w, us, s, kvs, e, _⟩ := h; rw [e]; rfl) fun cdv A outer s H vs Q E hr hsp => ?_
  obtain ⟨p, d, wd, us, sd, kvs, rfl, op, od, so, sl, W, kn, dw, hq⟩ := hsp
  have nd := scAnswerL.nd
  have hu := hu_of hr
  refine ⟨_, pss_cons (ps_asg (pv 0) (pg_tup rfl (pgs_cons (pg_name (i := 2) nd rfl (Or.inr rfl)) (pgs_cons (pg_name (i := 3) nd rfl (Or.inl rfl)) pgs_nil))))
    (pss_cons (ps_set (i := 4) nd rfl (Or.inl rfl) (pe_callB (r := rSum K) (cr_sum rfl) rfl nS boot_sumN (pa_cons (pe_lock (pe_lc (own := [("name", 5)]) (g := gName 5) (tt := tYes) (te := tOp (rI CMul fun i j => .int (i * j)) (tDGet (tVar 2) (tVar 5)) (tDGet (tVar 1) (tVar 5))) rfl nd (pi_keys (pv 2)) (blkOk_by (N := NAw) (sc := defScope sAnswerL) (by decide +kernel)) (fun _ _ _ _ _ => pg_name (i := 5) nd rfl (Or.inl rfl)) (fun _ _ _ _ _ => pts_nil)
        (fun _ _ _ _ _ => pe_op op_mul (pe_dget hu (pv 2) (pv 5) (fun _ _ => rfl)) (pe_dget hu (pv 1) (pv 5) (fun _ _ => rfl))))) pa_nil)))
    (pss_one (ps_ret (pe_ifExp (pt_cmpR op_eq (pv 3) pe_int (nomark _)) (pv 4) (pe_op op_mod (pv 4) (pv 3)))))), ?_⟩
  let g : Str × Int → Int := fun e => e.2 * ((kvs.find? fun x => decide (x.1 = e.1)).map (·.2)).getD 0
  have ldk : (dkS sd.1).length = sd.1.length := by unfold dkS; rw [List.length_map]
  refine ⟨_, rfl, p, _, rfl, SqT.of op, rfl, _, _, rfl, _, _, rfl, rfl, ?_⟩
  refine ⟨d, _, od, trivial, fun oo => ⟨_, rfl, d, oo, rfl, .inl ⟨_, upd_same, lc_gen ((sd.1.map g).map V.int) (by rw [List.length_map, List.length_map]; omega) (fun j H' s lt => ⟨s _ _ upd_same, by rw [ldk]; rw [List.length_map, List.length_map] at lt; exact lt⟩) (fun H' s => ⟨s _ _ upd_same, by rw [ldk, List.length_map, List.length_map]; exact Nat.le_refl _⟩) ?_ ?_⟩⟩⟩
  · rintro j v y H4 H5 Cn Nn ey s4 ⟨rfl, k, w', ek, rfl⟩ yes
    rw [List.getElem?_map, List.getElem?_map] at ey
    obtain ⟨z, ez, rfl⟩ := Option.map_eq_some_iff.mp ey
    obtain ⟨e, ee, rfl⟩ := Option.map_eq_some_iff.mp ez
    obtain ⟨e1, e2⟩ := val_at_dkS so.nd ee
    rw [e1] at ek
    cases ek
    have ein := List.mem_of_getElem? ee
    obtain ⟨zw, hzw⟩ := W.get (so.sub e ein)
    have ow := s4 _ _ (show upd H d (.frz oo (.dK (dkS sd.1))) wd = _ by rw [upd_ne (Ne.symm dw)]; exact W.o)
    have gz : g e = e.2 * zw := by
      show e.2 * _ = _
      rw [find_at hzw]
    have nz : NumOk zw := by
      have := find_at hzw
      obtain ⟨e', he', ee'⟩ := List.mem_map.mp (W.pm.mem_iff.mpr (so.sub e ein))
      cases q : kvs.find? fun x => decide (x.1 = e.1) with
      | none =>
        rw [q] at this
        rw [← this]
        exact ⟨by decide, by decide⟩
      | some e3 =>
        rw [q] at this
        rw [← this]
        exact kn e3 (List.mem_of_find?_eq_some q)
    refine ⟨rfl, ?_⟩
    refine ⟨_, rfl, _, rfl, d, _, rfl, .inl ⟨_, Sum.inr e.1, .inr ⟨_, s4 _ _ upd_same⟩, rfl, e2.symm⟩, _, rfl, _, rfl, wd, _, rfl, .inl ⟨_, Sum.inr e.1, .inl ow, rfl, hzw.symm⟩, _, _, rfl, rfl, ?_⟩
    have ne := so.num e ein
    refine ⟨.inl ⟨by have := nz.1; have := ne.1; omega, by have := ne.2; omega⟩, ?_⟩
    have z := yes H5 (Same.refl _)
    rw [gz] at z
    exact z
  · intro H4 D nD oD s4
    obtain ⟨b1, s34⟩ := lock_offN od s4
    have Da : D ≠ d := fun z => by rw [z, upd_same] at nD; cases nD
    refine ⟨b1, D, _, rfl, SqL.of (by rw [upd_ne Da]; exact oD), ?_⟩
    have es : (sd.1.map g).sum = sumZ kvs sd.1 := rfl
    rw [es]
    refine ⟨_, rfl, rfl, ?_⟩
    unfold ansL at hq
    by_cases h : sd.2 = 0
    · rw [if_pos h] at hq
      exact ⟨true, congrArg V.bl (decide_eq_true (congrArg V.int h)), iteT ⟨_, rfl, hq _ s34⟩⟩
    · rw [if_neg h] at hq
      refine ⟨false, congrArg V.bl (decide_eq_false (fun z => h (V.int.inj z))), iteF ⟨_, rfl, _, rfl, _, _, rfl, rfl, ?_, hq _ s34⟩⟩
      rcases so.mo with z | z
      · exact absurd z h
      · omega
theorem ok_isWorldL (F : Fun K "_law_s_is_world" "_law_s_is_world" sIsWorldL f fd) (nI : mg "isinstance" = none) (nD : mg "dict" = none) (nN : mg "len" = none) (nA : mg "all" = none) (nInt : mg "int" = none) (nB : mg "bool" = none) : FnOk P w K mg base CX0 1 f fd ["unknowns", "thing"] spIsWorldL := by
  refine F.ok scIsWorldL (fun vs H Q E h => by obtain ⟨u, w, us, kvs, e, _⟩ := h; rw [e]; rfl) fun cdv A outer s H vs Q E hr hsp => ?_
  obtain ⟨u, d, us, kvs, rfl, hc, wd, hq⟩ := hsp
  have nd := scIsWorldL.nd
  have hu := hu_of hr
  refine ⟨_, pss_cons (ps_if (PW.pt (pw_or (pt_not (pt_val (pe_callB (r := rIsi K) call_isi rfl nI boot_isi (pa_cons (pv 1) (pa_cons (pe_bltn (v := .ty "dict") rfl nD boot_dict' rfl) pa_nil))))) (pw_or (pt_cmpR op_ne (pe_callB call_lenD rfl nN boot_len (pa_cons (pv 1) pa_nil)) (pe_callB call_len_seq rfl nN boot_len (pa_cons (pv 0) pa_nil)) (nomark _))
      (pw_or1 (pt_not (pt_val (pe_callB (cr_all rfl) rfl nA boot_allN (pa_cons (pe_lc (own := [("name", 2)]) (tt := tYes) rfl nd (pi_seq (pv 0)) (blkOk_by (N := NIl) (sc := defScope sIsWorldL) (by decide +kernel)) (fun _ _ _ _ _ => pg_name (i := 2) nd rfl (Or.inl rfl)) (fun _ _ _ _ _ => pts_nil) (fun _ _ _ _ _ => pe_cmp (pc_din hu (pv 2) (pv 1)))) pa_nil)))))))) (pss_one ps_never) pss_nil)
    (pss_one (ps_ret (pe_callB (cr_all rfl) rfl nA boot_allN (pa_cons (pe_lc (own := [("name", 2)]) (tt := tYes) rfl nd (pi_seq (pv 0)) (blkOk_by (N := NIl) (sc := defScope sIsWorldL) (by decide +kernel)) (fun _ _ _ _ _ => pg_name (i := 2) nd rfl (Or.inl rfl)) (fun _ _ _ _ _ => pts_nil)
      (fun _ _ _ _ _ => pe_and (pe_callB (r := rIsi K) call_isi rfl nI boot_isi (pa_cons (pe_dget hu (pv 1) (pv 2) (fun _ _ => rfl)) (pa_cons (pe_bltn (v := .ty "int") rfl nInt boot_int' rfl) pa_nil))) (pe_one (pe_not (pe_callB (r := rIsi K) call_isi rfl nI boot_isi (pa_cons (pe_dget hu (pv 1) (pv 2) (fun _ _ => rfl)) (pa_cons (pe_bltn (v := .ty "bool") rfl nB boot_bool' rfl) pa_nil))))))) pa_nil)))), ?_⟩
  have lk : (dkS kvs).length = us.length := by
    have z := wd.pm.length_eq
    rw [List.length_map] at z
    unfold dkS
    rw [List.length_map]
    exact z
  have sh := wd.sh
  refine ⟨_, rfl, _, _, _, _, true, rfl, .ty _, .base (.dK wd.o), kit_ty (by decide +kernel), _, rfl, iteF ?_⟩
  refine ⟨_, rfl, d, _, rfl, wd.o, _, rfl, u, _, rfl, .inl (SqL.of hc), rfl, false, congrArg V.bl (by simp [lk]), iteF ?_⟩
  refine ⟨_, rfl, lc_seq (.inl rfl) hc (by rw [List.length_map]; omega) (fun _ => true) (fun _ => .bl true) ?_ ?_⟩
  · rintro i v H2 Cn Nn ev s2 yes no
    rw [List.getElem?_map] at ev
    obtain ⟨x, ex, rfl⟩ := Option.map_eq_some_iff.mp ev
    obtain ⟨z, ez⟩ := wd.get (List.mem_of_getElem? ex)
    refine ⟨rfl, ?_⟩
    refine ⟨_, rfl, _, rfl, d, _, rfl, DGet.k (k := Sum.inr x) (s2 _ _ wd.o), ?_⟩
    rw [ez]
    exact yes rfl H2 (Same.refl _)
  · intro H2 D nD oD s2
    rw [const_mapN, bools_map] at oD
    refine ⟨D, _, rfl, SqL.of oD, ?_⟩
    rw [all_true]
    refine ⟨_, rfl, iteF ?_⟩
    refine ⟨_, rfl, lc_seq (.inl rfl) (s2 _ _ hc) (by rw [List.length_map]; omega) (fun _ => true) (fun _ => .bl true) ?_ ?_⟩
    · rintro i v H3 Cn Nn ev s3 yes no
      rw [List.getElem?_map] at ev
      obtain ⟨x, ex, rfl⟩ := Option.map_eq_some_iff.mp ev
      obtain ⟨z, ez⟩ := wd.get (List.mem_of_getElem? ex)
      refine ⟨rfl, ?_⟩
      have dg : DGet H3 d (.str x) (some (.int z)) := .inl ⟨_, Sum.inr x, .inl (s3 _ _ (s2 _ _ wd.o)), rfl, ez.symm⟩
      refine ⟨_, rfl, _, rfl, d, _, rfl, dg, _, _, _, _, true, rfl, .ty _, .base (.int z), kit_ty (by decide +kernel), true, rfl, iteT ?_⟩
      exact ⟨_, rfl, _, rfl, d, _, rfl, dg, _, _, _, _, false, rfl, .ty _, .base (.int z), kit_ty (by decide +kernel), false, rfl, yes rfl H3 (Same.refl _)⟩
    · intro H3 D2 nD2 oD2 s3
      rw [const_mapN, bools_map] at oD2
      refine ⟨D2, _, rfl, SqL.of oD2, ?_⟩
      rw [all_true]
      exact hq H3 (s2.trans s3)
end
end L2.TB
/-! Sums.__eq__ -/
namespace L2.TB
open PySem PySem.Spec PyProof.Rows
abbrev KeptT : Type := List (Str × (List Int × Int))
def keptD (us : List Str) (qs : List (Str × SideT)) : KeptT := qs.map fun q => (q.1, (vecZ us q.2.1, q.2.2))
theorem dp_kept {K : PySem.W.Frag} {H : Hp} {us : List Str} {ts : List Addr} {es : List (Key × V)} (h1 : Paired (fun (t : Addr) (q : Key × V) => H t = some (.tup [kV q.1, q.2])) ts es) : ∀ {qs : List (Str × SideT)}, Paired (KeptE us H) es qs → DpAll K H (ts.map V.ref) ((keptD us qs).map PySem.W.Datum.toD) := by
  induction h1 with
  | nil =>
    intro qs h2
    cases h2
    exact .nil
  | @cons t e ts es h _ ih =>
    intro qs h2
    cases h2 with
    | @cons _ q _ qs k h2 =>
      obtain ⟨k1, p, v, k2, k3, k4⟩ := k
      refine .cons (.tup (SqT.of h) ?_) (ih h2)
      rw [k1, k2]
      exact .cons (.str _) (.cons (.tup (SqT.of k3) (.cons (dp_intL k4) (.cons (.int _) .nil))) .nil)
def spSEq (C : Addr) : Sp := fun vs H Q _ => ∃ (a b : Addr) (u1 u2 : List Str) (q1 q2 : List (Str × SideT)), vs = [.ref a, .ref b] ∧ SumAt H C a u1 q1 ∧ SumAt H C b u2 q2 ∧ ∀ H', Same H H' → Q (.bl (decide (u1 = u2) && decide (keptD u1 q1 = keptD u2 q2))) H'
def spSEqO (K : PySem.W.Frag) (C : Addr) : Sp := fun vs H Q _ => ∃ (a : Addr) (y : V) (t : Value), vs = [.ref a, y] ∧ TyX K H y t ∧ PySem.W.kitOne K t (.ref C) = some false ∧ Q (.bl false) H
theorem scSEqS : FnScope ["self", "other"] ["self", "other"] (defScope sEqM) := ⟨rfl, rfl, rfl, by decide +kernel, rfl, by decide +kernel, by decide +kernel⟩
section
variable {P : Program} {w : World} {K : PySem.W.Frag} {mg : Str → Option Value} {base : Heap} {f C : Addr} {fd : FuncData}
theorem ok_sEqO (F : Fun K "__eq__" "Sums.__eq__" sEqM f fd) (gC : mg "Sums" = some (.ref C)) (gI : mg "isinstance" = none) : FnOk P w K mg base CX0 1 f fd ["self", "other"] (spSEqO K C) := by
  refine F.ok scSEqS (fun vs H Q E h => by obtain ⟨a, y, t, e, _⟩ := h; rw [e]; rfl) fun cdv A outer s H vs Q E hr hsp => ?_
  obtain ⟨a, y, t, rfl, ty, no, hq⟩ := hsp
  refine ⟨_, pss_cons (ps_if (pt_not (pt_val (pe_callB (r := rIsi K) call_isi rfl gI boot_isi (pa_cons (pv 1) (pa_cons (pe_glob (v := .ref C) rfl gC rfl) pa_nil))))) (pss_one (ps_ret pe_bl)) pss_nil)
    (pss_one ps_never), ?_⟩
  exact ⟨_, rfl, y, .ref C, t, .ref C, false, rfl, .own C, ty, no, _, rfl, iteT hq⟩
theorem ok_sEq (F : Fun K "__eq__" "Sums.__eq__" sEqM f fd) (S : SumC K C) (IC : C8.InsC K C) (gC : mg "Sums" = some (.ref C)) (gI : mg "isinstance" = none) (gL : mg "list" = none) : FnOk P w K mg base CX0 1 f fd ["self", "other"] (spSEq C) := by
  refine F.ok scSEqS (fun vs H Q E h => by obtain ⟨a, b, u1, u2, q1, q2, e, _⟩ := h; rw [e]; rfl) fun cdv A outer s H vs Q E hr hsp => ?_
  obtain ⟨a, b, u1, u2, q1, q2, rfl, ta, tb, hq⟩ := hsp
  obtain ⟨dx, ua, da, ea, ha, hua, hda, hka⟩ := id ta.ex
  obtain ⟨dy, ub, db, eb, hb, hub, hdb, hkb⟩ := id tb.ex
  have hu64 := hr.units
  refine ⟨_, pss_cons (ps_if (pt_not (pt_val (pe_callB (C8.call_isC IC) rfl gI boot_isi (pa_cons (pv 1) (pa_cons (pe_glob (v := .ref C) rfl gC rfl) pa_nil))))) (pss_one (ps_ret pe_bl)) pss_nil)
    (pss_one (ps_ret (pe_and (pe_cmpR (op_eqT (α := List Str) (by decide) hu64) (pe_fld (pv 0) rfl) (pe_fld (pv 1) rfl) (nomark _)) (pe_one (pe_cmpR (op_eqT (α := KeptT) (by decide) hu64) (LiI.pe_listItems rfl (pe_fld (pv 0) rfl) rfl gL boot_list') (LiI.pe_listItems rfl (pe_fld (pv 1) rfl) rfl gL boot_list') (nomark _)))))), ?_⟩
  refine ⟨_, rfl, b, dy, _, rfl, hb, _, rfl, iteF ?_⟩
  refine ⟨_, rfl, a, C, dx, _, _, rfl, ha, S.cl, S.nU, rfl, _, rfl, b, C, dy, _, _, rfl, hb, S.cl, S.nU, rfl, u1, u2, dp_strL hua, dp_strL hub, _, rfl, ?_⟩
  by_cases e : u1 = u2
  · rw [decide_eq_true e] at hq ⊢
    refine iteT ⟨_, rfl, a, C, dx, _, _, rfl, ha, S.cl, S.nS, rfl, da, ea, rfl, hda, fun H1 p1 t1 k1 n1 _ _ o1 r1 => ?_⟩
    have k1 : Same H H1 := k1
    refine ⟨_, rfl, b, C, dy, _, _, rfl, k1 _ _ hb, S.cl, S.nS, rfl, db, eb, rfl, k1 _ _ hdb, fun H2 p2 t2 k2 n2 _ _ o2 r2 => ?_⟩
    have k2 : Same H1 H2 := k2
    have k02 := k1.trans k2
    refine ⟨keptD u1 q1, keptD u2 q2, .lst (SqL.of (k2 _ _ o1)) (dp_kept (us := u1) (es := ea) (Paired.mapP r1 fun t e h => k2 _ _ h) (Paired.mapP hka fun e q h => h.keep fun b o e _ => k02 b o e)), .lst (SqL.of o2) (dp_kept (us := u2) (es := eb) r2 (Paired.mapP hkb fun e q h => h.keep fun b o e _ => k02 b o e)), ?_⟩
    exact hq H2 k02
  · rw [decide_eq_false e] at hq ⊢
    exact iteF (hq H (Same.refl _))
end
end L2.TB
/-! the answer that the law reckons is the program's; dicts of questions changed -/
namespace L2.TB
open PySem PySem.Spec PyProof.Rows
abbrev getZ (kvs : List (Str × Int)) (n : Str) : Int := ((kvs.find? fun e => decide (e.1 = n)).map (·.2)).getD 0
theorem getZ_cons (e : Str × Int) (kvs : List (Str × Int)) (n : Str) : getZ (e :: kvs) n = if e.1 = n then e.2 else getZ kvs n := by
  unfold getZ
  by_cases h : e.1 = n
  · rw [List.find?_cons_of_pos (by simpa using h), if_pos h]
    rfl
  · rw [List.find?_cons_of_neg (by simpa using h), if_neg h]
theorem getZ_out {kvs : List (Str × Int)} {n : Str} (h : n ∉ kvs.map (·.1)) : getZ kvs n = 0 := by
  induction kvs with
  | nil => rfl
  | cons e kvs ih =>
    rw [List.map_cons, List.mem_cons, not_or] at h
    rw [getZ_cons, if_neg (fun z => h.1 z.symm), ih h.2]
theorem dot_vec (us : List Str) (a b : List (Str × Int)) : dotZ (vecZ us a) (vecZ us b) = (us.map fun n => getZ a n * getZ b n).sum := by
  induction us with
  | nil => rfl
  | cons u us ih =>
    show getZ a u * getZ b u + dotZ (vecZ us a) (vecZ us b) = _
    rw [ih, List.map_cons, List.sum_cons]
theorem sum_if {us : List Str} {x : Str} {a : Int} {f : Str → Int} (g : Str → Int) (nd : us.Nodup) (hx : x ∈ us) (gx : g x = 0) : (us.map fun n => (if x = n then a else g n) * f n).sum = a * f x + (us.map fun n => g n * f n).sum := by
  induction us with
  | nil => cases hx
  | cons u us ih =>
    rw [List.nodup_cons] at nd
    rw [List.map_cons, List.map_cons, List.sum_cons, List.sum_cons]
    by_cases h : x = u
    · subst h
      have e : us.map (fun n => (if x = n then a else g n) * f n) = us.map fun n => g n * f n := List.map_congr_left fun n hn => by
        rw [if_neg (fun z => nd.1 (by rw [z]; exact hn))]
      rw [if_pos rfl, e, gx, Int.zero_mul, Int.zero_add]
    · have hx2 : x ∈ us := (List.mem_cons.mp hx).resolve_left h
      rw [if_neg h, ih nd.2 hx2]
      omega
theorem sum_row (us : List Str) (nd : us.Nodup) (f : Str → Int) : ∀ row : List (Str × Int), (row.map (·.1)).Nodup → (∀ e ∈ row, e.1 ∈ us) → (us.map fun n => getZ row n * f n).sum = (row.map fun e => e.2 * f e.1).sum
  | [], _, _ => by
    have e : us.map (fun n => getZ [] n * f n) = us.map fun _ => (0 : Int) := List.map_congr_left fun n _ => by
      show (0 : Int) * _ = 0
      rw [Int.zero_mul]
    rw [e]
    clear e nd
    induction us with
    | nil => rfl
    | cons u us ih => rw [List.map_cons, List.sum_cons, ih (by intro e he; cases he)]; rfl
  | e :: row, rn, sub => by
    rw [List.map_cons, List.nodup_cons] at rn
    have ih := sum_row us nd f row rn.2 fun x hx => sub x (List.mem_cons_of_mem _ hx)
    have e1 : us.map (fun n => getZ (e :: row) n * f n) = us.map fun n => (if e.1 = n then e.2 else getZ row n) * f n := List.map_congr_left fun n _ => by rw [getZ_cons]
    rw [e1, sum_if (getZ row) nd (sub e List.mem_cons_self) (getZ_out rn.1), ih, List.map_cons, List.sum_cons]
theorem ans_eq {us : List Str} {s : SideT} {kvs : List (Str × Int)} (nd : us.Nodup) (so : SideOk us s) : ansL kvs s = ansZ us kvs s := by
  unfold ansL ansZ remZ
  have e : dotZ (vecZ us s.1) (vecZ us kvs) = sumZ kvs s.1 := by
    rw [dot_vec]
    exact sum_row us nd (getZ kvs) s.1 so.nd so.sub
  rw [e]
/-! ### a dict changed at a key that it has -/
def putQ {α : Type} (qs : List (Str × α)) (n : Str) (s : α) : List (Str × α) := qs.map fun q => if q.1 = n then (q.1, s) else q
theorem putQ_keys {α : Type} (qs : List (Str × α)) (n : Str) (s : α) : (putQ qs n s).map (·.1) = qs.map (·.1) := by
  unfold putQ
  rw [List.map_map]
  refine List.map_congr_left fun q _ => ?_
  show (if q.1 = n then (q.1, s) else q).1 = q.1
  by_cases h : q.1 = n
  · rw [if_pos h]
  · rw [if_neg h]
theorem putQ_mem {α : Type} {qs : List (Str × α)} {n : Str} {s : α} {q : Str × α} (h : q ∈ putQ qs n s) : q ∈ qs ∨ (q.2 = s ∧ q.1 = n) := by
  obtain ⟨q0, h0, rfl⟩ := List.mem_map.mp h
  by_cases e : q0.1 = n
  · rw [if_pos e]
    exact .inr ⟨rfl, e⟩
  · rw [if_neg e]
    exact .inl h0
theorem put_has {es : List (Key × V)} {k : Key} {v : V} (h : k ∈ es.map (·.1)) : putK es k v = es.map fun kv => if kv.1 = k then (kv.1, v) else kv := by
  unfold putK
  have : (es.any fun kv => decide (kv.1 = k)) = true := by
    obtain ⟨e, he, rfl⟩ := List.mem_map.mp h
    exact List.any_eq_true.mpr ⟨e, he, by simp⟩
  rw [if_pos this]
theorem put_side {A : Addr → Prop} {H : Hp} {es : List (Key × V)} {qs : List (Str × SideT)} {n : Str} {v : V} {s : SideT} (h : Paired (SideE A H) es qs) (hn : n ∈ qs.map (·.1)) (hv : SideAt A H v s) : Paired (SideE A H) (putK es (Sum.inr n) v) (putQ qs n s) := by
  rw [put_has (by rw [keys_side h]; exact List.mem_map_of_mem hn)]
  clear hn
  unfold putQ
  induction h with
  | nil => exact .nil
  | @cons e q es qs h _ ih =>
    rw [List.map_cons, List.map_cons]
    refine .cons ?_ ih
    have e1 : e.1 = Sum.inr q.1 := h.1
    by_cases c : q.1 = n
    · rw [if_pos c, if_pos (by rw [e1, c])]
      exact ⟨e1, hv⟩
    · rw [if_neg c, if_neg (by rw [e1]; exact fun z => c (Sum.inr.inj z))]
      exact h
theorem put_dkS (kvs : List (Str × Int)) (n : Str) (z : Int) (hn : n ∈ kvs.map (·.1)) : putK (dkS kvs) (Sum.inr n) (.int z) = dkS (putQ kvs n z) := by
  rw [put_has (by unfold dkS; rw [List.map_map]; exact List.mem_map.mpr (by obtain ⟨e, he, rfl⟩ := List.mem_map.mp hn; exact ⟨e, he, rfl⟩))]
  unfold dkS putQ
  rw [List.map_map, List.map_map]
  refine List.map_congr_left fun e _ => ?_
  show (if Sum.inr e.1 = (Sum.inr n : Key) then _ else _) = _
  by_cases c : e.1 = n
  · rw [if_pos (by rw [c])]
    show _ = ((Sum.inr (if e.1 = n then (e.1, z) else e).1 : Key), V.int (if e.1 = n then (e.1, z) else e).2)
    rw [if_pos c]
  · rw [if_neg (fun h => c (Sum.inr.inj h))]
    show _ = ((Sum.inr (if e.1 = n then (e.1, z) else e).1 : Key), V.int (if e.1 = n then (e.1, z) else e).2)
    rw [if_neg c]
/-- the row with x at n -/
def setZ (kvs : List (Str × Int)) (n : Str) (z : Int) : List (Str × Int) := if n ∈ kvs.map (·.1) then putQ kvs n z else kvs ++ [(n, z)]
theorem set_dkS (kvs : List (Str × Int)) (n : Str) (z : Int) : putK (dkS kvs) (Sum.inr n) (.int z) = dkS (setZ kvs n z) := by
  unfold setZ
  by_cases h : n ∈ kvs.map (·.1)
  · rw [if_pos h, put_dkS kvs n z h]
  · rw [if_neg h, put_last]
    · unfold dkS
      rw [List.map_append]
      rfl
    · intro hx
      obtain ⟨e, he, e1⟩ := List.mem_map.mp hx
      obtain ⟨e', he', rfl⟩ := List.mem_map.mp he
      exact h (List.mem_map.mpr ⟨e', he', Sum.inr.inj e1⟩)
theorem setZ_keys {kvs : List (Str × Int)} {n : Str} {z : Int} (nd : (kvs.map (·.1)).Nodup) : ((setZ kvs n z).map (·.1)).Nodup := by
  unfold setZ
  by_cases h : n ∈ kvs.map (·.1)
  · rw [if_pos h, putQ_keys]
    exact nd
  · rw [if_neg h, List.map_append, List.nodup_append]
    exact ⟨nd, by simp, fun a ha b hb => by
      obtain rfl : b = n := by simpa using hb
      exact fun z => h (z ▸ ha)⟩
theorem setZ_sub {kvs : List (Str × Int)} {n : Str} {z : Int} {us : List Str} (sub : ∀ e ∈ kvs, e.1 ∈ us) (hn : n ∈ us) : ∀ e ∈ setZ kvs n z, e.1 ∈ us := by
  unfold setZ
  intro e he
  by_cases h : n ∈ kvs.map (·.1)
  · rw [if_pos h] at he
    rcases putQ_mem he with h | h
    · exact sub e h
    · rw [h.2]; exact hn
  · rw [if_neg h] at he
    rcases List.mem_append.mp he with h | h
    · exact sub e h
    · obtain rfl : e = (n, z) := by simpa using h
      exact hn
theorem setZ_len (kvs : List (Str × Int)) (n : Str) (z : Int) : (setZ kvs n z).length ≤ kvs.length + 1 := by
  unfold setZ
  by_cases h : n ∈ kvs.map (·.1)
  · rw [if_pos h]
    unfold putQ
    rw [List.length_map]
    omega
  · rw [if_neg h, List.length_append]
    exact Nat.le_refl _
theorem getZ_putQ {n : Str} {z : Int} : ∀ {kvs : List (Str × Int)}, n ∈ kvs.map (·.1) → getZ (putQ kvs n z) n = z
  | [], h => by cases h
  | e :: kvs, h => by
    show getZ ((if e.1 = n then (e.1, z) else e) :: putQ kvs n z) n = z
    by_cases c : e.1 = n
    · rw [if_pos c, getZ_cons, if_pos c]
    · rw [if_neg c, getZ_cons, if_neg c]
      rw [List.map_cons, List.mem_cons] at h
      exact getZ_putQ (h.resolve_left fun x => c x.symm)
theorem getZ_app {n : Str} {z : Int} : ∀ {kvs : List (Str × Int)}, n ∉ kvs.map (·.1) → getZ (kvs ++ [(n, z)]) n = z
  | [], _ => by
    show getZ [(n, z)] n = z
    rw [getZ_cons, if_pos rfl]
  | e :: kvs, h => by
    rw [List.map_cons, List.mem_cons, not_or] at h
    show getZ (e :: (kvs ++ [(n, z)])) n = z
    rw [getZ_cons, if_neg (fun x => h.1 x.symm), getZ_app h.2]
theorem getZ_set (kvs : List (Str × Int)) (n : Str) (z : Int) : getZ (setZ kvs n z) n = z := by
  unfold setZ
  by_cases h : n ∈ kvs.map (·.1)
  · rw [if_pos h, getZ_putQ h]
  · rw [if_neg h, getZ_app h]
theorem put_other {us : List Str} {qs : List (Str × SideT)} {n : Str} {s s' : SideT} (nd : (qs.map (·.1)).Nodup) (hin : (n, s) ∈ qs) (ne : vecZ us s.1 ≠ vecZ us s'.1 ∨ s.2 ≠ s'.2) : keptD us qs ≠ keptD us (putQ qs n s') := by
  intro e
  obtain ⟨j, ej⟩ := List.getElem?_of_mem hin
  have z := congrArg (fun l => l[j]?) e
  unfold keptD putQ at z
  simp only [List.getElem?_map, ej, Option.map_some] at z
  have z := Option.some.inj z
  rw [if_pos True.intro] at z
  have z := congrArg Prod.snd z
  rcases ne with h | h
  · exact h (congrArg (fun p : List Int × Int => p.1) z)
  · exact h (congrArg (fun p : List Int × Int => p.2) z)
theorem rev_ne {α : Type} {l : List α} (nd : l.Nodup) (h : 2 ≤ l.length) : l ≠ l.reverse := by
  intro e
  have z : l[0]? = l.reverse[0]? := congrArg (fun l => l[0]?) e
  rw [List.getElem?_reverse (by omega)] at z
  have a : l[0]? = some (l[0]'(by omega)) := List.getElem?_eq_getElem _
  have := (List.getElem?_inj (by omega) nd).mp z
  omega
theorem kept_rev {us : List Str} {qs : List (Str × SideT)} (nd : (qs.map (·.1)).Nodup) (h : 2 ≤ qs.length) : keptD us qs ≠ keptD us qs.reverse := by
  intro e
  have z := congrArg (List.map (·.1)) e
  unfold keptD at z
  rw [List.map_map, List.map_map, List.map_reverse] at z
  exact rev_ne nd (by rw [List.length_map]; exact h) z
theorem kept_more {us : List Str} {qs : List (Str × SideT)} {q : Str × SideT} : keptD us qs ≠ keptD us (qs ++ [q]) := by
  intro e
  have z := congrArg List.length e
  unfold keptD at z
  rw [List.length_map, List.length_map, List.length_append] at z
  simp at z
end L2.TB
/-! _law_s_others -/
namespace L2.TB
open PySem PySem.Spec PyProof.Rows
structure SumsG (us : List Str) (qs : List (Str × SideT)) : Prop where
  und : us.Nodup
  ul : 0 < us.length ∧ us.length < 1000
  un : ∀ x ∈ us, NmOk x
  qnd : (qs.map (·.1)).Nodup
  ql : 0 < qs.length ∧ qs.length < 1000
  qn : ∀ q ∈ qs, NmOk q.1
  s : ∀ q ∈ qs, SideG us q.2 ∧ q.2.1.length < 1000
theorem sub_len {us : List Str} {kvs : List (Str × Int)} (nd : (kvs.map (·.1)).Nodup) (sub : ∀ e ∈ kvs, e.1 ∈ us) : kvs.length ≤ us.length := by
  have z := List.Nodup.length_le_of_subset nd (fun x hx => by
    obtain ⟨e, he, rfl⟩ := List.mem_map.mp hx
    exact sub e he)
  rw [List.length_map] at z
  exact z
theorem SumsOk.g {us : List Str} {qs : List (Str × SideT)} (h : SumsOk us qs) : SumsG us qs :=
  ⟨h.und, by have := h.ul; omega, fun x hx => (h.un x hx).1, h.qnd, by have := h.ql; omega, fun q hq => (h.qn q hq).1, fun q hq => ⟨(h.s q hq).g, by have := sub_len (h.s q hq).nd (h.s q hq).sub; have := h.ul; omega⟩⟩
theorem SideAt.kp {A A' : Addr → Prop} {H H' : Hp} {v : V} {s : SideT} (h : SideAt A H v s) (k : ∀ b o, A b → H b = some o → A' b ∧ H' b = some o) : SideAt A' H' v s := by
  obtain ⟨p, d, e, a1, a2, o1, o2⟩ := h
  exact ⟨p, d, e, (k _ _ a1 o1).1, (k _ _ a2 o2).1, (k _ _ a1 o1).2, (k _ _ a2 o2).2⟩
theorem SideE.kp {A A' : Addr → Prop} {H H' : Hp} {e : Key × V} {q : Str × SideT} (h : SideE A H e q) (k : ∀ b o, A b → H b = some o → A' b ∧ H' b = some o) : SideE A' H' e q := ⟨h.1, h.2.kp k⟩
theorem QuesAt.kp {A A' : Addr → Prop} {H H' : Hp} {F : Addr} {qs : List (Str × SideT)} (h : QuesAt A H F qs) (hF : ∀ o, H F = some o → H' F = some o) (k : ∀ b o, A b → H b = some o → A' b ∧ H' b = some o) : QuesAt A' H' F qs := by
  obtain ⟨es, o, p⟩ := h
  exact ⟨es, hF _ o, Paired.mapP p fun e q h => h.kp k⟩
/-- another field's parts, all of them in A -/
def Oth (A : Addr → Prop) (H : Hp) (us : List Str) (qs : List (Str × SideT)) (t : Addr) : Prop := ∃ ui Fi us' qs', A t ∧ A ui ∧ A Fi ∧ H t = some (.tup [.ref ui, .ref Fi]) ∧ H ui = some (.lst (us'.map V.str)) ∧ QuesAt A H Fi qs' ∧ SumsG us' qs' ∧ (us ≠ us' ∨ keptD us qs ≠ keptD us' qs')
theorem Oth.kp {A A' : Addr → Prop} {H H' : Hp} {us : List Str} {qs : List (Str × SideT)} {t : Addr} (h : Oth A H us qs t) (k : ∀ b o, A b → H b = some o → A' b ∧ H' b = some o) : Oth A' H' us qs t := by
  obtain ⟨ui, Fi, us', qs', a1, a2, a3, o1, o2, o3, g, ne⟩ := h
  obtain ⟨es, o4, p⟩ := id o3
  exact ⟨ui, Fi, us', qs', (k _ _ a1 o1).1, (k _ _ a2 o2).1, (k _ _ a3 o4).1, (k _ _ a1 o1).2, (k _ _ a2 o2).2, o3.kp (fun o e => (k _ _ a3 e).2) k, g, ne⟩
/-- what is found so far -/
structure OSt (Hs : Hp) (l ls u F fo : Addr) (us : List Str) (qs : List (Str × SideT)) (N : Int) (H : Hp) (ts : List Addr) : Prop where
  o : H fo = some (.lst (ts.map V.ref))
  n : ts.length ≤ 10
  fa : fo ≠ l ∧ fo ≠ ls
  ou : H u = some (.lst (us.map V.str)) ∧ u ≠ fo
  F : QuesAt (fun b => b ≠ fo) H F qs ∧ F ≠ fo
  ok : SumsOk us qs
  oth : ∀ t ∈ ts, Oth (fun b => b ≠ fo) H us qs t
  S : Strm H l ls N
  fr : ∀ b o, b ≠ fo → Hs b = some o → H b = some o
section
variable {Hs H H' : Hp} {l ls u F fo : Addr} {us : List Str} {qs : List (Str × SideT)} {N : Int} {ts : List Addr}
theorem OSt.same (h : OSt Hs l ls u F fo us qs N H ts) (s : Same H H') : OSt Hs l ls u F fo us qs N H' ts :=
  ⟨s _ _ h.o, h.n, h.fa, ⟨s _ _ h.ou.1, h.ou.2⟩, ⟨h.F.1.kp (fun o e => s _ _ e) fun b o a e => ⟨a, s _ _ e⟩, h.F.2⟩, h.ok, fun t ht => (h.oth t ht).kp fun b o a e => ⟨a, s _ _ e⟩, h.S.same s, fun b o nb e => s _ _ (h.fr b o nb e)⟩
theorem OSt.new (h : OSt Hs l ls u F fo us qs N H ts) {p : Addr} {o : HO} (n : H p = none) : OSt Hs l ls u F fo us qs N (upd H p o) ts ∧ p ≠ fo ∧ Same H (upd H p o) ∧ upd H p o p = some o :=
  ⟨h.same (same_new n), (fun z => by rw [z, h.o] at n; cases n), same_new n, upd_same⟩
/-- a thing of its own changes -/
theorem OSt.put (h : OSt Hs l ls u F fo us qs N H ts) {t : Addr} (hn : ts.length < 10) (ht : Oth (fun b => b ≠ fo) H us qs t) : OSt Hs l ls u F fo us qs N (upd H fo (.lst (ts.map V.ref ++ [.ref t]))) (ts ++ [t]) := by
  have k : ∀ b o, b ≠ fo → H b = some o → upd H fo (.lst (ts.map V.ref ++ [.ref t])) b = some o := fun b o nb e => by rw [upd_ne nb]; exact e
  refine ⟨by rw [upd_same, List.map_append]; rfl, by rw [List.length_append]; show _ + 1 ≤ _; omega, h.fa, ⟨k _ _ h.ou.2 h.ou.1, h.ou.2⟩, ⟨h.F.1.kp (fun o e => k _ _ h.F.2 e) fun b o a e => ⟨a, k _ _ a e⟩, h.F.2⟩, h.ok, fun t' ht' => ?_, strm_upd h.S h.fa, fun b o nb e => k _ _ nb (h.fr b o nb e)⟩
  rcases List.mem_append.mp ht' with h1 | h1
  · exact (h.oth t' h1).kp fun b o a e => ⟨a, k _ _ a e⟩
  · obtain rfl : t' = t := by simpa using h1
    exact ht.kp fun b o a e => ⟨a, k _ _ a e⟩
/-- what is at g was made here, and changes -/
theorem OSt.chg (h : OSt Hs l ls u F fo us qs N H ts) {g : Addr} {o : HO} (H1 : Hp) (n : H1 g = none) (h1 : OSt Hs l ls u F fo us qs N H1 ts) (s : ∀ b o, b ≠ g → H1 b = some o → H b = some o) : OSt Hs l ls u F fo us qs N (upd H g o) ts :=
  h1.same fun b u e => by rw [upd_ne (ne_of_none e n)]; exact s _ _ (ne_of_none e n) e
end
def modZ (m : Int) : Int := if m = 0 then 2 else if m = 2 then 3 else 0
theorem mod_disp (m : Int) : ((valV (mergeK [] [((Sum.inl 0 : Key), V.int 2), (Sum.inl 2, .int 3), (Sum.inl 3, .int 0)]) (Sum.inl m)).getD (.int 0)) = .int (modZ m) := by
  have e : mergeK [] [((Sum.inl 0 : Key), V.int 2), (Sum.inl 2, .int 3), (Sum.inl 3, .int 0)] = [((Sum.inl 0 : Key), V.int 2), (Sum.inl 2, .int 3), (Sum.inl 3, .int 0)] := merge_nd (by decide)
  rw [e]
  unfold modZ
  by_cases h0 : m = 0
  · rw [if_pos h0, valV_pos (by rw [h0])]
    rfl
  · rw [if_neg h0, valV_neg (fun z => h0 (Sum.inl.inj z).symm)]
    by_cases h2 : m = 2
    · rw [if_pos h2, valV_pos (by rw [h2])]
      rfl
    · rw [if_neg h2, valV_neg (fun z => h2 (Sum.inl.inj z).symm)]
      by_cases h3 : m = 3
      · rw [valV_pos (by rw [h3])]
        rfl
      · rw [valV_neg (fun z => h3 (Sum.inl.inj z).symm)]
        rfl
theorem mod_ne (m : Int) : m ≠ modZ m := by
  unfold modZ
  by_cases h0 : m = 0
  · rw [if_pos h0]; omega
  · rw [if_neg h0]
    by_cases h2 : m = 2
    · rw [if_pos h2]; omega
    · rw [if_neg h2]; exact h0
theorem mod_ok (m : Int) : modZ m = 0 ∨ 2 ≤ modZ m := by
  unfold modZ
  by_cases h0 : m = 0
  · rw [if_pos h0]; exact .inr (by omega)
  · rw [if_neg h0]
    by_cases h2 : m = 2
    · rw [if_pos h2]; exact .inr (by omega)
    · rw [if_neg h2]; exact .inl rfl
theorem paired_rev {α β : Type} {F : α → β → Prop} {as : List α} {bs : List β} (h : Paired F as bs) : Paired F as.reverse bs.reverse := by
  induction h with
  | nil => exact .nil
  | cons h _ ih =>
    rw [List.reverse_cons, List.reverse_cons]
    exact paired_join ih h
/-! the other fields are good, and others -/
section
variable {us : List Str} {qs : List (Str × SideT)} {n : Str} {s : SideT}
theorem oth_mod (ok : SumsOk us qs) (hin : (n, s) ∈ qs) : SumsG us (putQ qs n (s.1, modZ s.2)) ∧ keptD us qs ≠ keptD us (putQ qs n (s.1, modZ s.2)) := by
  have g := ok.g
  refine ⟨⟨g.und, g.ul, g.un, by rw [putQ_keys]; exact g.qnd, by unfold putQ; rw [List.length_map]; exact g.ql, fun q hq => ?_, fun q hq => ?_⟩, put_other g.qnd hin (.inr (mod_ne _))⟩
  · have : q.1 ∈ qs.map (·.1) := by rw [← putQ_keys qs n (s.1, modZ s.2)]; exact List.mem_map_of_mem hq
    obtain ⟨q0, h0, e⟩ := List.mem_map.mp this
    rw [← e]
    exact g.qn q0 h0
  · rcases putQ_mem hq with h | ⟨h, _⟩
    · exact g.s q h
    · rw [h]
      obtain ⟨a, b⟩ := g.s _ hin
      exact ⟨⟨a.nd, a.sub, mod_ok _⟩, b⟩
theorem oth_wide (ok : SumsOk us qs) (hin : (n, s) ∈ qs) {x : Str} (hx : us[0]? = some x) : SumsG us (putQ qs n (setZ s.1 x (getZ s.1 x + 1), s.2)) ∧ keptD us qs ≠ keptD us (putQ qs n (setZ s.1 x (getZ s.1 x + 1), s.2)) := by
  have g := ok.g
  have xin := List.mem_of_getElem? hx
  refine ⟨⟨g.und, g.ul, g.un, by rw [putQ_keys]; exact g.qnd, by unfold putQ; rw [List.length_map]; exact g.ql, fun q hq => ?_, fun q hq => ?_⟩, put_other g.qnd hin (.inl fun e => ?_)⟩
  · have : q.1 ∈ qs.map (·.1) := by rw [← putQ_keys qs n (setZ s.1 x (getZ s.1 x + 1), s.2)]; exact List.mem_map_of_mem hq
    obtain ⟨q0, h0, e⟩ := List.mem_map.mp this
    rw [← e]
    exact g.qn q0 h0
  · rcases putQ_mem hq with h | ⟨h, _⟩
    · exact g.s q h
    · rw [h]
      obtain ⟨a, b⟩ := g.s _ hin
      have so := ok.s _ hin
      have l1 := sub_len so.nd so.sub
      have l2 := setZ_len s.1 x (getZ s.1 x + 1)
      have l3 := ok.ul
      exact ⟨⟨setZ_keys a.nd, setZ_sub a.sub xin, a.mo⟩, by show (setZ s.1 x _).length < 1000; dsimp only at l1; omega⟩
  · have z : (vecZ us s.1)[0]? = (vecZ us (setZ s.1 x (getZ s.1 x + 1)))[0]? := congrArg (fun l => l[0]?) e
    unfold vecZ at z
    rw [List.getElem?_map, List.getElem?_map, hx] at z
    have z : getZ s.1 x = getZ (setZ s.1 x (getZ s.1 x + 1)) x := Option.some.inj z
    rw [getZ_set] at z
    omega
theorem oth_us (ok : SumsOk us qs) {x : Str} (hx : x ∉ us) (nx : NmOk x) : SumsG (us ++ [x]) qs ∧ us ≠ us ++ [x] := by
  have g := ok.g
  refine ⟨⟨?_, ?_, ?_, g.qnd, g.ql, g.qn, fun q hq => ?_⟩, fun e => ?_⟩
  · rw [List.nodup_append]
    exact ⟨g.und, by simp, fun a ha b hb => by
      obtain rfl : b = x := by simpa using hb
      exact fun z => hx (z ▸ ha)⟩
  · rw [List.length_append]
    have := ok.ul
    show 0 < _ + 1 ∧ _ + 1 < 1000
    omega
  · intro y hy
    rcases List.mem_append.mp hy with h | h
    · exact g.un y h
    · obtain rfl : y = x := by simpa using h
      exact nx
  · obtain ⟨a, b⟩ := g.s q hq
    exact ⟨⟨a.nd, fun e he => List.mem_append_left _ (a.sub e he), a.mo⟩, b⟩
  · have z := congrArg List.length e
    rw [List.length_append] at z
    simp at z
theorem oth_qs (ok : SumsOk us qs) {x : Str} (hx : x ∉ qs.map (·.1)) (nx : NmOk x) : SumsG us (qs ++ [(x, [], 0)]) ∧ keptD us qs ≠ keptD us (qs ++ [(x, [], 0)]) := by
  have g := ok.g
  refine ⟨⟨g.und, g.ul, g.un, ?_, ?_, ?_, ?_⟩, kept_more⟩
  · rw [List.map_append, List.nodup_append]
    exact ⟨g.qnd, by simp, fun a ha b hb => by
      obtain rfl : b = x := by simpa using hb
      exact fun z => hx (z ▸ ha)⟩
  · rw [List.length_append]
    have := ok.ql
    show 0 < _ + 1 ∧ _ + 1 < 1000
    omega
  · intro q hq
    rcases List.mem_append.mp hq with h | h
    · exact g.qn q h
    · obtain rfl : q = (x, [], 0) := by simpa using h
      exact nx
  · intro q hq
    rcases List.mem_append.mp hq with h | h
    · exact g.s q h
    · obtain rfl : q = (x, [], 0) := by simpa using h
      exact ⟨⟨.nil, (fun e he => by cases he), .inl rfl⟩, by show 0 < 1000; decide⟩
theorem oth_rev (ok : SumsOk us qs) : SumsG us qs.reverse ∧ keptD us qs ≠ keptD us qs.reverse := by
  have g := ok.g
  refine ⟨⟨g.und, g.ul, g.un, ?_, by rw [List.length_reverse]; exact g.ql, fun q hq => g.qn q (List.mem_reverse.mp hq), fun q hq => g.s q (List.mem_reverse.mp hq)⟩, kept_rev g.qnd ok.ql.1⟩
  rw [List.map_reverse]
  exact (List.reverse_perm _).nodup_iff.mpr g.qnd
theorem oth_urev (ok : SumsOk us qs) (h : 2 ≤ us.length) : SumsG us.reverse qs ∧ us ≠ us.reverse := by
  have g := ok.g
  refine ⟨⟨(List.reverse_perm _).nodup_iff.mpr g.und, by rw [List.length_reverse]; exact g.ul, fun x hx => g.un x (List.mem_reverse.mp hx), g.qnd, g.ql, g.qn, fun q hq => ?_⟩, rev_ne g.und h⟩
  obtain ⟨a, b⟩ := g.s q hq
  exact ⟨⟨a.nd, fun e he => List.mem_reverse.mpr (a.sub e he), a.mo⟩, b⟩
end
end L2.TB
/-! _law_s_others: the def -/
namespace L2.TB
open PySem PySem.Spec PyProof.Rows
theorem OSt.add {Hs H : Hp} {l ls u F fo ui Fi t : Addr} {us us' : List Str} {qs qs' : List (Str × SideT)} {N : Int} {ts : List Addr} (h : OSt Hs l ls u F fo us qs N H ts) (hn : ts.length < 10) (nt : H t = none) (ou : H ui = some (.lst (us'.map V.str))) (u1 : ui ≠ fo) (oF : QuesAt (fun b => b ≠ fo) H Fi qs') (F1 : Fi ≠ fo) (g : SumsG us' qs') (ne : us ≠ us' ∨ keptD us qs ≠ keptD us' qs') :
    upd H t (.tup [.ref ui, .ref Fi]) fo = some (.lst (ts.map V.ref)) ∧ (ts.map V.ref).length < sizeLine ∧ OSt Hs l ls u F fo us qs N (upd (upd H t (.tup [.ref ui, .ref Fi])) fo (.lst (ts.map V.ref ++ [.ref t]))) (ts ++ [t]) ∧ (∀ b o, b ≠ fo → H b = some o → upd (upd H t (.tup [.ref ui, .ref Fi])) fo (.lst (ts.map V.ref ++ [.ref t])) b = some o) := by
  obtain ⟨h1, tf, kt, ot⟩ := h.new (o := .tup [.ref ui, .ref Fi]) nt
  refine ⟨h1.o, by rw [sizeLine_eq, List.length_map]; omega, h1.put hn ⟨ui, Fi, us', qs', tf, u1, F1, ot, kt _ _ ou, oF.kp (fun o e => kt _ _ e) fun b o a e => ⟨a, kt _ _ e⟩, g, ne⟩, fun b o nb e => by rw [upd_ne nb]; exact kt _ _ e⟩
theorem same_upd2 {H : Hp} {p : Addr} {a b : HO} (n : H p = none) : Same H (upd (upd H p a) p b) := fun c o e => by
  have := ne_of_none e n
  rw [upd_ne this, upd_ne this]; exact e
def spOthers : Sp := fun vs H Q _ => ∃ (l ls u F : Addr) (us : List Str) (qs : List (Str × SideT)) (N : Int), vs = [.ref l, .ref u, .ref F] ∧ Strm H l ls N ∧ N ≤ 900000 ∧ H u = some (.lst (us.map V.str)) ∧ u ≠ l ∧ u ≠ ls ∧ QuesAt (fun b => b ≠ l ∧ b ≠ ls) H F qs ∧ F ≠ l ∧ F ≠ ls ∧ SumsOk us qs ∧
  ∀ H' q ts, H q = none → H' q = some (.lst ((ts : List Addr).map V.ref)) → (∀ t ∈ ts, Oth (fun _ => True) H' us qs t) → Strm H' l ls (N + 1) → But l ls H H' → Q (.ref q) H'
abbrev NOt : List Str := ["stream", "unknowns", "questions", "name", "row", "modulus", "found", "more", "wide"]
theorem scOthers : FnScope NOt ["stream", "unknowns", "questions"] (defScope sOthers) := ⟨rfl, rfl, rfl, by decide +kernel, rfl, by decide +kernel, by decide +kernel⟩
section
variable {P : Program} {w : World} {K : PySem.W.Frag} {mg : Str → Option Value} {base : Heap} {f fP fS : Addr} {fd fdP fdS : FuncData}
theorem ok_others (F : Fun K "_law_s_others" "_law_s_others" sOthers f fd) (gP : mg "_law_pick" = some (.ref fP)) (kP : PySem.W.keepIn K (.ref fP) = true) (GP : FnOk P w K mg base CX0 2 fP fdP ["stream", "some"] (spPick K)) (bP : Binds K fdP ["stream", "some"] [])
    (gS : mg "_law_spare" = some (.ref fS)) (kS : PySem.W.keepIn K (.ref fS) = true) (GS : FnOk P w K mg base CX0 1 fS fdS ["names"] spSpare) (bS : Binds K fdS ["names"] []) (nD : mg "dict" = none) (nL : mg "list" = none) (nN : mg "len" = none) : FnOk P w K mg base CX0 3 f fd ["stream", "unknowns", "questions"] spOthers := by
  refine F.ok scOthers (fun vs H Q E h => by obtain ⟨l, ls, u, F, us, qs, N, e, _⟩ := h; rw [e]; rfl) fun cdv A outer s H vs Q E hr hsp => ?_
  obtain ⟨l, ls, u, F, us, qs, N, rfl, S, hN, ou, u1, u2, hF, F1, F2, ok, hq⟩ := hsp
  have nd := scOthers.nd
  have hu := hu_of (hr.mono (show 1 ≤ 2 by decide))
  refine ⟨_, pss_cons (ps_set (i := 3) nd rfl (Or.inl rfl) (pe_call GP hr rfl gP kP bP .nil pass0 (pa_cons (pv 0) (pa_cons (pe_callTy (call_listD rfl) rfl nL boot_list' (pa_cons (pv 2) pa_nil)) pa_nil))))
    (pss_cons (ps_asg (pe_dget hu (pv 2) (pv 3) (fun _ _ => rfl)) (pg_tup rfl (pgs_cons (pg_name (i := 4) nd rfl (Or.inl rfl)) (pgs_cons (pg_name (i := 5) nd rfl (Or.inl rfl)) pgs_nil))))
    (pss_cons (ps_set (i := 6) nd rfl (Or.inl rfl) (pe_lst pa_nil))
    (pss_cons (ps_set (i := 7) nd rfl (Or.inl rfl) (pe_callTy call_dictD rfl nD boot_dict' (pa_cons (pv 2) pa_nil)))
    (pss_cons (ps_dput hu (pv 7) (pv 3) (pe_tup (pa_cons (pv 4) (pa_cons (pe_dget2 hu (pe_disp (pps_cons pe_int pe_int (pps_cons pe_int pe_int (pps_cons pe_int pe_int pps_nil))) rfl rfl (by decide) (by decide)) (pv 5) pe_int ⟨rfl, rfl, rfl, rfl⟩) pa_nil))) rfl)
    (pss_cons (ps_expr (pe_bm PySem.F.plainAttrs_list PySem.F.slot_list_append PySem.F.type_list_append mt_append (pv 6) (pa_cons (pe_tup (pa_cons (pv 1) (pa_cons (pv 7) pa_nil))) pa_nil)))
    (pss_cons (ps_par (i := 7) (j := 8) rfl nd rfl rfl (by decide) rfl rfl (pa_cons (pe_callTy call_dictD rfl nD boot_dict' (pa_cons (pv 2) pa_nil)) (pa_cons (pe_callTy call_dictD rfl nD boot_dict' (pa_cons (pv 4) pa_nil)) pa_nil)) rfl)
    (pss_cons (ps_dput hu (pv 8) (pe_ix ix_list (pv 1) pe_int (fun _ _ => rfl)) (pe_op op_add (pe_dget2 hu (pv 8) (pe_ix ix_list (pv 1) pe_int (fun _ _ => rfl)) pe_int ⟨rfl, rfl, rfl, rfl⟩) pe_int) rfl)
    (pss_cons (ps_dput hu (pv 7) (pv 3) (pe_tup (pa_cons (pv 8) (pa_cons (pv 5) pa_nil))) rfl)
    (pss_cons (ps_expr (pe_bm PySem.F.plainAttrs_list PySem.F.slot_list_append PySem.F.type_list_append mt_append (pv 6) (pa_cons (pe_tup (pa_cons (pv 1) (pa_cons (pv 7) pa_nil))) pa_nil)))
    (pss_cons (ps_expr (pe_bm PySem.F.plainAttrs_list PySem.F.slot_list_append PySem.F.type_list_append mt_append (pv 6) (pa_cons (pe_tup (pa_cons (pe_op op_cat (pv 1) (pe_lst (pa_cons (pe_call GS (hr.mono (by decide)) rfl gS kS bS .nil pass0 (pa_cons (pv 1) pa_nil)) pa_nil))) (pa_cons (pv 2) pa_nil))) pa_nil)))
    (pss_cons (ps_set (i := 7) nd rfl (Or.inl rfl) (pe_callTy call_dictD rfl nD boot_dict' (pa_cons (pv 2) pa_nil)))
    (pss_cons (ps_dput hu (pv 7) (pe_call GS (hr.mono (by decide)) rfl gS kS bS .nil pass0 (pa_cons (pe_callTy (call_listD rfl) rfl nL boot_list' (pa_cons (pv 2) pa_nil)) pa_nil)) (pe_tup (pa_cons pe_dnewK (pa_cons pe_int pa_nil))) rfl)
    (pss_cons (ps_expr (pe_bm PySem.F.plainAttrs_list PySem.F.slot_list_append PySem.F.type_list_append mt_append (pv 6) (pa_cons (pe_tup (pa_cons (pv 1) (pa_cons (pv 7) pa_nil))) pa_nil)))
    (pss_cons (ps_expr (pe_bm PySem.F.plainAttrs_list PySem.F.slot_list_append PySem.F.type_list_append mt_append (pv 6) (pa_cons (pe_tup (pa_cons (pv 1) (pa_cons (pe_callTy (r := rDk K) (call_dk rfl) rfl nD boot_dict' (pa_cons (pe_revL (LiI.pe_listItems rfl (pv 2) rfl nL boot_list')) pa_nil)) pa_nil))) pa_nil)))
    (pss_cons (ps_if (pt_cmpR op_gt (pe_callB call_len_seq rfl nN boot_len (pa_cons (pv 1) pa_nil)) pe_int (nomark _)) (pss_one (ps_expr (pe_bm PySem.F.plainAttrs_list PySem.F.slot_list_append PySem.F.type_list_append mt_append (pv 6) (pa_cons (pe_tup (pa_cons (pe_revL (pv 1)) (pa_cons (pv 2) pa_nil))) pa_nil)))) pss_nil)
    (pss_one (ps_ret (pv 6)))))))))))))))))), ?_⟩
  obtain ⟨es, oF, pr⟩ := hF
  have g := ok.g
  have les : es.length = qs.length := Paired.length pr
  have kes := keys_side pr
  have ndes := nd_side pr ok.qnd
  have esmall : es.length < sizeLine := by have := ok.ql; rw [sizeLine_eq]; omega
  -- the name
  refine ⟨_, rfl, _, rfl, F, es, rfl, .inl oF, fun L nL => ?_⟩
  have kL := same_new (o := .lst (es.map fun kv => kV kv.1)) nL
  have aL := S.apart (Same.refl _) nL
  refine ⟨l, ls, L, _, N, rfl, S.same kL, by omega, aL.1, aL.2, upd_same, by rw [List.length_map]; have := ok.ql; omega, by rw [List.length_map]; have := ok.ql; omega, fun H1 v hv S1 B1 => ?_⟩
  have B01 : But l ls H H1 := (But.of kL).trans B1
  obtain ⟨e0, he0, rfl⟩ := List.mem_map.mp hv
  obtain ⟨j, ej⟩ := List.getElem?_of_mem he0
  obtain ⟨q, eq, hk, hs⟩ := paired_get pr ej
  obtain ⟨k0, v0⟩ := e0
  have hk : k0 = Sum.inr q.1 := hk
  subst hk
  obtain ⟨p0, d0, hv0, a1, a2, op0, od0⟩ := hs
  have hv0 : v0 = .ref p0 := hv0
  subst hv0
  have qin : (q.1, q.2) ∈ qs := List.mem_of_getElem? eq
  have nin : q.1 ∈ qs.map (·.1) := List.mem_map_of_mem qin
  have kin : (Sum.inr q.1 : Key) ∈ es.map (·.1) := by rw [kes]; exact List.mem_map_of_mem nin
  have oF1 := B01 _ _ F1 F2 oF
  have op1 := B01 _ _ a1.1 a1.2 op0
  have ou1 := B01 _ _ u1 u2 ou
  have dg : ∀ {H' : Hp}, H' F = some (.dK es) → DGet H' F (.str q.1) (some (.ref p0)) := fun o => .inl ⟨es, Sum.inr q.1, .inl o, rfl, (valV_atN ndes ej).symm⟩
  refine ⟨_, rfl, _, rfl, F, _, rfl, dg oF1, p0, _, rfl, SqT.of op1, rfl, _, _, rfl, _, _, rfl, rfl, ?_⟩
  -- found
  refine ⟨Nat.zero_le _, fun fo nfo => ?_⟩
  have afo := S1.apart (Same.refl _) nfo
  have nfo0 := B01.free afo nfo
  have kf := same_new (o := .lst []) nfo
  have nfof : ∀ {b : Addr} {o : HO}, H1 b = some o → b ≠ fo := fun e z => by rw [z, nfo] at e; cases e
  have T0 : OSt H1 l ls u F fo us qs (N + 1) (upd H1 fo (.lst [])) [] :=
    ⟨upd_same, by show 0 ≤ 10; decide, afo, ⟨kf _ _ ou1, nfof ou1⟩, ⟨⟨es, kf _ _ oF1, Paired.mapP pr fun e q h => h.kp fun b o a e => ⟨nfof (B01 _ _ a.1 a.2 e), kf _ _ (B01 _ _ a.1 a.2 e)⟩⟩, nfof oF1⟩, ok, (fun t ht => by cases ht), S1.same kf, fun b o nb e => kf _ _ e⟩
  have hsd : SideAt (fun b => b ≠ fo) (upd H1 fo (.lst [])) (.ref p0) q.2 := ⟨p0, d0, rfl, nfof op1, nfof (B01 _ _ a2.1 a2.2 od0), kf _ _ op1, kf _ _ (B01 _ _ a2.1 a2.2 od0)⟩
  have oF2 := kf _ _ oF1
  generalize upd H1 fo (.lst []) = H2 at T0 hsd oF2 ⊢
  have d0f : d0 ≠ fo := by
    obtain ⟨p, d, e1, b1, b2, _, _⟩ := hsd
    exact nfof (B01 _ _ a2.1 a2.2 od0)
  have od2 : H2 d0 = some (.dK (dkS q.2.1)) := by
    obtain ⟨p, d, e1, b1, b2, o1, o2⟩ := hsd
    cases e1
    have o3 := T0.fr _ _ (nfof op1) op1
    rw [o1] at o3
    have e2 := HO.tup.inj (Option.some.inj o3)
    cases (List.cons.inj e2).1
    exact o2
  -- with another modulus
  refine ⟨_, rfl, F, es, rfl, .inl oF2, fun M nM => ?_⟩
  obtain ⟨T1, Mf, kM, oM⟩ := T0.new (o := .dK es) nM
  have oF3 := kM _ _ oF2
  have od3 := kM _ _ od2
  generalize upd H2 M (.dK es) = H3 at T1 kM oM oF3 od3 ⊢
  refine ⟨_, rfl, fun p np => ⟨upd_same, [((Sum.inl 0 : Key), V.int 2), (Sum.inl 2, .int 3), (Sum.inl 3, .int 0)], rfl, by decide, p, rfl, .inl ⟨_, .inl upd_same⟩, _, rfl, _, .inl ⟨_, Sum.inl q.2.2, .inl upd_same, rfl, rfl⟩, ?_⟩⟩
  rw [mod_disp]
  have kp := same_upd2 (a := .dK []) (b := .dK (mergeK [] [((Sum.inl 0 : Key), V.int 2), (Sum.inl 2, .int 3), (Sum.inl 3, .int 0)])) np
  have T2 := T1.same kp
  have oM4 := kp _ _ oM
  have oF4 := kp _ _ oF3
  have od4 := kp _ _ od3
  generalize upd (upd H3 p (.dK [])) p (.dK (mergeK [] [((Sum.inl 0 : Key), V.int 2), (Sum.inl 2, .int 3), (Sum.inl 3, .int 0)])) = H4 at kp T2 oM4 oF4 od4 ⊢
  refine ⟨(by show 2 ≤ sizeLine; decide), fun T nT => ?_⟩
  obtain ⟨T3, Tf, kT, oT⟩ := T2.new (o := .tup [.ref d0, .int (modZ q.2.2)]) nT
  have oM5 := kT _ _ oM4
  have oF5 := kT _ _ oF4
  have od5 := kT _ _ od4
  generalize upd H4 T (.tup [.ref d0, .int (modZ q.2.2)]) = H5 at kT T3 oT oM5 oF5 od5 ⊢
  refine ⟨_, rfl, _, rfl, M, _, rfl, DPut.k (k := Sum.inr q.1) oM5 esmall, ?_⟩
  have s25 : Same H2 H5 := (kM.trans kp).trans kT
  have T4 := OSt.chg (o := .dK (putK es (Sum.inr q.1) (.ref T))) T3 H2 nM T0 (fun b o _ e => s25 b o e)
  have hM : QuesAt (fun b => b ≠ fo) (upd H5 M (.dK (putK es (Sum.inr q.1) (.ref T)))) M (putQ qs q.1 (q.2.1, modZ q.2.2)) := by
    have up : ∀ b o, b ≠ M → H5 b = some o → upd H5 M (.dK (putK es (Sum.inr q.1) (.ref T))) b = some o := fun b o nb e => by rw [upd_ne nb]; exact e
    obtain ⟨es', oF', pr'⟩ := T4.F.1
    have FM : F ≠ M := fun z => by rw [← z, oF2] at nM; cases nM
    rw [up _ _ FM oF5] at oF'
    cases oF'
    exact ⟨_, upd_same, put_side pr' nin ⟨T, d0, rfl, Tf, d0f, up _ _ (fun z => by rw [z, oM5] at oT; cases oT) oT, up _ _ (fun z => by rw [← z, od2] at nM; cases nM) od5⟩⟩
  have od6 : upd H5 M (.dK (putK es (Sum.inr q.1) (.ref T))) d0 = some (.dK (dkS q.2.1)) := by rw [upd_ne (fun z => by rw [← z, od2] at nM; cases nM)]; exact od5
  generalize upd H5 M (.dK (putK es (Sum.inr q.1) (.ref T))) = H6 at T4 hM od6 ⊢
  obtain ⟨g1, ne1⟩ := oth_mod ok qin
  refine ⟨_, rfl, .inl ⟨rfl, _, SqL.of T4.o⟩, _, rfl, _, rfl, (by show 2 ≤ sizeLine; decide), fun t nt => ?_⟩
  obtain ⟨o7, l7, T5, up7⟩ := T4.add (by decide) nt T4.ou.1 T4.ou.2 hM Mf g1 (.inr ne1)
  refine ⟨fo, _, _, rfl, rfl, o7, l7, ?_⟩
  have od7 := up7 _ _ d0f od6
  generalize upd (upd H6 t (.tup [.ref u, .ref M])) fo (.lst (([] : List Addr).map V.ref ++ [.ref t])) = H7 at T5 od7 ⊢
  -- with a row changed
  have oF7 := T5.fr _ _ (nfof oF1) oF1
  refine ⟨_, rfl, F, es, rfl, .inl oF7, fun M2 nM2 => ?_⟩
  obtain ⟨T6, M2f, kM2, oM2⟩ := T5.new (o := .dK es) nM2
  have od8 := kM2 _ _ od7
  have oF8 := kM2 _ _ oF7
  generalize upd H7 M2 (.dK es) = H8 at T6 kM2 oM2 od8 oF8 ⊢
  refine ⟨_, rfl, d0, _, rfl, .inl od8, fun W nW => ?_⟩
  obtain ⟨T7, Wf, kW, oW⟩ := T6.new (o := .dK (dkS q.2.1)) nW
  have oM9 := kW _ _ oM2
  have oF9 := kW _ _ oF8
  generalize upd H8 W (.dK (dkS q.2.1)) = H9 at T7 kW oW oM9 oF9 ⊢
  refine ⟨_, _, rfl, ?_⟩
  have upos : 0 < us.length := by have := ok.ul; omega
  have ex : us[0]? = some (us[0]'upos) := List.getElem?_eq_getElem _
  generalize us[0]'upos = x at ex
  have at0u : atI (us.map V.str) 0 = some (.str x) := atI_nat (j := 0) (by rw [List.getElem?_map, ex]; rfl)
  refine ⟨_, rfl, W, rfl, .inl ⟨_, .inl oW⟩, _, rfl, u, _, 0, .str x, rfl, rfl, SqL.of T7.ou.1, at0u, _, .inl ⟨_, Sum.inr x, .inl oW, rfl, rfl⟩, ?_⟩
  rw [val_dkS]
  refine ⟨_, _, rfl, rfl, _, rfl, _, rfl, u, _, 0, .str x, rfl, rfl, SqL.of T7.ou.1, at0u, W, _, rfl, DPut.k (k := Sum.inr x) oW ?_, ?_⟩
  · have so := ok.s _ qin
    have l1 : q.2.1.length ≤ us.length := sub_len so.nd so.sub
    have l2 := ok.ul
    rw [sizeLine_eq]
    unfold dkS
    rw [List.length_map]
    omega
  rw [show ((q.2.1.find? fun e => decide (e.1 = x)).map (·.2)).getD 0 = getZ q.2.1 x from rfl, set_dkS]
  have s89 : ∀ b o, b ≠ W → H8 b = some o → H9 b = some o := fun b o _ e => kW _ _ e
  have T8 := OSt.chg (o := .dK (dkS (setZ q.2.1 x (getZ q.2.1 x + 1)))) T7 H8 nW T6 s89
  have MW : M2 ≠ W := fun z => by rw [← z, oM2] at nW; cases nW
  have oM10 : upd H9 W (.dK (dkS (setZ q.2.1 x (getZ q.2.1 x + 1)))) M2 = some (.dK es) := by rw [upd_ne MW]; exact oM9
  have oW10 : upd H9 W (.dK (dkS (setZ q.2.1 x (getZ q.2.1 x + 1)))) W = some (.dK (dkS (setZ q.2.1 x (getZ q.2.1 x + 1)))) := upd_same
  have s710 : ∀ b o, b ≠ M2 → H7 b = some o → upd H9 W (.dK (dkS (setZ q.2.1 x (getZ q.2.1 x + 1)))) b = some o := fun b o nb e => by
    have e8 := kM2 _ _ e
    rw [upd_ne (ne_of_none e8 nW)]
    exact kW _ _ e8
  generalize upd H9 W (.dK (dkS (setZ q.2.1 x (getZ q.2.1 x + 1)))) = H10 at T8 oM10 oW10 s710 ⊢
  refine ⟨_, rfl, _, rfl, (by show 2 ≤ sizeLine; decide), fun T2' nT2 => ?_⟩
  obtain ⟨T9, T2f, kT2, oT2⟩ := T8.new (o := .tup [.ref W, .int q.2.2]) nT2
  have oM11 := kT2 _ _ oM10
  have oW11 := kT2 _ _ oW10
  generalize upd H10 T2' (.tup [.ref W, .int q.2.2]) = H11 at kT2 T9 oT2 oM11 oW11 ⊢
  refine ⟨_, rfl, _, rfl, M2, _, rfl, DPut.k (k := Sum.inr q.1) oM11 esmall, ?_⟩
  have T10 := OSt.chg (o := .dK (putK es (Sum.inr q.1) (.ref T2'))) T9 H7 nM2 T5 (fun b o nb e => kT2 _ _ (s710 b o nb e))
  have hM2 : QuesAt (fun b => b ≠ fo) (upd H11 M2 (.dK (putK es (Sum.inr q.1) (.ref T2')))) M2 (putQ qs q.1 (setZ q.2.1 x (getZ q.2.1 x + 1), q.2.2)) := by
    have up : ∀ b o, b ≠ M2 → H11 b = some o → upd H11 M2 (.dK (putK es (Sum.inr q.1) (.ref T2'))) b = some o := fun b o nb e => by rw [upd_ne nb]; exact e
    obtain ⟨es', oF', pr'⟩ := T10.F.1
    have FM : F ≠ M2 := fun z => by rw [← z, oF7] at nM2; cases nM2
    rw [up _ _ FM (kT2 _ _ (s710 _ _ FM oF7))] at oF'
    cases oF'
    exact ⟨_, upd_same, put_side pr' nin ⟨T2', W, rfl, T2f, Wf, up _ _ (fun z => by rw [z, oM11] at oT2; cases oT2) oT2, up _ _ (Ne.symm MW) oW11⟩⟩
  generalize upd H11 M2 (.dK (putK es (Sum.inr q.1) (.ref T2'))) = H12 at T10 hM2 ⊢
  obtain ⟨g2, ne2⟩ := oth_wide ok qin ex
  refine ⟨_, rfl, .inl ⟨rfl, _, SqL.of T10.o⟩, _, rfl, _, rfl, (by show 2 ≤ sizeLine; decide), fun t2 nt2 => ?_⟩
  obtain ⟨o13, l13, T11, up13⟩ := T10.add (by show 1 < 10; decide) nt2 T10.ou.1 T10.ou.2 hM2 M2f g2 (.inr ne2)
  refine ⟨fo, _, _, rfl, rfl, o13, l13, ?_⟩
  generalize upd (upd H12 t2 (.tup [.ref u, .ref M2])) fo _ = H13 at T11 ⊢
  -- with one unknown more
  refine ⟨_, rfl, .inl ⟨rfl, _, SqL.of T11.o⟩, _, rfl, _, rfl, u, us, rfl, T11.ou.1, by have := ok.ul; omega, fun H14 sp k14 spn spo => ?_⟩
  have T12 := T11.same k14
  refine ⟨(by show 1 ≤ sizeLine; decide), fun a1 na1 => ?_⟩
  obtain ⟨T13, a1f, ka1, oa1⟩ := T12.new (o := .lst [.str sp]) na1
  refine ⟨u, a1, _, _, rfl, rfl, T13.ou.1, oa1, by rw [sizeLine_eq, List.length_map]; have := ok.ul; show _ + 1 ≤ _; omega, fun u' nu' => ?_⟩
  rw [show us.map V.str ++ [V.str sp] = (us ++ [sp]).map V.str by rw [List.map_append]; rfl]
  obtain ⟨T14, u'f, ku', ou'⟩ := T13.new (o := .lst ((us ++ [sp]).map V.str)) nu'
  obtain ⟨g3, ne3⟩ := oth_us ok spn spo.1
  refine ⟨_, rfl, (by show 2 ≤ sizeLine; decide), fun t3 nt3 => ?_⟩
  obtain ⟨o15, l15, T15, _⟩ := T14.add (by show 2 < 10; decide) nt3 ou' u'f T14.F.1 T14.F.2 g3 (.inl ne3)
  refine ⟨fo, _, _, rfl, rfl, o15, l15, ?_⟩
  generalize upd (upd _ t3 (.tup [.ref u', .ref F])) fo _ = H15 at T15 ⊢
  -- with one question more
  have oF15 := T15.fr _ _ (nfof oF1) oF1
  refine ⟨_, rfl, F, es, rfl, .inl oF15, fun M3 nM3 => ?_⟩
  obtain ⟨T16, M3f, kM3, oM3⟩ := T15.new (o := .dK es) nM3
  have oF16 := kM3 _ _ oF15
  generalize upd H15 M3 (.dK es) = H16 at T16 kM3 oM3 oF16 ⊢
  refine fun d3 nd3 => ⟨(by show 2 ≤ sizeLine; decide), fun T3' nT3 => ?_⟩
  obtain ⟨T17, d3f, kd3, od3'⟩ := T16.new (o := .dK []) nd3
  have oM17 := kd3 _ _ oM3
  have oF17 := kd3 _ _ oF16
  generalize upd H16 d3 (.dK []) = H17 at T17 kd3 od3' oM17 oF17 nT3 ⊢
  obtain ⟨T18, T3f, kT3, oT3⟩ := T17.new (o := .tup [.ref d3, .int 0]) nT3
  have oM18 := kT3 _ _ oM17
  have oF18 := kT3 _ _ oF17
  have od18 := kT3 _ _ od3'
  generalize upd H17 T3' (.tup [.ref d3, .int 0]) = H18 at T18 kT3 oT3 oM18 oF18 od18 ⊢
  refine ⟨_, rfl, _, rfl, F, es, rfl, .inl oF18, fun L2 nL2 => ?_⟩
  have ekv : (es.map fun kv => kV kv.1) = (qs.map (·.1)).map V.str := by
    have z2 := congrArg (List.map kV) kes
    rw [List.map_map, List.map_map] at z2
    exact z2
  rw [ekv]
  obtain ⟨T19, L2f, kL2, oL2⟩ := T18.new (o := .lst ((qs.map (·.1)).map V.str)) nL2
  refine ⟨L2, _, rfl, oL2, by rw [List.length_map]; have := ok.ql; omega, fun H20 sp2 k20 sp2n sp2o => ?_⟩
  have T20 := T19.same k20
  have k1820 := kL2.trans k20
  have oM20 := k1820 _ _ oM18
  have oT20 := k1820 _ _ oT3
  have od20 := k1820 _ _ od18
  refine ⟨M3, _, rfl, DPut.k (k := Sum.inr sp2) oM20 esmall, ?_⟩
  have s1520 : Same H15 H20 := ((kM3.trans kd3).trans kT3).trans k1820
  have T21 := OSt.chg (o := .dK (putK es (Sum.inr sp2) (.ref T3'))) T20 H15 nM3 T15 (fun b o _ e => s1520 b o e)
  have hM3 : QuesAt (fun b => b ≠ fo) (upd H20 M3 (.dK (putK es (Sum.inr sp2) (.ref T3')))) M3 (qs ++ [(sp2, [], 0)]) := by
    have up : ∀ b o, b ≠ M3 → H20 b = some o → upd H20 M3 (.dK (putK es (Sum.inr sp2) (.ref T3'))) b = some o := fun b o nb e => by rw [upd_ne nb]; exact e
    obtain ⟨es', oF', pr'⟩ := T21.F.1
    have FM : F ≠ M3 := fun z => by rw [← z, oF15] at nM3; cases nM3
    rw [up _ _ FM (s1520 _ _ oF15)] at oF'
    cases oF'
    refine ⟨_, upd_same, ?_⟩
    have nout : (Sum.inr sp2 : Key) ∉ es.map (·.1) := fun hx => by
      rw [kes] at hx
      obtain ⟨y, hy, e1⟩ := List.mem_map.mp hx
      obtain rfl := Sum.inr.inj e1
      exact sp2n hy
    have pz := paired_join (b := ((sp2, [], 0) : Str × SideT)) (a := ((Sum.inr sp2 : Key), V.ref T3')) pr' ⟨rfl, T3', d3, rfl, T3f, d3f, up _ _ (fun z => by rw [z, oM20] at oT20; cases oT20) oT20, up _ _ (fun z => by rw [z, oM3] at nd3; cases nd3) od20⟩
    rw [← put_last (acc := es) (v := V.ref T3') nout] at pz
    exact pz
  generalize upd H20 M3 (.dK (putK es (Sum.inr sp2) (.ref T3'))) = H21 at T21 hM3 ⊢
  obtain ⟨g4, ne4⟩ := oth_qs ok sp2n sp2o.1
  refine ⟨_, rfl, .inl ⟨rfl, _, SqL.of T21.o⟩, _, rfl, _, rfl, (by show 2 ≤ sizeLine; decide), fun t4 nt4 => ?_⟩
  obtain ⟨o22, l22, T22, _⟩ := T21.add (by show 3 < 10; decide) nt4 T21.ou.1 T21.ou.2 hM3 M3f g4 (.inr ne4)
  refine ⟨fo, _, _, rfl, rfl, o22, l22, ?_⟩
  generalize upd (upd H21 t4 (.tup [.ref u, .ref M3])) fo _ = H22 at T22 ⊢
  -- turned about
  have oF22 := T22.fr _ _ (nfof oF1) oF1
  refine ⟨_, rfl, .inl ⟨rfl, _, SqL.of T22.o⟩, _, rfl, _, rfl, F, es, rfl, oF22, fun H23 L3 ts3 k23 nL3 nts3 _ oL3 pr3 => ?_⟩
  have k23 : Same H22 H23 := k23
  have T23 := T22.same k23
  refine ⟨L3, _, rfl, SqL.of oL3, fun L4 nL4 => ?_⟩
  rw [← List.map_reverse]
  obtain ⟨T24, L4f, kL4, oL4⟩ := T23.new (o := .lst (ts3.reverse.map V.ref)) nL4
  refine ⟨L4, ts3.reverse, es.reverse, rfl, SqL.of oL4, paired_rev (Paired.mapP pr3 fun t e h => SqT.of (kL4 _ _ h)), fun M4 nM4 => ?_⟩
  rw [merge_nd (by rw [List.map_reverse]; exact (List.reverse_perm _).nodup_iff.mpr ndes)]
  obtain ⟨T25, M4f, kM4, oM4'⟩ := T24.new (o := .dK es.reverse) nM4
  have hM4 : QuesAt (fun b => b ≠ fo) (upd (upd H23 L4 (.lst (ts3.reverse.map V.ref))) M4 (.dK es.reverse)) M4 qs.reverse := by
    obtain ⟨es', oF', pr'⟩ := T25.F.1
    rw [kM4 _ _ (kL4 _ _ (k23 _ _ oF22))] at oF'
    cases oF'
    exact ⟨_, upd_same, paired_rev pr'⟩
  generalize upd (upd H23 L4 (.lst (ts3.reverse.map V.ref))) M4 (.dK es.reverse) = H25 at T25 hM4 ⊢
  obtain ⟨g5, ne5⟩ := oth_rev ok
  refine ⟨(by show 2 ≤ sizeLine; decide), fun t5 nt5 => ?_⟩
  obtain ⟨o26, l26, T26, _⟩ := T25.add (by show 4 < 10; decide) nt5 T25.ou.1 T25.ou.2 hM4 M4f g5 (.inr ne5)
  refine ⟨fo, _, _, rfl, rfl, o26, l26, ?_⟩
  generalize upd (upd H25 t5 (.tup [.ref u, .ref M4])) fo _ = H26 at T26 ⊢
  -- the end
  have fin : ∀ (H' : Hp) (ts : List Addr), OSt H1 l ls u F fo us qs (N + 1) H' ts → Q (.ref fo) H' := fun H' ts T => by
    refine hq H' fo ts nfo0 T.o (fun t ht => (T.oth t ht).kp fun b o _ e => ⟨trivial, e⟩) T.S (B01.trans fun b o h1 h2 e => T.fr b o (nfof e) e)
  refine ⟨_, rfl, u, _, rfl, .inl (SqL.of T26.ou.1), ?_⟩
  refine ⟨_, _, rfl, rfl, ?_⟩
  by_cases h2 : 2 ≤ us.length
  · refine ⟨true, congrArg V.bl (decide_eq_true (by rw [List.length_map]; omega)), iteT ?_⟩
    refine ⟨_, rfl, .inl ⟨rfl, _, SqL.of T26.o⟩, _, rfl, u, _, rfl, SqL.of T26.ou.1, fun u6 nu6 => ?_⟩
    rw [← List.map_reverse]
    obtain ⟨T27, u6f, ku6, ou6⟩ := T26.new (o := .lst (us.reverse.map V.str)) nu6
    obtain ⟨g6, ne6⟩ := oth_urev ok h2
    refine ⟨_, rfl, (by show 2 ≤ sizeLine; decide), fun t6 nt6 => ?_⟩
    obtain ⟨o28, l28, T28, _⟩ := T27.add (by show 5 < 10; decide) nt6 ou6 u6f T27.F.1 T27.F.2 g6 (.inl ne6)
    exact ⟨fo, _, _, rfl, rfl, o28, l28, _, rfl, fin _ _ T28⟩
  · exact ⟨false, congrArg V.bl (decide_eq_false (by rw [List.length_map]; omega)), iteF ⟨_, rfl, fin _ _ T26⟩⟩
end
end L2.TB
/-! _check_prime; Shares: what it holds, __init__ -/
namespace L2.TB
open PySem PySem.Spec PyProof.Rows
theorem boot_anyN : bootBuiltins "any" = some (.builtin "any") := by decide +kernel
structure PrimeZ (p : Int) : Prop where
  lo : 2 ≤ p
  hi : p ≤ 997
  no : ∀ d : Int, 2 ≤ d → d < p → p % d ≠ 0
def spCkP : Sp := fun vs H Q _ => ∃ p : Int, vs = [.int p] ∧ PrimeZ p ∧ ∀ H', Same H H' → Q .non H'
abbrev NCp : List Str := ["thing", "divisor"]
theorem scCkP : FnScope NCp ["thing"] (defScope sCkPrime) := ⟨rfl, rfl, rfl, by decide +kernel, rfl, by decide +kernel, by decide +kernel⟩
abbrev RowT : Type := Str × List (Str × Int)
def vecM (p : Int) (us : List Str) (row : List (Str × Int)) : List Int := (vecZ us row).map fun z => z % p
/-- rows as they are kept -/
def VecA (A : Addr → Prop) (p : Int) (us : List Str) (H : Hp) (e : Key × V) (q : RowT) : Prop := e.1 = Sum.inr q.1 ∧ ∃ v, e.2 = .ref v ∧ A v ∧ H v = some (.lst ((vecM p us q.2).map V.int))
/-- rows as dicts -/
def RowA (A : Addr → Prop) (H : Hp) (e : Key × V) (q : RowT) : Prop := e.1 = Sum.inr q.1 ∧ ∃ d, e.2 = .ref d ∧ A d ∧ H d = some (.dK (dkS q.2))
abbrev shF (p : Int) (u D : Addr) : List (Str × V) := [("prime", .int p), ("_unknowns", .ref u), ("_vectors", .ref D)]
structure ShC (K : PySem.W.Frag) (C : Addr) : Prop where
  cl : Cls K C
  nP : NoAttr K C "prime"
  nU : NoAttr K C "_unknowns"
  nV : NoAttr K C "_vectors"
structure ShA (A : Addr → Prop) (H : Hp) (C x : Addr) (p : Int) (us : List Str) (rs : List RowT) : Prop where
  ex : ∃ dx u D es, H x = some (.ins C dx (shF p u D)) ∧ A u ∧ A D ∧ H u = some (.lst (us.map V.str)) ∧ H D = some (.dK es) ∧ Paired (VecA A p us H) es rs
theorem VecA.kp {A A' : Addr → Prop} {p : Int} {us : List Str} {H H' : Hp} {e : Key × V} {q : RowT} (h : VecA A p us H e q) (k : ∀ b o, A b → H b = some o → A' b ∧ H' b = some o) : VecA A' p us H' e q := by
  obtain ⟨h1, v, h2, a, o⟩ := h
  exact ⟨h1, v, h2, (k _ _ a o).1, (k _ _ a o).2⟩
theorem RowA.kp {A A' : Addr → Prop} {H H' : Hp} {e : Key × V} {q : RowT} (h : RowA A H e q) (k : ∀ b o, A b → H b = some o → A' b ∧ H' b = some o) : RowA A' H' e q := by
  obtain ⟨h1, v, h2, a, o⟩ := h
  exact ⟨h1, v, h2, (k _ _ a o).1, (k _ _ a o).2⟩
theorem ShA.kp {A A' : Addr → Prop} {H H' : Hp} {C x : Addr} {p : Int} {us : List Str} {rs : List RowT} (h : ShA A H C x p us rs) (hx : ∀ o, H x = some o → H' x = some o) (k : ∀ b o, A b → H b = some o → A' b ∧ H' b = some o) : ShA A' H' C x p us rs := by
  obtain ⟨dx, u, D, es, h1, a1, a2, h2, h3, h4⟩ := h.ex
  exact ⟨dx, u, D, es, hx _ h1, (k _ _ a1 h2).1, (k _ _ a2 h3).1, (k _ _ a1 h2).2, (k _ _ a2 h3).2, Paired.mapP h4 fun e q h => h.kp k⟩
def RowsAt (A : Addr → Prop) (H : Hp) (F : Addr) (rs : List RowT) : Prop := ∃ es, H F = some (.dK es) ∧ Paired (RowA A H) es rs
theorem RowsAt.kp {A A' : Addr → Prop} {H H' : Hp} {F : Addr} {rs : List RowT} (h : RowsAt A H F rs) (hF : ∀ o, H F = some o → H' F = some o) (k : ∀ b o, A b → H b = some o → A' b ∧ H' b = some o) : RowsAt A' H' F rs := by
  obtain ⟨es, o, p⟩ := h
  exact ⟨es, hF _ o, Paired.mapP p fun e q h => h.kp k⟩
theorem keys_pr {F : Key × V → RowT → Prop} (hF : ∀ e q, F e q → e.1 = Sum.inr q.1) {es : List (Key × V)} {rs : List RowT} (h : Paired F es rs) : es.map (·.1) = (rs.map (·.1)).map Sum.inr := by
  induction h with
  | nil => rfl
  | cons h _ ih => rw [List.map_cons, List.map_cons, List.map_cons, ih, hF _ _ h]
theorem nd_pr {F : Key × V → RowT → Prop} (hF : ∀ e q, F e q → e.1 = Sum.inr q.1) {es : List (Key × V)} {rs : List RowT} (h : Paired F es rs) (nd : (rs.map (·.1)).Nodup) : (es.map (·.1)).Nodup := by
  rw [keys_pr hF h]
  exact List.Pairwise.map Sum.inr (fun a b h e => h (Sum.inr.inj e)) nd
/-- what Shares asks -/
structure ShG (p : Int) (us : List Str) (rs : List RowT) : Prop where
  pr : PrimeZ p
  und : us.Nodup
  ul : 0 < us.length ∧ us.length < 1000
  un : ∀ x ∈ us, NmOk x
  qnd : (rs.map (·.1)).Nodup
  ql : 0 < rs.length ∧ rs.length < 1000
  qn : ∀ q ∈ rs, NmOk q.1
  s : ∀ q ∈ rs, (q.2.map (·.1)).Nodup ∧ (∀ e ∈ q.2, e.1 ∈ us) ∧ q.2.length < 1000
def spShInit (K : PySem.W.Frag) (C : Addr) : Sp := fun vs H Q _ => ∃ (x dx c g : Addr) (p : Int) (us : List Str) (rs : List RowT) (es : List (Key × V)), vs = [.ref x, .int p, .ref c, .ref g] ∧ H x = some (.ins C dx []) ∧ SqA K H c (us.map V.str) ∧ H g = some (.dK es) ∧ Paired (RowA (fun _ => True) H) es rs ∧ ShG p us rs ∧
  ∀ H', ShA (fun b => H b = none) H' C x p us rs → (∀ b o, b ≠ x → H b = some o → H' b = some o) → Q .non H'
abbrev NSh : List Str := ["self", "prime", "unknowns", "questions", "index", "name", "number"]
abbrev scVM : Scope := { kind := ScopeKind.function, names := [(Str.ofString ".0", NameKind.local), (Str.ofString "name", NameKind.local), (Str.ofString "vector_of", NameKind.globalImplicit), (Str.ofString "prime", NameKind.cell), (Str.ofString "questions", NameKind.cell), (Str.ofString "unknowns", NameKind.cell)], isGenerator := false, isCoroutine := false }
abbrev tvVM (K : PySem.W.Frag) : TE := tLc (iList K (tCall (spVec K) [] E0 (tCons (tVar 2) (tCons (tDGet (tVar 3) (tVar 5)) tNil)))) (gName 6) tYes (tOp (rI (fun _ j => 0 < j) fun i j => .int (i % j)) (tVar 6) (tVar 1)) [6]
theorem scShInit : FnScope NSh ["self", "prime", "unknowns", "questions"] (defScope sSInit) := ⟨rfl, rfl, rfl, by decide +kernel, rfl, by decide +kernel, by decide +kernel⟩
section
variable {P : Program} {w : World} {K : PySem.W.Frag} {mg : Str → Option Value} {base : Heap} {f fI C fA fN fS fV fP : Addr} {fd fdI fdA fdN fdS fdV fdP : FuncData}
theorem ok_ckP (F : Fun K "_check_prime" "_check_prime" sCkPrime f fd) (FI : Fun K "is_integer" "is_integer" sIsInt fI fdI) (gI : mg "is_integer" = some (.ref fI)) (GI : FnOk P w K mg base CX0 1 fI fdI ["thing"] spIsInt) (gG : ∃ t, mg "GREATEST_PRIME" = some (.int 997 t)) (nA : mg "any" = none) (nR : mg "range" = none) : FnOk P w K mg base CX0 2 f fd ["thing"] spCkP := by
  obtain ⟨tG, gG⟩ := gG
  have bI := FI.binds (ps := ["thing"]) fun _ _ _ _ _ _ us hl => match us, hl with | [_], _ => rfl
  refine F.ok scCkP (fun vs H Q E h => by obtain ⟨p, e, _⟩ := h; rw [e]; rfl) fun cdv A outer s H vs Q E hr hsp => ?_
  obtain ⟨p, rfl, pr, hq⟩ := hsp
  have nd := scCkP.nd
  refine ⟨_, pss_cons (ps_if (PW.pt (pw_or (pt_not (pt_val (pe_call GI hr rfl gI FI.kp bI .nil pass0 (pa_cons (pv 0) pa_nil)))) (pw_or1 (pt_not (pt_chain op_le op_le pe_int (pv 0) (pe_glob (v := .int 997) rfl gG ⟨_, rfl⟩)))))) (pss_one ps_never) pss_nil)
    (pss_one (ps_if (pt_val (pe_callB (cr_any rfl) rfl nA boot_anyN (pa_cons (pe_lc (own := [("divisor", 1)]) (g := gName 1) (tt := tYes) (te := tOp rEq (tOp (rI (fun _ j => 0 < j) fun i j => .int (i % j)) (tVar 0) (tVar 1)) (tC (.int 0))) rfl nd (pi_range2 rfl nR (pa_cons pe_int (pa_cons (pv 0) pa_nil))) (blkOk_by (N := NCp) (sc := defScope sCkPrime) (by decide +kernel)) (fun _ _ _ _ _ => pg_name (i := 1) nd rfl (Or.inl rfl)) (fun _ _ _ _ _ => pts_nil)
      (fun _ _ _ _ _ => pe_cmpR op_eq (pe_op op_mod (pv 0) (pv 1)) pe_int (nomark _))) pa_nil))) (pss_one ps_never) pss_nil)), ?_⟩
  have p0 := pr.lo
  have p1 := pr.hi
  refine ⟨_, rfl, p, rfl, _, rfl, iteF ?_⟩
  refine ⟨_, rfl, _, _, rfl, rfl, _, rfl, ?_⟩
  rw [decide_eq_true (by omega : (2 : Int) ≤ p)]
  refine iteT ⟨_, _, rfl, rfl, _, rfl, ?_⟩
  rw [decide_eq_true (by omega : p ≤ 997)]
  refine iteF ?_
  refine ⟨_, rfl, 2, p, rfl, ⟨by omega, by omega, by omega, by omega⟩, fun D nD => ?_⟩
  refine lc_range (n := (p - 2).toNat) (fun i H' => H' D = some (.lst ((List.replicate i false).map V.bl)) ∧ Same H H') ⟨upd_same, same_new nD⟩ ?_ ?_
  · rintro i H1 li ⟨oD, k1⟩
    refine ⟨rfl, ?_⟩
    refine ⟨_, rfl, _, rfl, p, _, rfl, rfl, by omega, rfl, ?_⟩
    have no := pr.no (2 + i) (by omega) (by omega)
    rw [decide_eq_false (fun z => no (V.int.inj z))]
    refine ⟨_, oD, by rw [sizeLine_eq, List.length_map, List.length_replicate]; omega, ?_, fun b o e => by rw [upd_ne (ne_of_none e nD)]; exact k1 _ _ e⟩
    rw [upd_same, List.replicate_succ', List.map_append]
    rfl
  · rintro H1 ⟨oD, k1⟩
    refine ⟨D, _, rfl, SqL.of oD, ?_⟩
    have e : (List.replicate (p - 2).toNat false).any id = false := by
      rw [List.any_eq_false]
      intro x hx
      rw [List.eq_of_mem_replicate hx]
      simp
    rw [e]
    exact ⟨_, rfl, iteF (hq _ k1)⟩
theorem ok_shInit (F : Fun K "__init__" "Shares.__init__" sSInit f fd) (S : ShC K C) (FP : Fun K "_check_prime" "_check_prime" sCkPrime fP fdP) (gP : mg "_check_prime" = some (.ref fP)) (GP : FnOk P w K mg base CX0 2 fP fdP ["thing"] spCkP) (FA : Fun K "first_no_name" "first_no_name" sNoName fA fdA) (gA : mg "first_no_name" = some (.ref fA)) (GA : FnOk P w K mg base CX0 2 fA fdA ["things"] (spNoName K))
    (FN : Fun K "is_name" "is_name" sIsName fN fdN) (gN : mg "is_name" = some (.ref fN)) (GN : FnOk P w K mg base CX0 1 fN fdN ["thing"] spIsName) (FS : Fun K "is_row" "is_row" sIsRow fS fdS) (gS : mg "is_row" = some (.ref fS)) (GS : FnOk P w K mg base CX0 2 fS fdS ["unknowns", "thing"] (spIsRow K))
    (FV : Fun K "vector_of" "vector_of" sVec fV fdV) (gV : mg "vector_of" = some (.ref fV)) (nI : mg "isinstance" = none) (nD : mg "dict" = none) (nN : mg "len" = none) (nL : mg "list" = none) : FnOk P w K mg base CX0 4 f fd ["self", "prime", "unknowns", "questions"] (spShInit K C) := by
  have GV : FnOk P w K mg base CX0 1 fV fdV ["names", "row"] (spVec K) := ok_vec FV
  have bV := FV.binds (ps := ["names", "row"]) fun _ _ _ _ _ _ us hl => match us, hl with | [_, _], _ => rfl
  have bA := FA.binds (ps := ["things"]) fun _ _ _ _ _ _ us hl => match us, hl with | [_], _ => rfl
  have bP := FP.binds (ps := ["thing"]) fun _ _ _ _ _ _ us hl => match us, hl with | [_], _ => rfl
  have bN := FN.binds (ps := ["thing"]) fun _ _ _ _ _ _ us hl => match us, hl with | [_], _ => rfl
  have bS := FS.binds (ps := ["unknowns", "thing"]) fun _ _ _ _ _ _ us hl => match us, hl with | [_, _], _ => rfl
  refine F.ok scShInit (fun vs H Q E h => by obtain ⟨x, dx, c, g, p, us, rs, es, e, _⟩ := h; rw [e]; rfl) fun cdv A outer s H vs Q E hr hsp => ?_
  obtain ⟨x, dx, c, g, p, us, rs, es, rfl, hx, hc, hg, hp, ok, hq⟩ := hsp
  have nd := scShInit.nd
  have hu := hu_of (hr.mono (show 1 ≤ 3 by decide))
  refine ⟨_, pss_cons (ps_expr (pe_call GP (hr.mono (by decide)) rfl gP FP.kp bP .nil pass0 (pa_cons (pv 1) pa_nil)))
    (pss_cons (ps_set (i := 4) nd rfl (Or.inl rfl) (pe_call GA (hr.mono (by decide)) rfl gA FA.kp bA .nil pass0 (pa_cons (pv 2) pa_nil)))
    (pss_cons (ps_if (pt_cmp (pc_notN (pv 4))) (pss_one ps_never) pss_nil)
    (pss_cons (ps_if (PW.pt (pw_or (pt_not (pt_val (pe_callB (r := rIsi K) call_isi rfl nI boot_isi (pa_cons (pv 3) (pa_cons (pe_bltn (v := .ty "dict") rfl nD boot_dict' rfl) pa_nil))))) (pw_or1 (pt_cmpR op_eq (pe_callB call_lenD rfl nN boot_len (pa_cons (pv 3) pa_nil)) pe_int (nomark _))))) (pss_one ps_never) pss_nil)
    (pss_cons (ps_lock (ps_for PassesOwn.never rfl (pi_keys (pv 3)) (pg_name (i := 5) nd rfl (Or.inl rfl))
      (pss_one (ps_if (PW.pt (pw_or (pt_not (pt_val (pe_call GN (hr.mono (by decide)) rfl gN FN.kp bN .nil pass0 (pa_cons (pv 5) pa_nil)))) (pw_or1 (pt_not (pt_val (pe_call GS (hr.mono (by decide)) rfl gS FS.kp bS .nil pass0 (pa_cons (pv 2) (pa_cons (pe_dget hu (pv 3) (pv 5) (fun _ _ => rfl)) pa_nil)))))))) (pss_one ps_never) pss_nil))))
    (pss_cons (ps_fld (pv 0) (pv 1) rfl)
    (pss_cons (ps_fld (pv 0) (pe_callTy call_list_of rfl nL boot_list' (pa_cons (pv 2) pa_nil)) rfl)
    (pss_one (ps_fld (pv 0) (pe_lock (pe_dc (own := [("name", 5)]) (tt := tYes) (g := gName 5) (tk := tVar 5) (tv := tvVM K) rfl nd (pi_keys (pv 3)) (blkOk_by (N := NSh) (sc := defScope sSInit) (by decide +kernel))
      (fun _ _ _ _ _ => pg_name (i := 5) nd rfl (Or.inl rfl)) (fun _ _ _ _ _ => pts_nil) (fun _ _ _ _ _ => pv 5)
      (fun _ _ _ _ _ => pe_lc (own := [("number", 6)]) (tt := tYes) (g := gName 6) (wi := iList K (tCall (spVec K) [] E0 (tCons (tVar 2) (tCons (tDGet (tVar 3) (tVar 5)) tNil)))) (te := tOp (rI (fun _ j => 0 < j) fun i j => .int (i % j)) (tVar 6) (tVar 1)) rfl nd (pi_list (pe_call GV (hr.mono (by decide)) rfl gV FV.kp bV .nil pass0 (pa_cons (pv 2) (pa_cons (pe_dget hu (pv 3) (pv 5) (fun _ _ => rfl)) pa_nil)))) (blkOk_by (N := NSh) (sc := scVM) (by decide +kernel)) (fun _ _ _ _ _ => pg_name (i := 6) nd rfl (Or.inl rfl)) (fun _ _ _ _ _ => pts_nil) (fun _ _ _ _ _ => pe_op op_mod (pv 6) (pv 1))))) rfl)))))))), ?_⟩
  have les : es.length = rs.length := Paired.length hp
  have kes := keys_pr (F := RowA (fun _ => True) H) (fun _ _ h => h.1) hp
  have ndes := nd_pr (F := RowA (fun _ => True) H) (fun _ _ h => h.1) hp ok.qnd
  refine ⟨_, rfl, p, rfl, ok.pr, fun H0 k0 => ?_⟩
  refine ⟨_, rfl, c, us, rfl, hc.same k0, ok.ul.1, ok.und, ok.un, ok.ul.2, fun H1 k01 => ?_⟩
  have k1 := k0.trans k01
  refine ⟨_, rfl, _, rfl, iteF ?_⟩
  have hg1 := k1 _ _ hg
  refine ⟨_, rfl, _, _, _, _, true, rfl, .ty _, .base (.dK hg1), kit_ty (by decide +kernel), _, rfl, iteF ?_⟩
  refine ⟨_, rfl, g, es, rfl, hg1, rfl, false, congrArg V.bl (decide_eq_false fun z => by have z := V.int.inj z; have := ok.ql; omega), iteF ?_⟩
  have nog : ∀ {b : Addr} {l : List V}, (H b = some (.lst l) ∨ H b = some (.tup l)) → b ≠ g := fun h z => by
    rw [z, hg] at h
    rcases h with h | h <;> cases h
  have got : ∀ (i : Nat) (k : Key) (v : V), es[i]? = some (k, v) → ∃ q d, rs[i]? = some q ∧ k = Sum.inr q.1 ∧ v = .ref d ∧ H d = some (.dK (dkS q.2)) ∧ d ≠ g := fun i k v e => by
    obtain ⟨q, eq, h1, d, h2, _, h4⟩ := paired_get hp e
    refine ⟨q, d, eq, h1, h2, h4, fun z => ?_⟩
    rw [z, hg] at h4
    have h5 : es = dkS q.2 := HO.dK.inj (Option.some.inj h4)
    have m := List.mem_of_getElem? e
    rw [h5] at m
    obtain ⟨e', _, ee⟩ := List.mem_map.mp m
    have := congrArg (·.2) ee
    have h2 : v = .ref d := h2
    rw [h2] at this
    cases this
  have cg : c ≠ g := nog hc
  refine ⟨g, _, hg1, trivial, fun od => ⟨_, rfl, g, od, rfl, .inl ⟨es, upd_same, for_it walk_keys (fun i σ H' => Same (upd H1 g (.frz od (.dK es))) H' ∧ ∃ s5, σ = [some (.ref x), some (.int p), some (.ref c), some (.ref g), some .non, s5, none]) ⟨Same.refl _, _, rfl⟩ (fun i σ H' _ h => h.1 _ _ upd_same) ?_ ?_⟩⟩⟩
  · rintro i y σ H2 H3 lt ⟨k2, s5, rfl⟩ ⟨rfl, k0, v0, ekv, rfl⟩
    obtain ⟨q, d, eq, rfl, rfl, h4, dg⟩ := got i _ _ ekv
    have up : ∀ {H' : Hp}, Same H3 H' → ∀ b o, b ≠ g → H b = some o → H' b = some o := fun s b o nb e => s _ _ (k2 _ _ (by rw [upd_ne nb]; exact k1 _ _ e))
    have qin := List.mem_of_getElem? eq
    refine ⟨_, rfl, q.1, rfl, ok.qn q qin, fun H4 k4 => ⟨_, rfl, iteF ?_⟩⟩
    refine ⟨_, rfl, _, rfl, _, rfl, g, _, rfl, .inl ⟨es, Sum.inr q.1, .inr ⟨od, k4 _ _ (k2 _ _ upd_same)⟩, rfl, (valV_atN ndes ekv).symm⟩, ?_⟩
    obtain ⟨so, sb, sl⟩ := ok.s q qin
    refine ⟨c, d, us, q.2, rfl, hc.imp (fun h => up k4 _ _ cg h) (fun h => up k4 _ _ cg h), up k4 _ _ dg h4, so, sb, sl, fun H5 k5 => ⟨_, rfl, iteF ⟨(k2.trans k4).trans k5, _, rfl⟩⟩⟩
  rintro σ H2 ⟨k2, s5, rfl⟩
  obtain ⟨e2, k12⟩ := lock_offN hg1 k2
  refine ⟨e2, ?_⟩
  have k02 := k1.trans k12
  generalize upd H2 g (.dK es) = H3 at k02 k12
  -- the prime
  have hx3 := k02 _ _ hx
  refine ⟨_, rfl, _, rfl, x, C, dx, _, rfl, hx3, S.cl, S.nP, by decide, ?_⟩
  have nox : ∀ {b : Addr} {o : HO}, H b = some o → (∀ d f, o ≠ .ins C d f) → b ≠ x := fun h n z => by
    rw [z, hx] at h
    exact n _ _ (Option.some.inj h).symm
  have cx : c ≠ x := by
    rcases hc with h | h
    · exact nox h (fun _ _ z => by cases z)
    · exact nox h (fun _ _ z => by cases z)
  have gx : g ≠ x := nox hg (fun _ _ z => by cases z)
  have hx4 : upd H3 x (.ins C dx (putF "prime" (.int p) [])) x = some (.ins C dx (putF "prime" (.int p) [])) := upd_same
  have up4 : ∀ b o, b ≠ x → H b = some o → upd H3 x (.ins C dx (putF "prime" (.int p) [])) b = some o := fun b o nb e => by rw [upd_ne nb]; exact k02 _ _ e
  generalize upd H3 x (.ins C dx (putF "prime" (.int p) [])) = H4 at hx4 up4 ⊢
  have low4 : ∀ b, H4 b = none → H b = none ∧ b ≠ x := fun b n => by
    have bx : b ≠ x := fun z => by rw [z, hx4] at n; cases n
    refine ⟨?_, bx⟩
    cases e : H b with
    | none => rfl
    | some o => rw [up4 b o bx e] at n; cases n
  -- the unknowns
  refine ⟨_, rfl, c, _, rfl, hc.imp (fun h => SqL.of (up4 _ _ cx h)) (fun h => SqT.of (up4 _ _ cx h)), fun u nu => ?_⟩
  have ku := same_new (o := .lst (us.map V.str)) nu
  have ou : upd H4 u (.lst (us.map V.str)) u = some (.lst (us.map V.str)) := upd_same
  have hx5 := ku _ _ hx4
  have up5 : ∀ b o, b ≠ x → H b = some o → upd H4 u (.lst (us.map V.str)) b = some o := fun b o nb e => ku _ _ (up4 b o nb e)
  have ux : u ≠ x := (low4 u nu).2
  generalize upd H4 u (.lst (us.map V.str)) = H5 at ku ou hx5 up5 ⊢
  refine ⟨_, rfl, x, C, dx, _, rfl, hx5, S.cl, S.nU, by show 1 < 1000; decide, ?_⟩
  have hx6 : upd H5 x (.ins C dx (putF "_unknowns" (.ref u) (putF "prime" (.int p) []))) x = some (.ins C dx (putF "_unknowns" (.ref u) (putF "prime" (.int p) []))) := upd_same
  have ou6 : upd H5 x (.ins C dx (putF "_unknowns" (.ref u) (putF "prime" (.int p) []))) u = some (.lst (us.map V.str)) := by rw [upd_ne ux]; exact ou
  have up6 : ∀ b o, b ≠ x → H b = some o → upd H5 x (.ins C dx (putF "_unknowns" (.ref u) (putF "prime" (.int p) []))) b = some o := fun b o nb e => by rw [upd_ne nb]; exact up5 b o nb e
  generalize upd H5 x (.ins C dx (putF "_unknowns" (.ref u) (putF "prime" (.int p) []))) = H6 at hx6 ou6 up6 ⊢
  have low6 : ∀ b, H6 b = none → H b = none ∧ b ≠ x := fun b n => by
    have bx : b ≠ x := fun z => by rw [z, hx6] at n; cases n
    refine ⟨?_, bx⟩
    cases e : H b with
    | none => rfl
    | some o => rw [up6 b o bx e] at n; cases n
  have hg6 := up6 _ _ gx hg
  -- the rows
  refine ⟨g, _, hg6, trivial, fun od2 => ⟨_, rfl, g, od2, rfl, .inl ⟨es, upd_same, ?_⟩⟩⟩
  have oL : upd H6 g (.frz od2 (.dK es)) g = some (.frz od2 (.dK es)) := upd_same
  have lowL : ∀ b, upd H6 g (.frz od2 (.dK es)) b = none → H b = none ∧ b ≠ x := fun b n => by
    have bg : b ≠ g := fun z => by rw [z, upd_same] at n; cases n
    rw [upd_ne bg] at n
    exact low6 b n
  refine dc_madeN (es.map (·.1)) (by rw [List.length_map]; have := ok.ql; omega) ndes (fun i H' s lt => ⟨s _ _ oL, by rw [List.length_map] at lt; exact lt⟩) (fun H' s => ⟨s _ _ oL, by rw [List.length_map]; exact Nat.le_refl _⟩)
    (fun i y H' => ∃ q v, rs[i]? = some q ∧ y = V.ref v ∧ H v = none ∧ v ≠ x ∧ H' v = some (.lst ((vecM p us q.2).map V.int))) ?_ ?_ ?_
  · rintro i y H7 H8 d l ⟨q, v, e1, rfl, n1, n2, e2⟩ od keep
    exact ⟨q, v, e1, rfl, n1, n2, keep _ _ (fun z => by rw [z, od] at e2; cases e2) e2⟩
  · rintro i y k H7 H8 Cn Nn ek s7 ⟨rfl, k2, v0, ek2, rfl⟩ yes
    rw [List.getElem?_map, ek2] at ek
    obtain rfl : k2 = k := Option.some.inj ek
    obtain ⟨q, d, eq, rfl, rfl, h4, dgn⟩ := got i _ _ ek2
    have dx' : d ≠ x := nox h4 (fun _ _ z => by cases z)
    have up : ∀ {H' : Hp}, Same H8 H' → ∀ b o, b ≠ g → b ≠ x → H b = some o → H' b = some o := fun s b o n1 n2 e => s _ _ (s7 _ _ (by rw [upd_ne n1]; exact up6 b o n2 e))
    refine ⟨rfl, ?_⟩
    refine ⟨_, rfl, _, rfl, _, rfl, _, rfl, g, _, rfl, .inl ⟨es, Sum.inr q.1, .inr ⟨od2, s7 _ _ oL⟩, rfl, (valV_atN ndes ek2).symm⟩, ?_⟩
    refine ⟨c, d, us, q.2, rfl, hc.imp (fun h => up (Same.refl _) _ _ cg cx h) (fun h => up (Same.refl _) _ _ cg cx h), up (Same.refl _) _ _ dgn dx' h4, ok.ul.2, fun H9 v k9 nv ov => ?_⟩
    refine ⟨v, rfl, ⟨_, SqL.of ov⟩, fun W nW => ?_⟩
    have low : ∀ b, H8 b = none → H b = none ∧ b ≠ x := fun b n => lowL b (s7.free n)
    refine lc_list (xs := (vecZ us q.2).map V.int) (fun j H' => H' W = some (.lst (((vecM p us q.2).take j).map V.int)) ∧ Same H9 H') ⟨upd_same, same_new nW⟩ (fun j H' _ h => SqL.of (h.2 _ _ ov)) ?_ ?_
    · rintro j y H10 ey ⟨oW, k10⟩
      rw [List.getElem?_map] at ey
      obtain ⟨z, ez, rfl⟩ := Option.map_eq_some_iff.mp ey
      have em : (vecM p us q.2)[j]? = some (z % p) := by unfold vecM; rw [List.getElem?_map, ez]; rfl
      have lj : j < us.length := by
        have := (List.getElem?_eq_some_iff.mp ez).1
        rw [vec_len] at this
        exact this
      refine ⟨rfl, ?_⟩
      refine ⟨_, rfl, _, rfl, _, _, rfl, rfl, by have := ok.pr.lo; omega, _, oW, by rw [sizeLine_eq, List.length_map, List.length_take]; have := ok.ul; omega, ?_, fun b o e => by rw [upd_ne (ne_of_none e nW)]; exact k10 _ _ e⟩
      rw [upd_same, List.take_succ, em, List.map_append]
      rfl
    · rintro H10 ⟨oW, k10⟩
      have lm : (vecM p us q.2).length = ((vecZ us q.2).map V.int).length := by unfold vecM; rw [List.length_map, List.length_map]
      rw [← lm, List.take_length] at oW
      have nW0 := low W (k9.free nW)
      exact yes _ _ ⟨q, W, eq, rfl, nW0.1, nW0.2, oW⟩ (k9.trans k10)
  · intro H7 D kvs2 nD oD ek2 hR s7
    obtain ⟨b1, s67⟩ := lock_offN hg6 s7
    have Dg : D ≠ g := fun z => by rw [z, upd_same] at nD; cases nD
    obtain ⟨nD0, Dx⟩ := lowL D nD
    refine ⟨b1, ?_⟩
    have upl : ∀ {b : Addr} {o : HO}, H7 b = some o → (∀ a f, o ≠ .frz a f) → upd H7 g (.dK es) b = some o := fun h n => by
      rw [upd_ne (fun z => by rw [z, b1] at h; exact n _ _ (Option.some.inj h).symm)]
      exact h
    have oD7 := upl oD (fun _ _ z => by cases z)
    have hx7 := s67 _ _ hx6
    refine ⟨_, rfl, x, C, dx, _, rfl, hx7, S.cl, S.nV, by show 2 < 1000; decide, ?_⟩
    have up8 : ∀ b o, b ≠ x → upd H7 g (.dK es) b = some o → upd (upd H7 g (.dK es)) x (.ins C dx (putF "_vectors" (.ref D) (putF "_unknowns" (.ref u) (putF "prime" (.int p) [])))) b = some o := fun b o nb e => by rw [upd_ne nb]; exact e
    refine hq _ ⟨dx, u, D, kvs2, ?_, (low4 u nu).1, nD0, up8 _ _ ux (s67 _ _ ou6), up8 _ _ Dx oD7, ?_⟩ fun b o nb e => up8 b o nb (s67 _ _ (up6 b o nb e))
    · rw [upd_same]
      rfl
    · refine paired_of _ _ (by have z := congrArg List.length ek2; rw [List.length_map, List.length_map] at z; omega) fun j e q e1 e2 => ?_
      obtain ⟨q', v, e3, e4, n1, n2, e5⟩ := hR j e.1 e.2 e1
      rw [e2] at e3
      obtain rfl := Option.some.inj e3
      have ekj : e.1 = Sum.inr q.1 := by
        have z := congrArg (fun l => l[j]?) (ek2.trans kes)
        simp only [List.getElem?_map, e1, e2, Option.map_some] at z
        exact Option.some.inj z
      exact ⟨ekj, v, e4, n1, up8 _ _ n2 (upl e5 (fun _ _ z => by cases z))⟩
end
end L2.TB
/-! Shares: questions, unknowns, row, __eq__ -/
namespace L2.TB
open PySem PySem.Spec PyProof.Rows
abbrev ShAt (H : Hp) (C x : Addr) (p : Int) (us : List Str) (rs : List RowT) : Prop := ShA (fun _ => True) H C x p us rs
def spShQs (C : Addr) : Sp := fun vs H Q _ => ∃ (x : Addr) (p : Int) (us : List Str) (rs : List RowT), vs = [.ref x] ∧ ShAt H C x p us rs ∧ ∀ H' q, H q = none → H' q = some (.lst ((rs.map (·.1)).map V.str)) → Same H H' → Q (.ref q) H'
def spShUnk (C : Addr) : Sp := fun vs H Q _ => ∃ (x : Addr) (p : Int) (us : List Str) (rs : List RowT), vs = [.ref x] ∧ ShAt H C x p us rs ∧ ∀ H' q, H q = none → H' q = some (.lst (us.map V.str)) → Same H H' → Q (.ref q) H'
def rowM (p : Int) (us : List Str) (kvs : List (Str × Int)) : List (Str × Int) := (us.zip (vecM p us kvs)).filter fun e => decide (e.2 ≠ 0)
def spShRow (C : Addr) : Sp := fun vs H Q _ => ∃ (x : Addr) (p : Int) (us : List Str) (rs : List RowT) (nm : Str) (row : List (Str × Int)), vs = [.ref x, .str nm] ∧ ShAt H C x p us rs ∧ (rs.map (·.1)).Nodup ∧ us.Nodup ∧ us.length < 1000 ∧ (nm, row) ∈ rs ∧
  ∀ H' d, H d = none → Same H H' → H' d = some (.dK (dkS (rowM p us row))) → Q (.ref d) H'
abbrev NSr : List Str := ["self", "name", "unknown", "number"]
theorem scShQs : FnScope ["self"] ["self"] (defScope sSQs) := ⟨rfl, rfl, rfl, by decide +kernel, rfl, by decide +kernel, by decide +kernel⟩
theorem scShUnk : FnScope ["self"] ["self"] (defScope sSUnk) := ⟨rfl, rfl, rfl, by decide +kernel, rfl, by decide +kernel, by decide +kernel⟩
theorem scShRow : FnScope NSr ["self", "name"] (defScope sSRow) := ⟨rfl, rfl, rfl, by decide +kernel, rfl, by decide +kernel, by decide +kernel⟩
theorem scShEq : FnScope ["self", "other"] ["self", "other"] (defScope sSEq) := ⟨rfl, rfl, rfl, by decide +kernel, rfl, by decide +kernel, by decide +kernel⟩
abbrev VecT : Type := List (Str × List Int)
def vecsD (p : Int) (us : List Str) (rs : List RowT) : VecT := rs.map fun q => (q.1, vecM p us q.2)
theorem dp_vecs {K : PySem.W.Frag} {H : Hp} {A : Addr → Prop} {p : Int} {us : List Str} {ts : List Addr} {es : List (Key × V)} (h1 : Paired (fun (t : Addr) (q : Key × V) => H t = some (.tup [kV q.1, q.2])) ts es) : ∀ {rs : List RowT}, Paired (VecA A p us H) es rs → DpAll K H (ts.map V.ref) ((vecsD p us rs).map PySem.W.Datum.toD) := by
  induction h1 with
  | nil =>
    intro qs h2
    cases h2
    exact .nil
  | @cons t e ts es h _ ih =>
    intro qs h2
    cases h2 with
    | @cons _ q _ qs k h2 =>
      obtain ⟨k1, v, k2, _, k4⟩ := k
      refine .cons (.tup (SqT.of h) ?_) (ih h2)
      rw [k1, k2]
      exact .cons (.str _) (.cons (dp_intL k4) .nil)
def spShEq (C : Addr) : Sp := fun vs H Q _ => ∃ (a b : Addr) (p1 p2 : Int) (u1 u2 : List Str) (q1 q2 : List RowT), vs = [.ref a, .ref b] ∧ ShAt H C a p1 u1 q1 ∧ ShAt H C b p2 u2 q2 ∧ ∀ H', Same H H' → Q (.bl (decide (p1 = p2 ∧ u1 = u2 ∧ vecsD p1 u1 q1 = vecsD p2 u2 q2))) H'
section
variable {P : Program} {w : World} {K : PySem.W.Frag} {mg : Str → Option Value} {base : Heap} {f fC C : Addr} {fd fdC : FuncData}
theorem ok_shQs (F : Fun K "questions" "Shares.questions" sSQs f fd) (S : ShC K C) (nL : mg "list" = none) : FnOk P w K mg base CX0 1 f fd ["self"] (spShQs C) := by
  refine F.ok scShQs (fun vs H Q E h => by obtain ⟨x, p, us, rs, e, _⟩ := h; rw [e]; rfl) fun cdv A outer s H vs Q E hr hsp => ?_
  obtain ⟨x, p, us, rs, rfl, hx, hq⟩ := hsp
  obtain ⟨dx, u, D, es, h1, _, _, h2, h3, h4⟩ := hx.ex
  refine ⟨_, pss_one (ps_ret (pe_callTy (call_listD rfl) rfl nL boot_list' (pa_cons (pe_fld (pv 0) rfl) pa_nil))), ?_⟩
  refine ⟨_, rfl, x, C, dx, _, _, rfl, h1, S.cl, S.nV, rfl, D, es, rfl, .inl h3, fun q nq => hq _ q nq ?_ (same_new nq)⟩
  have ek : (es.map fun kv => kV kv.1) = (rs.map (·.1)).map V.str := by
    have z2 := congrArg (List.map kV) (keys_pr (F := VecA (fun _ => True) p us H) (fun _ _ h => h.1) h4)
    rw [List.map_map, List.map_map] at z2
    exact z2
  rw [ek]
  exact upd_same
theorem ok_shUnk (F : Fun K "unknowns" "Shares.unknowns" sSUnk f fd) (S : ShC K C) (nL : mg "list" = none) : FnOk P w K mg base CX0 1 f fd ["self"] (spShUnk C) := by
  refine F.ok scShUnk (fun vs H Q E h => by obtain ⟨x, p, us, rs, e, _⟩ := h; rw [e]; rfl) fun cdv A outer s H vs Q E hr hsp => ?_
  obtain ⟨x, p, us, rs, rfl, hx, hq⟩ := hsp
  obtain ⟨dx, u, D, es, h1, _, _, h2, h3, h4⟩ := hx.ex
  refine ⟨_, pss_one (ps_ret (pe_callTy call_list_of rfl nL boot_list' (pa_cons (pe_fld (pv 0) rfl) pa_nil))), ?_⟩
  exact ⟨_, rfl, x, C, dx, _, _, rfl, h1, S.cl, S.nU, rfl, u, _, rfl, .inl (SqL.of h2), fun q nq => hq _ q nq upd_same (same_new nq)⟩
theorem ok_shRow (F : Fun K "row" "Shares.row" sSRow f fd) (S : ShC K C) (FC : Fun K "check_asked" "check_asked" sCkA fC fdC) (gC : mg "check_asked" = some (.ref fC)) (GC : FnOk P w K mg base CX0 2 fC fdC ["names", "asked"] spCkAD) (nZ : mg "zip" = none) : FnOk P w K mg base CX0 3 f fd ["self", "name"] (spShRow C) := by
  have bC := FC.binds (ps := ["names", "asked"]) fun _ _ _ _ _ _ us hl => match us, hl with | [_, _], _ => rfl
  refine F.ok scShRow (fun vs H Q E h => by obtain ⟨x, p, us, rs, nm, row, e, _⟩ := h; rw [e]; rfl) fun cdv A outer s H vs Q E hr hsp => ?_
  obtain ⟨x, p, us, rs, nm, row, rfl, hx, qnd, und, ul, hin, hq⟩ := hsp
  obtain ⟨dx, u, D, es, h1, _, _, h2, h3, h4⟩ := hx.ex
  have nd := scShRow.nd
  have hu := hu_of (hr.mono (show 1 ≤ 2 by decide))
  refine ⟨_, pss_cons (ps_expr (pe_call GC hr rfl gC FC.kp bC .nil pass0 (pa_cons (pe_fld (pv 0) rfl) (pa_cons (pv 1) pa_nil))))
    (pss_one (ps_ret (pe_dc (own := [("unknown", 2), ("number", 3)]) (g := gTup K 2 (gCons (gName 2) (gCons (gName 3) gNil))) (tt := tTest (tOp rNe (tVar 3) (tC (.int 0)))) (tk := tVar 2) (tv := tVar 3) rfl nd (pi_zip rfl nZ (pa_cons (pe_fld (pv 0) rfl) (pa_cons (pe_dget hu (pe_fld (pv 0) rfl) (pv 1) (fun _ _ => rfl)) pa_nil))) (blkOk_by (N := NSr) (sc := defScope sSRow) (by decide +kernel))
      (fun _ _ _ _ _ => pg_tup rfl (pgs_cons (pg_name (i := 2) nd rfl (Or.inl rfl)) (pgs_cons (pg_name (i := 3) nd rfl (Or.inl rfl)) pgs_nil))) (fun _ _ _ _ _ => pts_one (pt_cmpR op_ne (pv 3) pe_int (nomark _))) (fun _ _ _ _ _ => pv 2) (fun _ _ _ _ _ => pv 3)))), ?_⟩
  have ndes := nd_pr (F := VecA (fun _ => True) p us H) (fun _ _ h => h.1) h4 qnd
  obtain ⟨j, ej⟩ := List.getElem?_of_mem hin
  have les : es.length = rs.length := Paired.length h4
  have lj : j < es.length := by
    have := (List.getElem?_eq_some_iff.mp ej).1
    omega
  have ee : es[j]? = some es[j] := List.getElem?_eq_getElem lj
  obtain ⟨q, eq, hk, v, hv, _, ov⟩ := paired_get h4 ee
  rw [ej] at eq
  obtain rfl := Option.some.inj eq
  generalize es[j] = e at ee hk hv
  obtain ⟨k, v0⟩ := e
  obtain rfl : k = Sum.inr nm := hk
  obtain rfl : v0 = .ref v := hv
  have vv := valV_atN ndes ee
  have ov : H v = some (.lst ((vecM p us row).map V.int)) := ov
  refine ⟨_, rfl, x, C, dx, _, _, rfl, h1, S.cl, S.nV, rfl, _, rfl, D, es, nm, _, rfl, .inl h3, vv, ?_⟩
  have lv : (vecM p us row).length = us.length := by unfold vecM; rw [List.length_map]; exact vec_len _ _
  let pz := us.zip (vecM p us row)
  have lp : pz.length = us.length := by
    show (us.zip _).length = _
    rw [List.length_zip, lv]
    omega
  refine ⟨_, rfl, x, C, dx, _, _, rfl, h1, S.cl, S.nU, rfl, _, rfl, x, C, dx, _, _, rfl, h1, S.cl, S.nV, rfl, _, rfl, D, _, rfl, .inl ⟨es, Sum.inr nm, .inl h3, rfl, vv.symm⟩, u, v, _, _, rfl, SqL.of h2, SqL.of ov, fun R nR => dc_itN (walk_zip (xs := us.map V.str) (ys := (vecM p us row).map V.int) (n := us.length) (by rw [List.length_map, List.length_map, lv]; omega)) (fun i H' => H' R = some (.dK (dkS ((pz.take i).filter fun e => decide (e.2 ≠ 0)))) ∧ Same H H') ⟨upd_same, same_new nR⟩ (fun i H' _ h => ⟨SqL.of (h.2 _ _ h2), SqL.of (h.2 _ _ ov)⟩) ?_ ?_⟩
  · rintro i yv H4 H5 li ⟨oR, k4⟩ ⟨T, x1, z1, rfl, nT, rfl, ex, ez⟩
    have ex : (us.map V.str)[i]? = some x1 := ex
    have ez : ((vecM p us row).map V.int)[i]? = some z1 := ez
    rw [List.getElem?_map] at ex ez
    obtain ⟨n, en, rfl⟩ := Option.map_eq_some_iff.mp ex
    obtain ⟨z, ez1, rfl⟩ := Option.map_eq_some_iff.mp ez
    have kT := same_new (o := .tup [.str n, .int z]) nT
    have ep : pz[i]? = some (n, z) := (List.getElem?_zip_eq_some (z := (n, z))).mpr ⟨en, ez1⟩
    have et : pz.take (i + 1) = pz.take i ++ [(n, z)] := by rw [List.take_succ, ep]; rfl
    have oR5 := kT _ _ oR
    refine ⟨T, _, rfl, SqT.of upd_same, rfl, _, _, rfl, _, _, rfl, rfl, rfl, ?_⟩
    generalize upd H4 T (.tup [.str n, .int z]) = H6 at kT oR5
    by_cases h : z = 0
    · refine ⟨_, rfl, rfl, false, congrArg V.bl (by rw [h]; simp), iteF ⟨?_, k4.trans kT⟩⟩
      rw [et, List.filter_append]
      simpa [h] using oR5
    · refine ⟨_, rfl, rfl, true, congrArg V.bl (by simp [h]), iteT ⟨_, rfl, _, rfl, _, Sum.inr n, rfl, oR5, ?_, ?_, fun b o e => ?_⟩⟩
      · have z1 := List.length_filter_le (fun e : Str × Int => decide (e.2 ≠ 0)) (pz.take i)
        rw [List.length_take] at z1
        rw [sizeLine_eq]
        unfold dkS
        rw [List.length_map]
        omega
      · have nout : (Sum.inr n : Key) ∉ (dkS ((pz.take i).filter fun e => decide (e.2 ≠ 0))).map (·.1) := fun hx => by
          obtain ⟨e, he, e1⟩ := List.mem_map.mp hx
          obtain ⟨e', he', rfl⟩ := List.mem_map.mp he
          have m := (List.mem_filter.mp he').1
          obtain ⟨i2, hi2, e2⟩ := List.getElem_of_mem m
          rw [List.length_take] at hi2
          have e3 : pz[i2]? = some e' := by
            rw [List.getElem_take] at e2
            rw [← e2]
            exact List.getElem?_eq_getElem _
          have e4 := (List.getElem?_zip_eq_some.mp e3).1
          have e5 : e'.1 = n := Sum.inr.inj e1
          rw [e5] at e4
          have := (List.getElem?_inj (by omega) und).mp (e4.trans en.symm)
          omega
        rw [upd_same, put_last nout, et, List.filter_append]
        unfold dkS
        rw [List.map_append]
        simp [h]
      · rw [upd_ne (ne_of_none e nR)]
        exact kT _ _ (k4 _ _ e)
  · rintro H6 ⟨oR, k6⟩
    rw [← lp, List.take_length] at oR
    exact hq _ R nR k6 oR
theorem ok_shEqO (F : Fun K "__eq__" "Shares.__eq__" sSEq f fd) (gC : mg "Shares" = some (.ref C)) (gI : mg "isinstance" = none) : FnOk P w K mg base CX0 1 f fd ["self", "other"] (spSEqO K C) := by
  refine F.ok scShEq (fun vs H Q E h => by obtain ⟨a, y, t, e, _⟩ := h; rw [e]; rfl) fun cdv A outer s H vs Q E hr hsp => ?_
  obtain ⟨a, y, t, rfl, ty, no, hq⟩ := hsp
  refine ⟨_, pss_cons (ps_if (pt_not (pt_val (pe_callB (r := rIsi K) call_isi rfl gI boot_isi (pa_cons (pv 1) (pa_cons (pe_glob (v := .ref C) rfl gC rfl) pa_nil))))) (pss_one (ps_ret pe_bl)) pss_nil)
    pss_never, ?_⟩
  exact ⟨_, rfl, y, .ref C, t, .ref C, false, rfl, .own C, ty, no, _, rfl, iteT hq⟩
theorem ok_shEq (F : Fun K "__eq__" "Shares.__eq__" sSEq f fd) (S : ShC K C) (IC : C8.InsC K C) (gC : mg "Shares" = some (.ref C)) (gI : mg "isinstance" = none) (gL : mg "list" = none) : FnOk P w K mg base CX0 1 f fd ["self", "other"] (spShEq C) := by
  refine F.ok scShEq (fun vs H Q E h => by obtain ⟨a, b, p1, p2, u1, u2, q1, q2, e, _⟩ := h; rw [e]; rfl) fun cdv A outer s H vs Q E hr hsp => ?_
  obtain ⟨a, b, p1, p2, u1, u2, q1, q2, rfl, ta, tb, hq⟩ := hsp
  obtain ⟨dx, ua, da, ea, ha, _, _, hua, hda, hka⟩ := id ta.ex
  obtain ⟨dy, ub, db, eb, hb, _, _, hub, hdb, hkb⟩ := id tb.ex
  have hu64 := hr.units
  refine ⟨_, pss_cons (ps_if (pt_not (pt_val (pe_callB (C8.call_isC IC) rfl gI boot_isi (pa_cons (pv 1) (pa_cons (pe_glob (v := .ref C) rfl gC rfl) pa_nil))))) (pss_one (ps_ret pe_bl)) pss_nil)
    (pss_cons (ps_if (PW.pt (pw_or (pt_cmpR op_ne (pe_fld (pv 0) rfl) (pe_fld (pv 1) rfl) (nomark _)) (pw_or1 (pt_cmpR (op_neT (α := List Str) (by decide) hu64) (pe_fld (pv 0) rfl) (pe_fld (pv 1) rfl) (nomark _))))) (pss_one (ps_ret pe_bl)) pss_nil)
    (pss_one (ps_ret (pe_cmpR (op_eqT (α := VecT) (by decide) hu64) (LiI.pe_listItems rfl (pe_fld (pv 0) rfl) rfl gL boot_list') (LiI.pe_listItems rfl (pe_fld (pv 1) rfl) rfl gL boot_list') (nomark _))))), ?_⟩
  refine ⟨_, rfl, b, dy, _, rfl, hb, _, rfl, iteF ?_⟩
  refine ⟨_, rfl, a, C, dx, _, _, rfl, ha, S.cl, S.nP, rfl, _, rfl, b, C, dy, _, _, rfl, hb, S.cl, S.nP, rfl, rfl, ?_⟩
  by_cases ep : p1 = p2
  · refine ⟨false, congrArg V.bl (by rw [ep]; simp), iteF ?_⟩
    refine ⟨_, rfl, a, C, dx, _, _, rfl, ha, S.cl, S.nU, rfl, _, rfl, b, C, dy, _, _, rfl, hb, S.cl, S.nU, rfl, u1, u2, dp_strL hua, dp_strL hub, ?_⟩
    by_cases eu : u1 = u2
    · refine ⟨false, congrArg V.bl (by rw [eu]; simp), iteF ?_⟩
      refine ⟨_, rfl, a, C, dx, _, _, rfl, ha, S.cl, S.nV, rfl, da, ea, rfl, hda, fun H1 p1' t1 k1 n1 _ _ o1 r1 => ?_⟩
      have k1 : Same H H1 := k1
      refine ⟨_, rfl, b, C, dy, _, _, rfl, k1 _ _ hb, S.cl, S.nV, rfl, db, eb, rfl, k1 _ _ hdb, fun H2 p2' t2 k2 n2 _ _ o2 r2 => ?_⟩
      have k2 : Same H1 H2 := k2
      have k02 := k1.trans k2
      refine ⟨vecsD p1 u1 q1, vecsD p2 u2 q2, .lst (SqL.of (k2 _ _ o1)) (dp_vecs (p := p1) (us := u1) (es := ea) (Paired.mapP r1 fun t e h => k2 _ _ h) (Paired.mapP hka fun e q h => h.kp fun b o a e => ⟨a, k02 b o e⟩)), .lst (SqL.of o2) (dp_vecs (p := p2) (us := u2) (es := eb) r2 (Paired.mapP hkb fun e q h => h.kp fun b o a e => ⟨a, k02 b o e⟩)), ?_⟩
      have z := hq H2 k02
      have e : decide (p1 = p2 ∧ u1 = u2 ∧ vecsD p1 u1 q1 = vecsD p2 u2 q2) = decide (vecsD p1 u1 q1 = vecsD p2 u2 q2) := by simp [ep, eu]
      rw [e] at z
      exact z
    · refine ⟨true, congrArg V.bl (by simp [eu]), iteT ?_⟩
      have z := hq H (Same.refl _)
      rw [decide_eq_false (fun h => eu h.2.1)] at z
      exact z
  · refine ⟨true, congrArg V.bl (by simp [ep]), iteT ?_⟩
    have z := hq H (Same.refl _)
    rw [decide_eq_false (fun h => ep h.1)] at z
    exact z
end
end L2.TB
/-! _law_s_shares -/
namespace L2.TB
open PySem PySem.Spec PyProof.Rows
structure ShR (p : Int) (us : List Str) (rs : List RowT) : Prop where
  pr : PrimeZ p
  ne : p ≠ 11
  und : us.Nodup
  ul : 1 ≤ us.length ∧ us.length ≤ 4
  un : ∀ x ∈ us, NmS x
  qnd : (rs.map (·.1)).Nodup
  ql : 2 ≤ rs.length ∧ rs.length ≤ 5
  qn : ∀ q ∈ rs, NmS q.1
  s : ∀ q ∈ rs, (q.2.map (·.1)).Nodup ∧ ∀ e ∈ q.2, e.1 ∈ us
theorem prime_of {p : Int} (h : V.int p ∈ [V.int 2, .int 3, .int 5, .int 7, .int 101, .int 997]) : PrimeZ p ∧ p ≠ 11 := by
  have ck : ∀ n : Nat, (∀ d ∈ List.range n, 2 ≤ d → n % d ≠ 0) → ∀ d : Int, 2 ≤ d → d < (n : Int) → (n : Int) % d ≠ 0 := fun n hn d d2 dn e => by
    obtain ⟨k, rfl⟩ : ∃ k : Nat, d = (k : Int) := ⟨d.toNat, by omega⟩
    have z := hn k (List.mem_range.mpr (by omega)) (by omega)
    exact z (by omega)
  have c : p = 2 ∨ p = 3 ∨ p = 5 ∨ p = 7 ∨ p = 101 ∨ p = 997 := by
    simpa using h
  rcases c with rfl | rfl | rfl | rfl | rfl | rfl
  · exact ⟨⟨by decide, by decide, ck 2 (by decide)⟩, by decide⟩
  · exact ⟨⟨by decide, by decide, ck 3 (by decide)⟩, by decide⟩
  · exact ⟨⟨by decide, by decide, ck 5 (by decide)⟩, by decide⟩
  · exact ⟨⟨by decide, by decide, ck 7 (by decide)⟩, by decide⟩
  · exact ⟨⟨by decide, by decide, ck 101 (by decide +kernel)⟩, by decide⟩
  · exact ⟨⟨by decide, by decide, ck 997 (by decide +kernel)⟩, by decide⟩
def spSharesL : Sp := fun vs H Q _ => ∃ (l ls ml : Addr) (N : Int), vs = [.ref l, .ref ml, .int 4] ∧ Strm H l ls N ∧ N ≤ 800000 ∧ ml ≠ l ∧ ml ≠ ls ∧ H ml = some (.lst [.int 2, .int 3, .int 5, .int 7, .int 101, .int 997]) ∧
  ∀ H' t u F p us rs, ShR p us rs → H' t = some (.tup [.int p, .ref u, .ref F]) → H u = none → u ≠ l → u ≠ ls → H' u = some (.lst (us.map V.str)) → H F = none → F ≠ l → F ≠ ls → RowsAt (fun b => b ≠ l ∧ b ≠ ls ∧ b ≠ F ∧ H b = none) H' F rs → Strm H' l ls (N + 250) → But l ls H H' → Q (.ref t) H'
abbrev NSl : List Str := ["stream", "primes", "most", "unknowns", "prime", "found", "name", "row", "unknown"]
theorem scSharesL : FnScope NSl ["stream", "primes", "most"] (defScope sSharesL) := ⟨rfl, rfl, rfl, by decide +kernel, rfl, by decide +kernel, by decide +kernel⟩
section
variable {P : Program} {w : World} {K : PySem.W.Frag} {mg : Str → Option Value} {base : Heap} {f fD fP fN fM : Addr} {fd fdD fdP fdN fdM : FuncData}
theorem ok_sharesL (F : Fun K "_law_s_shares" "_law_s_shares" sSharesL f fd) (gD : mg "_law_draw" = some (.ref fD)) (kD : PySem.W.keepIn K (.ref fD) = true) (GD : FnOk P w K mg base CX0 1 fD fdD ["stream", "many"] spDraw) (bD : Binds K fdD ["stream", "many"] [])
    (gP : mg "_law_pick" = some (.ref fP)) (kP : PySem.W.keepIn K (.ref fP) = true) (GP : FnOk P w K mg base CX0 2 fP fdP ["stream", "some"] (spPick K)) (bP : Binds K fdP ["stream", "some"] [])
    (gN : mg "_law_names" = some (.ref fN)) (kN : PySem.W.keepIn K (.ref fN) = true) (GN : FnOk P w K mg base CX0 4 fN fdN ["stream", "many"] spNames) (bN : Binds K fdN ["stream", "many"] [])
    (gM : mg "_law_mixed" = some (.ref fM)) (kM : PySem.W.keepIn K (.ref fM) = true) (GM : FnOk P w K mg base CX0 2 fM fdM ["stream", "some"] (spMixed K)) (bM : Binds K fdM ["stream", "some"] []) : FnOk P w K mg base CX0 5 f fd ["stream", "primes", "most"] spSharesL := by
  refine F.ok scSharesL (fun vs H Q E h => by obtain ⟨l, ls, ml, N, e, _⟩ := h; rw [e]; rfl) fun cdv A outer s H vs Q E hr hsp => ?_
  obtain ⟨l, ls, ml, N, rfl, S, hN, ml1, ml2, oml, hq⟩ := hsp
  have nd := scSharesL.nd
  have hu := hu_of (hr.mono (show 1 ≤ 4 by decide))
  refine ⟨_, pss_cons (ps_set (i := 3) nd rfl (Or.inl rfl) (pe_call GN (hr.mono (by decide)) rfl gN kN bN .nil pass0 (pa_cons (pv 0) (pa_cons (pe_op op_add pe_int (pe_call GD (hr.mono (by decide)) rfl gD kD bD .nil pass0 (pa_cons (pv 0) (pa_cons (pv 2) pa_nil)))) pa_nil))))
    (pss_cons (ps_par (i := 4) (j := 5) rfl nd rfl rfl (by decide) rfl rfl (pa_cons (pe_call GP (hr.mono (by decide)) rfl gP kP bP .nil pass0 (pa_cons (pv 0) (pa_cons (pv 1) pa_nil))) (pa_cons pe_dnewK pa_nil)) rfl)
    (pss_cons (ps_for PassesOwn.never rfl (pi_list (pe_call GN (hr.mono (by decide)) rfl gN kN bN .nil pass0 (pa_cons (pv 0) (pa_cons (pe_op op_add pe_int (pe_call GD (hr.mono (by decide)) rfl gD kD bD .nil pass0 (pa_cons (pv 0) (pa_cons pe_int pa_nil)))) pa_nil)))) (pg_name (i := 6) nd rfl (Or.inl rfl))
      (pss_cons (ps_set (i := 7) nd rfl (Or.inl rfl) pe_dnewK)
      (pss_cons (ps_for PassesOwn.never rfl (pi_list (pe_call GM (hr.mono (by decide)) rfl gM kM bM .nil pass0 (pa_cons (pv 0) (pa_cons (pv 3) pa_nil)))) (pg_name (i := 8) nd rfl (Or.inl rfl))
        (pss_one (ps_if (pt_cmpR op_gt (pe_call GD (hr.mono (by decide)) rfl gD kD bD .nil pass0 (pa_cons (pv 0) (pa_cons pe_int pa_nil))) pe_int (nomark _)) (pss_one (ps_dput hu (pv 7) (pv 8) (pe_op op_sub (pe_call GD (hr.mono (by decide)) rfl gD kD bD .nil pass0 (pa_cons (pv 0) (pa_cons (pe_op op_mul pe_int (pv 4)) pa_nil))) (pe_op op_mul pe_int (pv 4))) rfl)) pss_nil)))
      (pss_one (ps_dput hu (pv 5) (pv 6) (pv 7) rfl)))))
    (pss_one (ps_ret (pe_tup (pa_cons (pv 4) (pa_cons (pv 3) (pa_cons (pv 5) pa_nil)))))))), ?_⟩
  refine ⟨_, rfl, _, rfl, _, rfl, l, ls, 4, N, rfl, S, by omega, by decide, by decide, fun H1 r r0 r1 S1 B1 => ⟨1, r, rfl, rfl, l, ls, _, _, rfl, S1, by omega, by omega, by omega, fun H2 u us lus und uok nu ou S2 B2 => ?_⟩⟩
  have au := S1.apart (Same.refl _) nu
  have nu0 := B1.free au nu
  have B02 : But l ls H H2 := B1.trans B2
  have oml2 := B02 _ _ ml1 ml2 oml
  refine ⟨_, rfl, _, rfl, l, ls, ml, _, _, rfl, S2, by omega, ml1, ml2, oml2, by show 0 < 6; decide, by show 6 < 1000; decide, fun H3 v hv S3 B3 => ?_⟩
  obtain ⟨p, rfl⟩ : ∃ p, v = V.int p := by
    simp only [List.mem_cons, List.not_mem_nil, or_false] at hv
    rcases hv with h | h | h | h | h | h
    · exact ⟨_, h⟩
    · exact ⟨_, h⟩
    · exact ⟨_, h⟩
    · exact ⟨_, h⟩
    · exact ⟨_, h⟩
    · exact ⟨_, h⟩
  obtain ⟨pp, p11⟩ := prime_of hv
  have pl := pp.lo
  have ph := pp.hi
  have B03 : But l ls H H3 := B02.trans B3
  have ou3 := B3 _ _ au.1 au.2 ou
  intro F nF
  have aF := S3.apart (Same.refl _) nF
  have nF0 := B03.free aF nF
  have kF := same_new (o := .dK []) nF
  have oF : upd H3 F (.dK []) F = some (.dK []) := upd_same
  have ou4 := kF _ _ ou3
  have S4 := S3.same kF
  have B04 : But l ls H (upd H3 F (.dK [])) := B03.trans (.of kF)
  generalize upd H3 F (.dK []) = H4 at kF oF ou4 S4 B04 ⊢
  refine ⟨_, _, rfl, ?_⟩
  refine ⟨_, rfl, _, rfl, l, ls, 4, _, rfl, S4, by omega, by decide, by decide, fun H5 r' r0' r1' S5 B5 => ⟨2, r', rfl, rfl, l, ls, _, _, rfl, S5, by omega, by omega, by omega, fun H6 q2 nms lnm nnd nok nq2 oq2 S6 B6 => ?_⟩⟩
  have aq := S5.apart (Same.refl _) nq2
  have B46 : But l ls H4 H6 := B5.trans B6
  have B06 := B04.trans B46
  have oF6 := B46 _ _ aF.1 aF.2 oF
  have ou6 := B46 _ _ au.1 au.2 ou4
  have uF : u ≠ F := fun z => by rw [z, oF6] at ou6; cases ou6
  have qF : q2 ≠ F := fun z => by rw [z, oF6] at oq2; cases oq2
  have lus4 : us.length ≤ 4 := by omega
  refine ⟨q2, rfl, ⟨_, SqL.of oq2⟩, for_list (xs := nms.map V.str) (fun i σ H' => Strm H' l ls (N + 110 + 25 * i) ∧ BG F l ls H6 H' ∧ (∃ es rs, H' F = some (.dK es) ∧ rs.map (·.1) = nms.take i ∧ Paired (RowA (fun b => b ≠ l ∧ b ≠ ls ∧ b ≠ F ∧ H b = none) H') es rs ∧ ∀ q ∈ rs, (q.2.map (·.1)).Nodup ∧ ∀ e ∈ q.2, e.1 ∈ us) ∧
      ∃ s6 s7 s8, σ = [some (.ref l), some (.ref ml), some (.int 4), some (.ref u), some (.int p), some (.ref F), s6, s7, s8])
    ⟨S6.mono (by omega), fun _ _ _ _ _ e => e, ⟨[], [], oF6, by simp, .nil, fun q hq => by cases hq⟩, _, _, _, rfl⟩ (fun i σ H' _ h => SqL.of (h.2.1 _ _ aq.1 aq.2 qF oq2)) ?_ ?_⟩
  · rintro i yv σ H7 ey ⟨S7, K7, ⟨es, rs, oF7, eq7, pr7, ok7⟩, s6, s7, s8, rfl⟩
    rw [List.getElem?_map] at ey
    obtain ⟨nm, en, rfl⟩ := Option.map_eq_some_iff.mp ey
    have li : i < nms.length := (List.getElem?_eq_some_iff.mp en).1
    have ou7 := K7 _ _ au.1 au.2 uF ou6
    intro R nR
    have aR := S7.apart (Same.refl _) nR
    have RF : R ≠ F := fun z => by rw [z, oF7] at nR; cases nR
    have nR0 : H R = none := B06.free aR (K7.free aR.1 aR.2 RF nR)
    have kR := same_new (o := .dK []) nR
    have oR : upd H7 R (.dK []) R = some (.dK []) := upd_same
    have S8 := S7.same kR
    have ou8 := kR _ _ ou7
    have oF8 := kR _ _ oF7
    have pr8 : Paired (RowA (fun b => b ≠ l ∧ b ≠ ls ∧ b ≠ F ∧ H b = none) (upd H7 R (.dK []))) es rs := Paired.mapP pr7 fun e q h => h.kp fun b o a x => ⟨a, kR b o x⟩
    have rout : ∀ (e : Key × V) (q : RowT), RowA (fun b => b ≠ l ∧ b ≠ ls ∧ b ≠ F ∧ H b = none) H7 e q → RowA (fun b => (b ≠ l ∧ b ≠ ls ∧ b ≠ F ∧ H b = none) ∧ b ≠ R) (upd H7 R (.dK [])) e q := fun e q h => h.kp fun b o a x => ⟨⟨a, fun z => by rw [z, nR] at x; cases x⟩, kR b o x⟩
    have pr8' := Paired.mapP pr7 rout
    have K8 := K7.but (.of kR)
    generalize upd H7 R (.dK []) = H8 at kR oR S8 ou8 oF8 pr8' K8 ⊢
    refine ⟨_, rfl, _, rfl, l, ls, u, us.map V.str, _, rfl, S8, by omega, SqL.of ou8, by rw [List.length_map]; omega, fun H9 m ys pm nm9 om S9 B9 => ?_⟩
    rw [List.length_map] at S9
    have am := S8.apart (Same.refl _) nm9
    obtain ⟨zs, rfl, znd, zsub⟩ := some_strs (ys := ys) (zs := []) (by simpa using pm) und
    have lz : zs.length = us.length := by
      have z := pm.length_eq
      rw [List.length_map, List.length_map] at z
      exact z
    have mR : m ≠ R := fun z => by rw [z, oR] at nm9; cases nm9
    have oR9 := B9 _ _ aR.1 aR.2 oR
    have oF9 := B9 _ _ aF.1 aF.2 oF8
    refine ⟨m, rfl, ⟨_, SqL.of om⟩, for_list (xs := zs.map V.str) (fun j σ H' => Strm H' l ls (N + 110 + 25 * i + 4 + 3 * j) ∧ BG R l ls H9 H' ∧ (∃ kvs, H' R = some (.dK (dkS kvs)) ∧ (kvs.map (·.1)).Nodup ∧ ∀ e ∈ kvs, e.1 ∈ zs.take j) ∧
        ∃ s8, σ = [some (.ref l), some (.ref ml), some (.int 4), some (.ref u), some (.int p), some (.ref F), some (.str nm), some (.ref R), s8])
      ⟨S9.mono (by omega), fun _ _ _ _ _ e => e, ⟨[], oR9, .nil, fun e he => (by cases he)⟩, _, rfl⟩ (fun j σ H' _ h => SqL.of (h.2.1 _ _ am.1 am.2 mR om)) ?_ ?_⟩
    · rintro j yv σ H10 ey ⟨S10, K10, ⟨kvs, oR10, knd, ksub⟩, s8, rfl⟩
      rw [List.getElem?_map] at ey
      obtain ⟨x, ex, rfl⟩ := Option.map_eq_some_iff.mp ey
      have lj : j < zs.length := (List.getElem?_eq_some_iff.mp ex).1
      have et : zs.take (j + 1) = zs.take j ++ [x] := by rw [List.take_succ, ex]; rfl
      refine ⟨_, rfl, l, ls, 3, _, rfl, S10, by omega, by decide, by decide, fun H11 t t0 t1 S11 B11 => ?_⟩
      have oR11 := B11 _ _ aR.1 aR.2 oR10
      refine ⟨_, _, rfl, rfl, _, rfl, ?_⟩
      by_cases hp : 0 < t
      · rw [decide_eq_true hp]
        refine iteT ?_
        refine ⟨_, rfl, _, rfl, _, _, rfl, rfl, .inl ⟨by decide, by decide⟩, l, ls, _, _, rfl, S11, by omega, by omega, by omega, fun H12 z z0 z1 S12 B12 => ?_⟩
        have oR12 := B12 _ _ aR.1 aR.2 oR11
        refine ⟨_, rfl, _, _, rfl, rfl, .inl ⟨by decide, by decide⟩, _, _, rfl, rfl, ?_⟩
        have lk : kvs.length ≤ 1000 := by
          have sub : ∀ y ∈ kvs.map (·.1), y ∈ zs := fun y hy => by
            obtain ⟨e, he, rfl⟩ := List.mem_map.mp hy
            exact List.mem_of_mem_take (ksub e he)
          have le := List.Nodup.length_le_of_subset knd (fun y hy => sub y hy)
          rw [List.length_map] at le
          omega
        have xout : x ∉ kvs.map (·.1) := fun hx => by
          obtain ⟨e, he, e1⟩ := List.mem_map.mp hx
          have z := ksub e he
          rw [e1] at z
          have z2 : (zs.take j ++ [x]).Nodup := by rw [← et]; exact znd.sublist (List.take_sublist _ _)
          rw [List.nodup_append] at z2
          exact z2.2.2 x z x (by simp) rfl
        refine ⟨_, rfl, _, rfl, R, _, rfl, DPut.k (k := Sum.inr x) oR12 (by rw [sizeLine_eq]; unfold dkS; rw [List.length_map]; omega), ?_⟩
        rw [set_dkS]
        refine ⟨(strm_upd S12 aR).mono (by omega), ((K10.but B11).but B12).upd, ⟨_, upd_same, setZ_keys knd, ?_⟩, _, rfl⟩
        refine setZ_sub (fun e he => ?_) (by rw [et]; simp)
        rw [et]
        exact List.mem_append_left _ (ksub e he)
      · rw [decide_eq_false hp]
        refine iteF ⟨S11.mono (by omega), K10.but B11, ⟨kvs, oR11, knd, fun e he => by rw [et]; exact List.mem_append_left _ (ksub e he)⟩, _, rfl⟩
    · rintro σ H10 ⟨S10, K10, ⟨kvs, oR10, knd, ksub⟩, s8, rfl⟩
      rw [List.length_map] at S10 ksub
      have FR : F ≠ R := Ne.symm RF
      have oF10 := K10 _ _ aF.1 aF.2 FR oF9
      have les : es.length = i := by
        have z1 := Paired.length pr7
        have z2 := congrArg List.length eq7
        rw [List.length_map, List.length_take] at z2
        omega
      have kes := keys_pr (F := RowA (fun b => b ≠ l ∧ b ≠ ls ∧ b ≠ F ∧ H b = none) H7) (fun _ _ h => h.1) pr7
      have et : nms.take (i + 1) = nms.take i ++ [nm] := by rw [List.take_succ, en]; rfl
      have nout : (Sum.inr nm : Key) ∉ es.map (·.1) := fun hx => by
        rw [kes, eq7] at hx
        obtain ⟨y, hy, e1⟩ := List.mem_map.mp hx
        have z2 : (nms.take i ++ [nm]).Nodup := by rw [← et]; exact nnd.sublist (List.take_sublist _ _)
        rw [List.nodup_append] at z2
        exact z2.2.2 y hy nm (by simp) (Sum.inr.inj e1)
      refine ⟨_, rfl, _, rfl, _, rfl, F, _, rfl, DPut.k (k := Sum.inr nm) oF10 (by rw [sizeLine_eq]; omega), ?_⟩
      have upF : ∀ {u : HO} (b : Addr) (o : HO), b ≠ F → H10 b = some o → upd H10 F u b = some o := fun b o h e => by rw [upd_ne h]; exact e
      refine ⟨(strm_upd S10 aF).mono (by omega), fun b o h1 h2 h3 e => ?_, ⟨es ++ [(Sum.inr nm, .ref R)], rs ++ [(nm, kvs)], by rw [upd_same, put_last nout], ?_, ?_, ?_⟩, _, _, _, rfl⟩
      · have e8 := K8 b o h1 h2 h3 e
        have bR : b ≠ R := fun z => by
          have e7 := K7 b o h1 h2 h3 e
          rw [z, nR] at e7
          cases e7
        exact upF _ _ h3 (K10 _ _ h1 h2 bR (B9 _ _ h1 h2 e8))
      · rw [List.map_append, eq7, et]
        rfl
      · refine paired_join (Paired.mapP pr8' fun e q h => h.kp fun b o a x => ⟨a.1, upF _ _ a.1.2.2.1 (K10 _ _ a.1.1 a.1.2.1 a.2 (B9 _ _ a.1.1 a.1.2.1 x))⟩) ⟨rfl, R, rfl, ⟨aR.1, aR.2, RF, nR0⟩, upF _ _ RF oR10⟩
      · intro q hq
        rcases List.mem_append.mp hq with hq | hq
        · exact ok7 q hq
        · obtain rfl : q = (nm, kvs) := by simpa using hq
          exact ⟨knd, fun e he => zsub _ (List.mem_of_mem_take (ksub e he))⟩
  · rintro σ H7 ⟨S7, K7, ⟨es, rs, oF7, eq7, pr7, ok7⟩, s6, s7, s8, rfl⟩
    rw [List.length_map, List.take_length] at eq7
    rw [List.length_map] at S7
    have lr : rs.length = nms.length := by
      have z := congrArg List.length eq7
      rw [List.length_map] at z
      exact z
    refine ⟨_, rfl, _, rfl, _, rfl, (by show 3 ≤ sizeLine; decide), fun t nt => ?_⟩
    have kt := same_new (o := .tup [.int p, .ref u, .ref F]) nt
    refine hq _ t u F p us rs ⟨pp, p11, und, by omega, uok, by rw [eq7]; exact nnd, by omega, fun q hq => nok _ (by rw [← eq7]; exact List.mem_map_of_mem hq), ok7⟩ upd_same nu0 au.1 au.2 (kt _ _ (K7 _ _ au.1 au.2 uF ou6)) nF0 aF.1 aF.2 ⟨es, kt _ _ oF7, Paired.mapP pr7 fun e q h => h.kp fun b o a x => ⟨a, kt _ _ x⟩⟩ ((S7.same kt).mono (by omega)) ?_
    intro b o h1 h2 e
    have bF : b ≠ F := fun z => by rw [z, nF0] at e; cases e
    exact kt _ _ (K7 _ _ h1 h2 bF (B06 _ _ h1 h2 e))
end
end L2.TB
/-! _law_s_shares_told -/
namespace L2.TB
open PySem PySem.Spec PyProof.Rows
theorem alk_pairs {H : Hp} {a b : Addr} {ts ts' : List Addr} {kvs : List (Str × Int)} (ha : H a = some (.lst (ts.map V.ref))) (hb : H b = some (.lst (ts'.map V.ref))) (sh : kvs.length < 1000)
    (p1 : Paired (fun (t : Addr) (q : Key × V) => H t = some (.tup [kV q.1, q.2])) ts (dkS kvs)) (p2 : Paired (fun (t : Addr) (q : Key × V) => H t = some (.tup [kV q.1, q.2])) ts' (dkS kvs)) : AlkF H 2 (.ref a) (.ref b) := by
  have l0 : (dkS kvs).length = kvs.length := by unfold dkS; rw [List.length_map]
  have l1 := Paired.length p1
  have l2 := Paired.length p2
  refine .lst ha hb (by rw [List.length_map, List.length_map]; omega) (by rw [List.length_map]; omega) fun i x y e1 e2 => ?_
  rw [List.getElem?_map] at e1 e2
  obtain ⟨t, et, rfl⟩ := Option.map_eq_some_iff.mp e1
  obtain ⟨t', et', rfl⟩ := Option.map_eq_some_iff.mp e2
  obtain ⟨q, eq, o1⟩ := paired_get p1 et
  obtain ⟨q', eq', o2⟩ := paired_get p2 et'
  rw [eq] at eq'
  obtain rfl := Option.some.inj eq'
  unfold dkS at eq
  rw [List.getElem?_map] at eq
  obtain ⟨e, _, rfl⟩ := Option.map_eq_some_iff.mp eq
  exact alk_pair o1 o2 (.one (.str _)) (.one (.int _))
abbrev getM (p : Int) (row : List (Str × Int)) (n : Str) : Int := getZ row n % p
def dueF (p : Int) (row : List (Str × Int)) (n : Str) : Option (Key × V) := if getM p row n = 0 then none else some (Sum.inr n, .int (getM p row n))
theorem due_rowM (p : Int) (row : List (Str × Int)) : ∀ us : List Str, us.filterMap (dueF p row) = dkS (rowM p us row)
  | [] => rfl
  | u :: us => by
    have ih := due_rowM p row us
    have e : rowM p (u :: us) row = (if getM p row u = 0 then rowM p us row else (u, getM p row u) :: rowM p us row) := by
      show List.filter _ ((u, getM p row u) :: us.zip (vecM p us row)) = _
      by_cases h : getM p row u = 0
      · rw [if_pos h, List.filter_cons_of_neg (by simp [h])]
        rfl
      · rw [if_neg h, List.filter_cons_of_pos (by simp [h])]
        rfl
    rw [e]
    by_cases h : getM p row u = 0
    · rw [if_pos h, List.filterMap_cons_none (by unfold dueF; rw [if_pos h]), ih]
    · rw [if_neg h, List.filterMap_cons_some (b := (Sum.inr u, .int (getM p row u))) (by unfold dueF; rw [if_neg h]), ih]
      rfl
theorem val_getZ {row : List (Str × Int)} {n : Str} (h : getZ row n ≠ 0) : valV (dkS row) (Sum.inr n) = some (.int (getZ row n)) := by
  have e := val_dkS row n
  cases q : valV (dkS row) (Sum.inr n) with
  | none =>
    rw [q] at e
    exact absurd (V.int.inj e).symm h
  | some v =>
    rw [q] at e
    rw [show v = .int (getZ row n) from e]
def spShTold (C : Addr) : Sp := fun vs H Q _ => ∃ (x F u : Addr) (p : Int) (us : List Str) (rs : List RowT), vs = [.ref x, .ref F, .ref u] ∧ ShA (fun b => b ≠ F) H C x p us rs ∧ RowsAt (fun b => b ≠ F) H F rs ∧ H u = some (.lst (us.map V.str)) ∧ 0 < p ∧ us.Nodup ∧ us.length < 1000 ∧ (rs.map (·.1)).Nodup ∧ rs.length < 1000 ∧ (∀ q ∈ rs, q.2.length < 1000) ∧ ∀ H', Same H H' → Q (.bl true) H'
abbrev NSt : List Str := ["field", "rows", "unknowns", "side", "name", "due", "told", "x"]
theorem scShTold : FnScope NSt ["field", "rows", "unknowns"] (defScope sShTold) := ⟨rfl, rfl, rfl, by decide +kernel, rfl, by decide +kernel, by decide +kernel⟩
abbrev modR : R2 := rI (fun _ j => 0 < j) fun i j => .int (i % j)
section
variable {P : Program} {w : World} {K : PySem.W.Frag} {mg : Str → Option Value} {base : Heap} {f fQ fU fR fS C : Addr} {fd fdQ fdU fdR fdS : FuncData}
theorem ok_shTold (F : Fun K "_law_s_shares_told" "_law_s_shares_told" sShTold f fd) (S : ShC K C) (FQ : Fun K "questions" "Shares.questions" sSQs fQ fdQ) (mQ : Meth K C "questions" fQ) (FU : Fun K "unknowns" "Shares.unknowns" sSUnk fU fdU) (mU : Meth K C "unknowns" fU)
    (FR : Fun K "row" "Shares.row" sSRow fR fdR) (mR : Meth K C "row" fR) (GR : FnOk P w K mg base CX0 3 fR fdR ["self", "name"] (spShRow C)) (FS : Fun K "_law_same" "_law_same" sSame fS fdS) (gS : mg "_law_same" = some (.ref fS)) (M : Sm mg) (nL : mg "list" = none) : FnOk P w K mg base CX0 4 f fd ["field", "rows", "unknowns"] (spShTold C) := by
  have GQ : FnOk P w K mg base CX0 1 fQ fdQ ["self"] (spShQs C) := ok_shQs FQ S nL
  have bQ := FQ.binds (ps := ["self"]) fun _ _ _ _ _ _ us hl => match us, hl with | [_], _ => rfl
  have GU : FnOk P w K mg base CX0 1 fU fdU ["self"] (spShUnk C) := ok_shUnk FU S nL
  have bU := FU.binds (ps := ["self"]) fun _ _ _ _ _ _ us hl => match us, hl with | [_], _ => rfl
  have bR := FR.binds (ps := ["self", "name"]) fun _ _ _ _ _ _ us hl => match us, hl with | [_, _], _ => rfl
  have GS : FnOk P w K mg base CX0 3 fS fdS ["found", "due"] (spSameF 2) := ok_sameF FS gS M 2
  have bS := FS.binds (ps := ["found", "due"]) fun _ _ _ _ _ _ us hl => match us, hl with | [_, _], _ => rfl
  refine F.ok scShTold (fun vs H Q E h => by obtain ⟨x, F, u, p, us, rs, e, _⟩ := h; rw [e]; rfl) fun cdv A outer s H vs Q E hr hsp => ?_
  obtain ⟨x, F, u, p, us, rs, rfl, hx, hF, ou, p0, und, ul, qnd, ql, rl, hq⟩ := hsp
  have nd := scShTold.nd
  have hu := hu_of (hr.mono (show 1 ≤ 3 by decide))
  refine ⟨_, pss_cons (ps_for PassesOwn.never rfl (pi_seq (pe_tup (pa_cons pe_int (pa_cons pe_int pa_nil)))) (pg_name (i := 3) nd rfl (Or.inl rfl))
      (pss_cons (ps_if (pt_not (pt_val (pe_call GS hr rfl gS FS.kp bS .nil pass0 (pa_cons (pe_lst (pa_cons (pe_meth0 (pv 0) S.cl mQ GQ (hr.mono (by decide)) bQ .nil pass0) (pa_cons (pe_meth0 (pv 0) S.cl mU GU (hr.mono (by decide)) bU .nil pass0) pa_nil))) (pa_cons (pe_lst (pa_cons (pe_callTy (call_listD rfl) rfl nL boot_list' (pa_cons (pv 1) pa_nil)) (pa_cons (pv 2) pa_nil))) pa_nil))))) (pss_one ps_never) pss_nil)
      (pss_cons (ps_expr (pe_bm PySem.F.plainAttrs_list PySem.F.slot_list_append PySem.F.type_list_append mt_append (pe_meth0 (pv 0) S.cl mQ GQ (hr.mono (by decide)) bQ .nil pass0) (pa_cons pe_str pa_nil)))
      (pss_cons (ps_expr (pe_bm PySem.F.plainAttrs_list PySem.F.slot_list_append PySem.F.type_list_append mt_append (pe_meth0 (pv 0) S.cl mU GU (hr.mono (by decide)) bU .nil pass0) (pa_cons pe_str pa_nil)))
      (pss_one (ps_lock (ps_for PassesOwn.never rfl (pi_keys (pv 1)) (pg_name (i := 4) nd rfl (Or.inr rfl))
        (pss_cons (ps_setLc (i := 5) (own := [("x", 7)]) (g := gName 7) (tt := tTest (tOp rNe (tOp modR (tDGet2 (tDGet (tVar 1) (tVar 4)) (tVar 7) (tC (.int 0))) (tFld K (tVar 0) "prime")) (tC (.int 0)))) (te := tTup (tCons (tVar 7) (tCons (tOp modR (tDGet (tDGet (tVar 1) (tVar 4)) (tVar 7)) (tFld K (tVar 0) "prime")) tNil))) rfl nd rfl rfl (sw_true rfl rfl rfl (by decide +kernel)) (pi_list (pv 2)) (blkOk_by (N := NSt) (sc := defScope sShTold) (by decide +kernel))
            (fun _ _ _ _ _ => pg_name (i := 7) nd rfl (Or.inl rfl)) (fun _ _ _ _ _ => pts_one (pt_cmpR op_ne (pe_op op_mod (pe_dget2 hu (pe_dget hu (pv 1) (pv 4) (fun _ _ => rfl)) (pv 7) pe_int ⟨rfl, rfl, rfl, rfl⟩) (pe_fld (pv 0) rfl)) pe_int (nomark _)))
            (fun _ _ _ _ _ => pe_tup (pa_cons (pv 7) (pa_cons (pe_op op_mod (pe_dget hu (pe_dget hu (pv 1) (pv 4) (fun _ _ => rfl)) (pv 7) (fun _ _ => rfl)) (pe_fld (pv 0) rfl)) pa_nil))))
        (pss_cons (ps_set (i := 6) nd rfl (Or.inl rfl) (pe_meth (pv 0) S.cl mR GR hr bR .nil pass0 (pa_cons (pv 4) pa_nil)))
        (pss_cons (ps_if (pt_not (pt_val (pe_call GS hr rfl gS FS.kp bS .nil pass0 (pa_cons (LiI.pe_listItems rfl (pv 6) rfl nL boot_list') (pa_cons (pv 5) pa_nil))))) (pss_one ps_never) pss_nil)
        (pss_one (ps_dput hu (pv 6) pe_str pe_int rfl))))))))))))
    (pss_one (ps_ret pe_bl)), ?_⟩
  obtain ⟨es, oF, prF⟩ := hF
  have ndes := nd_pr (F := RowA (fun b => b ≠ F) H) (fun _ _ h => h.1) prF qnd
  have les : es.length = rs.length := Paired.length prF
  have ekv : (es.map fun kv => kV kv.1) = (rs.map (·.1)).map V.str := by
    have z2 := congrArg (List.map kV) (keys_pr (F := RowA (fun b => b ≠ F) H) (fun _ _ h => h.1) prF)
    rw [List.map_map, List.map_map] at z2
    exact z2
  obtain ⟨dx, _, _, _, hx0, _⟩ := id hx.ex
  have xF : x ≠ F := fun z => by rw [z, oF] at hx0; cases hx0
  have uF : u ≠ F := fun z => by rw [z, oF] at ou; cases ou
  have at_ : ∀ {H' : Hp}, Same H H' → ShAt H' C x p us rs := fun s => hx.kp (fun o e => s _ _ e) fun b o _ e => ⟨trivial, s _ _ e⟩
  refine ⟨(by show 2 ≤ sizeLine; decide), fun T0 nT0 => ?_⟩
  have kT0 := same_new (o := .tup [.int 0, .int 1]) nT0
  have oT0 : upd H T0 (.tup [.int 0, .int 1]) T0 = some (.tup [.int 0, .int 1]) := upd_same
  generalize upd H T0 (.tup [.int 0, .int 1]) = H1 at kT0 oT0
  have hx0 := kT0 _ _ hx0
  have oF := kT0 _ _ oF
  have ou := kT0 _ _ ou
  have prF : Paired (RowA (fun b => b ≠ F) H1) es rs := Paired.mapP prF fun e q h => h.kp fun b o a e => ⟨a, kT0 _ _ e⟩
  have hx : ShA (fun b => b ≠ F) H1 C x p us rs := hx.kp (fun o e => kT0 _ _ e) fun b o a e => ⟨a, kT0 _ _ e⟩
  have at_ : ∀ {H' : Hp}, Same H1 H' → ShAt H' C x p us rs := fun s => at_ (kT0.trans s)
  refine for_seq (.inr rfl) (fun i σ H' => Same H1 H' ∧ ∃ s3 s4 s5 s6 s7, σ = [some (.ref x), some (.ref F), some (.ref u), s3, s4, s5, s6, s7]) ⟨Same.refl _, _, _, _, _, _, rfl⟩ (fun i σ H' _ h => h.1 _ _ oT0) ?_ ?_
  · rintro i y σ H2 ey ⟨k2, s3, s4, s5, s6, s7, rfl⟩
    have k02 := k2
    refine ⟨_, rfl, x, dx, _, rfl, k02 _ _ hx0, rfl, x, p, us, rs, rfl, at_ k02, fun H3 a na oa k3 => ?_⟩
    have k03 := k02.trans k3
    refine ⟨_, rfl, x, dx, _, rfl, k03 _ _ hx0, rfl, x, p, us, rs, rfl, at_ k03, fun H4 b nb ob k4 => ?_⟩
    refine ⟨(by show 2 ≤ sizeLine; decide), fun A1 nA => ?_⟩
    have kA := same_new (o := .lst [.ref a, .ref b]) nA
    have oA : upd H4 A1 (.lst [.ref a, .ref b]) A1 = some (.lst [.ref a, .ref b]) := upd_same
    have oa5 := kA _ _ (k4 _ _ oa)
    have ob5 := kA _ _ ob
    have k05 := (k03.trans k4).trans kA
    generalize upd H4 A1 (.lst [.ref a, .ref b]) = H5 at kA oA oa5 ob5 k05 ⊢
    refine ⟨_, rfl, F, es, rfl, .inl (k05 _ _ oF), fun L nL1 => ?_⟩
    rw [ekv]
    have kL := same_new (o := .lst ((rs.map (·.1)).map V.str)) nL1
    have oL : upd H5 L (.lst ((rs.map (·.1)).map V.str)) L = some (.lst ((rs.map (·.1)).map V.str)) := upd_same
    have oA6 := kL _ _ oA
    have oa6 := kL _ _ oa5
    have ob6 := kL _ _ ob5
    have k06 := k05.trans kL
    generalize upd H5 L (.lst ((rs.map (·.1)).map V.str)) = H6 at kL oL oA6 oa6 ob6 k06 ⊢
    refine ⟨_, rfl, (by show 2 ≤ sizeLine; decide), fun B1 nB => ?_⟩
    have kB := same_new (o := .lst [.ref L, .ref u]) nB
    have k07 := k06.trans kB
    refine ⟨_, _, rfl, alk_two (kB _ _ oA6) upd_same (alk_strs (kB _ _ oa6) (kB _ _ oL) (by rw [List.length_map]; exact ql)) (alk_strs (kB _ _ ob6) (k07 _ _ ou) ul), fun H8 k8 => ⟨_, rfl, iteF ?_⟩⟩
    have k08 := k07.trans k8
    clear k07 k06 kB nB
    -- the lists that are told are new ones
    refine ⟨_, rfl, x, dx, _, rfl, k08 _ _ hx0, rfl, x, p, us, rs, rfl, at_ k08, fun H9 q nq oq k9 => ⟨.inl ⟨rfl, _, SqL.of oq⟩, q, _, _, rfl, rfl, oq, by rw [sizeLine_eq, List.length_map, List.length_map]; omega, ?_⟩⟩
    have k010 : Same H1 (upd H9 q (.lst ((rs.map (·.1)).map V.str ++ [.str "more"]))) := fun b o e => by
      rw [upd_ne (ne_of_none (k08 _ _ e) nq)]
      exact k9 _ _ (k08 _ _ e)
    generalize upd H9 q (.lst ((rs.map (·.1)).map V.str ++ [.str "more"])) = H10 at k010 ⊢
    refine ⟨_, rfl, x, dx, _, rfl, k010 _ _ hx0, rfl, x, p, us, rs, rfl, at_ k010, fun H11 q' nq' oq' k11 => ⟨.inl ⟨rfl, _, SqL.of oq'⟩, q', _, _, rfl, rfl, oq', by rw [sizeLine_eq, List.length_map]; omega, ?_⟩⟩
    have k012 : Same H1 (upd H11 q' (.lst (us.map V.str ++ [.str "more"]))) := fun b o e => by
      rw [upd_ne (ne_of_none (k010 _ _ e) nq')]
      exact k11 _ _ (k010 _ _ e)
    generalize upd H11 q' (.lst (us.map V.str ++ [.str "more"])) = H12 at k012 ⊢
    -- row by row
    have oF12 := k012 _ _ oF
    refine ⟨F, _, oF12, trivial, fun od => ⟨_, rfl, F, od, rfl, .inl ⟨es, upd_same, for_it walk_keys (fun i σ H' => Same (upd H12 F (.frz od (.dK es))) H' ∧ ∃ s3 s4 s5 s6 s7, σ = [some (.ref x), some (.ref F), some (.ref u), s3, s4, s5, s6, s7]) ⟨Same.refl _, _, _, _, _, _, rfl⟩ (fun i σ H' _ h => h.1 _ _ upd_same) ?_ ?_⟩⟩⟩
    · rintro j yk σ H13 H14 lj ⟨k13, s3, s4, s5, s6, s7, rfl⟩ ⟨rfl, k0, v0, ekv0, rfl⟩
      have upL : ∀ b o, b ≠ F → H1 b = some o → H14 b = some o := fun b o nb e => k13 _ _ (by rw [upd_ne nb]; exact k012 _ _ e)
      obtain ⟨q, eq, hk, d, hv, dF, od0⟩ := paired_get prF ekv0
      have hk : k0 = Sum.inr q.1 := hk
      have hv : v0 = .ref d := hv
      subst hk hv
      have od0 : H1 d = some (.dK (dkS q.2)) := od0
      have qin : (q.1, q.2) ∈ rs := List.mem_of_getElem? eq
      have ou14 := upL _ _ uF ou
      have hx14 := upL _ _ xF hx0
      have od14 := upL _ _ dF od0
      have oF14 := k13 _ _ upd_same
      have dg : ∀ {H' : Hp}, Same H14 H' → DGet H' F (.str q.1) (some (.ref d)) := fun s => .inl ⟨es, Sum.inr q.1, .inr ⟨od, s _ _ oF14⟩, rfl, (valV_atN ndes ekv0).symm⟩
      refine ⟨_, rfl, u, rfl, ⟨_, SqL.of ou14⟩, opt_lc us (dueF p q.2) ul (fun i H' s lt => ⟨us.map V.str, _, SqL.of (s _ _ ou14), List.getElem?_eq_getElem (by rw [List.length_map]; exact lt)⟩) (fun H' s => ⟨us.map V.str, SqL.of (s _ _ ou14), by rw [List.length_map]; exact Nat.le_refl _⟩) ?_ ?_⟩
      · rintro i v n H5 H6 Cn Nn en s5 ⟨rfl, ev⟩ yes no
        have ev := ev _ (SqL.of (s5 _ _ ou14))
        rw [List.getElem?_map, en] at ev
        obtain rfl : V.str n = v := Option.some.inj ev
        refine ⟨rfl, ?_⟩
        refine ⟨_, rfl, _, rfl, F, _, rfl, dg s5, d, rfl, .inl ⟨_, .inl (s5 _ _ od14)⟩, _, rfl, _, .inl ⟨_, Sum.inr n, .inl (s5 _ _ od14), rfl, rfl⟩, ?_⟩
        rw [val_dkS]
        refine ⟨_, rfl, x, C, dx, _, _, rfl, s5 _ _ hx14, S.cl, S.nP, rfl, _, _, rfl, rfl, p0, rfl, ?_⟩
        by_cases h : getM p q.2 n = 0
        · exact ⟨false, congrArg V.bl (show (!decide (V.int (getM p q.2 n) = V.int 0)) = false by rw [h]; simp), iteF (no (by unfold dueF; rw [if_pos h]) H6 (Same.refl _))⟩
        · refine ⟨true, congrArg V.bl (show (!decide (V.int (getM p q.2 n) = V.int 0)) = true by simp [h]), iteT ?_⟩
          have g0 : getZ q.2 n ≠ 0 := fun z => h (by show getZ q.2 n % p = 0; rw [z]; simp)
          refine ⟨_, rfl, _, rfl, _, rfl, F, _, rfl, dg s5, _, rfl, d, _, rfl, .inl ⟨_, Sum.inr n, .inl (s5 _ _ od14), rfl, (val_getZ g0).symm⟩, _, rfl, x, C, dx, _, _, rfl, s5 _ _ hx14, S.cl, S.nP, rfl, _, _, rfl, rfl, p0, (by show 2 ≤ sizeLine; decide), fun t nt => ?_⟩
          exact yes (Sum.inr n) _ (by unfold dueF; rw [if_neg h]) t _ upd_same (same_new nt)
      · intro H15 L2 ts nL2 oL2 prL k15
        rw [due_rowM] at prL
        have up15 : ∀ b o, b ≠ F → H1 b = some o → H15 b = some o := fun b o nb e => k15 _ _ (upL b o nb e)
        have at15 : ShAt H15 C x p us rs := hx.kp (fun o e => up15 _ _ xF e) fun b o a e => ⟨trivial, up15 _ _ a e⟩
        refine ⟨_, rfl, x, dx, _, rfl, up15 _ _ xF hx0, rfl, _, rfl, x, p, us, rs, q.1, q.2, rfl, at15, qnd, und, ul, qin, fun H16 d' nd' k16 od' => ?_⟩
        refine ⟨_, rfl, d', _, rfl, od', fun H17 L3 ts3 k17 nL3 nts3 _ oL3 pr3 => ?_⟩
        have k17 : Same H16 H17 := k17
        have k1517 := k16.trans k17
        have lrow : (rowM p us q.2).length < 1000 := by
          have z := List.length_filter_le (fun e : Str × Int => decide (e.2 ≠ 0)) (us.zip (vecM p us q.2))
          rw [List.length_zip] at z
          show (List.filter _ _).length < _
          omega
        refine ⟨_, rfl, _, _, rfl, alk_pairs oL3 (k1517 _ _ oL2) lrow pr3 (Paired.mapP prL fun t e h => k1517 _ _ h), fun H18 k18 => ⟨_, rfl, iteF ?_⟩⟩
        have od18 := (k17.trans k18) _ _ od'
        have lrow2 : (dkS (rowM p us q.2)).length < sizeLine := by
          unfold dkS
          rw [sizeLine_eq, List.length_map]
          omega
        refine ⟨_, rfl, d', _, rfl, DPut.k (k := Sum.inr "more") od18 lrow2, fun b o e => ?_, _, _, _, _, _, rfl⟩
        have e15 := k15 _ _ (k13 _ _ e)
        rw [upd_ne (ne_of_none e15 nd')]
        exact (k1517.trans k18) _ _ e15
    · rintro σ H13 ⟨k13, s3, s4, s5, s6, s7, rfl⟩
      obtain ⟨b1, k14⟩ := lock_offN oF12 k13
      exact ⟨b1, k012.trans k14, _, _, _, _, _, rfl⟩
  · rintro σ H2 ⟨k2, s3, s4, s5, s6, s7, rfl⟩
    exact hq _ (kT0.trans k2)
end
end L2.TB
/-! shares: others and the same; how they are made -/
namespace L2.TB
open PySem PySem.Spec PyProof.Rows
theorem op_either {X : Cx} {o : Value → Value → Sem Value} {r1 r2 : R2} (h1 : OpR X o r1) (h2 : OpR X o r2) : OpR X o (fun x y H Q => r1 x y H Q ∨ r2 x y H Q) := by
  intro pins s σ H x y v u Q I rx ry h
  rcases h with h | h
  · exact h1 pins s σ H x y v u Q I rx ry h
  · exact h2 pins s σ H x y v u Q I rx ry h
theorem getZ_putQ_ne {n m : Str} {z : Int} (h : n ≠ m) : ∀ kvs : List (Str × Int), getZ (putQ kvs m z) n = getZ kvs n
  | [] => rfl
  | e :: kvs => by
    show getZ ((if e.1 = m then (e.1, z) else e) :: putQ kvs m z) n = _
    by_cases c : e.1 = m
    · rw [if_pos c, getZ_cons, getZ_cons, if_neg (fun x => h (x.symm.trans c)), if_neg (fun x => h (x.symm.trans c)), getZ_putQ_ne h kvs]
    · rw [if_neg c, getZ_cons, getZ_cons, getZ_putQ_ne h kvs]
theorem getZ_app_ne {n m : Str} {z : Int} (h : n ≠ m) : ∀ kvs : List (Str × Int), getZ (kvs ++ [(m, z)]) n = getZ kvs n
  | [] => by
    show getZ [(m, z)] n = 0
    rw [getZ_cons, if_neg (fun x => h x.symm)]
    rfl
  | e :: kvs => by
    show getZ (e :: (kvs ++ [(m, z)])) n = _
    rw [getZ_cons, getZ_cons, getZ_app_ne h kvs]
theorem getZ_set_ne {n m : Str} {z : Int} (h : n ≠ m) (kvs : List (Str × Int)) : getZ (setZ kvs m z) n = getZ kvs n := by
  unfold setZ
  by_cases c : m ∈ kvs.map (·.1)
  · rw [if_pos c, getZ_putQ_ne h]
  · rw [if_neg c, getZ_app_ne h]
theorem vecM_at (p : Int) (us : List Str) (row : List (Str × Int)) : vecM p us row = us.map fun n => getZ row n % p := by
  unfold vecM vecZ
  rw [List.map_map]
  rfl
theorem vecM_near (p : Int) (us : List Str) (row : List (Str × Int)) (x : Str) : vecM p us (setZ row x (getZ row x + p)) = vecM p us row := by
  rw [vecM_at, vecM_at]
  refine List.map_congr_left fun n _ => ?_
  by_cases h : n = x
  · subst h
    rw [getZ_set, Int.add_emod_right]
  · rw [getZ_set_ne h]
theorem vecM_far {p : Int} {us : List Str} {x : Str} (hp : 2 ≤ p) (hx : x ∈ us) (row : List (Str × Int)) : vecM p us row ≠ vecM p us (setZ row x (getZ row x + 1)) := by
  intro e
  obtain ⟨j, ej⟩ := List.getElem?_of_mem hx
  have z : (vecM p us row)[j]? = (vecM p us (setZ row x (getZ row x + 1)))[j]? := congrArg (fun l => l[j]?) e
  rw [vecM_at, vecM_at, List.getElem?_map, List.getElem?_map, ej] at z
  have z : getZ row x % p = getZ (setZ row x (getZ row x + 1)) x % p := Option.some.inj z
  rw [getZ_set] at z
  have a := Int.emod_nonneg (getZ row x) (show p ≠ 0 by omega)
  have b := Int.emod_lt_of_pos (getZ row x) (show 0 < p by omega)
  have c := Int.emod_nonneg (getZ row x + 1) (show p ≠ 0 by omega)
  have d := Int.emod_lt_of_pos (getZ row x + 1) (show 0 < p by omega)
  have e1 := Int.mul_ediv_add_emod (getZ row x) p
  have e2 := Int.mul_ediv_add_emod (getZ row x + 1) p
  rw [← z] at e2
  have e3 : p * ((getZ row x + 1) / p) - p * (getZ row x / p) = 1 := by omega
  rw [← Int.mul_sub] at e3
  have e4 := congrArg (· % p) e3
  simp only [Int.mul_emod_right] at e4
  rw [Int.emod_eq_of_lt (by decide) (by omega)] at e4
  cases e4
theorem vecs_put {p : Int} {us : List Str} {rs : List RowT} {n : Str} {row row' : List (Str × Int)} (nd : (rs.map (·.1)).Nodup) (hin : (n, row) ∈ rs) (e : vecM p us row' = vecM p us row) : vecsD p us (putQ rs n row') = vecsD p us rs := by
  unfold vecsD putQ
  rw [List.map_map]
  refine List.map_congr_left fun q hq => ?_
  show ((if q.1 = n then (q.1, row') else q).1, vecM p us (if q.1 = n then (q.1, row') else q).2) = _
  by_cases c : q.1 = n
  · rw [if_pos c]
    have : q.2 = row := by
      obtain ⟨i, hi⟩ := List.getElem?_of_mem hq
      obtain ⟨j, hj⟩ := List.getElem?_of_mem hin
      have e1 : (rs.map (·.1))[i]? = some n := by rw [List.getElem?_map, hi, ← c]; rfl
      have e2 : (rs.map (·.1))[j]? = some n := by rw [List.getElem?_map, hj]; rfl
      have := (List.getElem?_inj (List.getElem?_eq_some_iff.mp e1).1 nd).mp (e1.trans e2.symm)
      subst this
      rw [hi] at hj
      rw [Option.some.inj hj]
    show (q.1, vecM p us row') = (q.1, vecM p us q.2)
    rw [e, this]
  · rw [if_neg c]
theorem vecs_other {p : Int} {us : List Str} {rs : List RowT} {n : Str} {row row' : List (Str × Int)} (hin : (n, row) ∈ rs) (ne : vecM p us row ≠ vecM p us row') : vecsD p us rs ≠ vecsD p us (putQ rs n row') := by
  intro e
  obtain ⟨j, ej⟩ := List.getElem?_of_mem hin
  have z := congrArg (fun l => l[j]?) e
  unfold vecsD putQ at z
  simp only [List.getElem?_map, ej, Option.map_some] at z
  have z := Option.some.inj z
  rw [if_pos True.intro] at z
  exact ne (congrArg (fun q : Str × List Int => q.2) z)
theorem vecs_rev {p : Int} {us : List Str} {rs : List RowT} (nd : (rs.map (·.1)).Nodup) (h : 2 ≤ rs.length) : vecsD p us rs ≠ vecsD p us rs.reverse := by
  intro e
  have z := congrArg (List.map (·.1)) e
  unfold vecsD at z
  rw [List.map_map, List.map_map, List.map_reverse] at z
  exact rev_ne nd (by rw [List.length_map]; exact h) z
theorem ShR.g {p : Int} {us : List Str} {rs : List RowT} (h : ShR p us rs) : ShG p us rs :=
  ⟨h.pr, h.und, by have := h.ul; omega, fun x hx => (h.un x hx).1, h.qnd, by have := h.ql; omega, fun q hq => (h.qn q hq).1, fun q hq => ⟨(h.s q hq).1, (h.s q hq).2, by have := sub_len (h.s q hq).1 (h.s q hq).2; have := h.ul; omega⟩⟩
theorem ShG.put {p : Int} {us : List Str} {rs : List RowT} {n : Str} {row : List (Str × Int)} (g : ShG p us rs) (h : (row.map (·.1)).Nodup ∧ (∀ e ∈ row, e.1 ∈ us) ∧ row.length < 1000) : ShG p us (putQ rs n row) := by
  refine ⟨g.pr, g.und, g.ul, g.un, by rw [putQ_keys]; exact g.qnd, by unfold putQ; rw [List.length_map]; exact g.ql, fun q hq => ?_, fun q hq => ?_⟩
  · have : q.1 ∈ rs.map (·.1) := by rw [← putQ_keys rs n row]; exact List.mem_map_of_mem hq
    obtain ⟨q0, h0, e⟩ := List.mem_map.mp this
    rw [← e]
    exact g.qn q0 h0
  · rcases putQ_mem hq with h1 | ⟨h1, _⟩
    · exact g.s q h1
    · rw [h1]
      exact h
theorem ShG.rev {p : Int} {us : List Str} {rs : List RowT} (g : ShG p us rs) : ShG p us rs.reverse :=
  ⟨g.pr, g.und, g.ul, g.un, by rw [List.map_reverse]; exact (List.reverse_perm _).nodup_iff.mpr g.qnd, by rw [List.length_reverse]; exact g.ql, fun q hq => g.qn q (List.mem_reverse.mp hq), fun q hq => g.s q (List.mem_reverse.mp hq)⟩
theorem ShG.more {p : Int} {us : List Str} {rs : List RowT} (g : ShG p us rs) (ul : us.length ≤ 4) {x : Str} (hx : x ∉ us) (nx : NmOk x) : ShG p (us ++ [x]) rs := by
  refine ⟨g.pr, ?_, ?_, ?_, g.qnd, g.ql, g.qn, fun q hq => ?_⟩
  · rw [List.nodup_append]
    exact ⟨g.und, by simp, fun a ha b hb => by
      obtain rfl : b = x := by simpa using hb
      exact fun z => hx (z ▸ ha)⟩
  · rw [List.length_append]
    show 0 < _ + 1 ∧ _ + 1 < 1000
    omega
  · intro y hy
    rcases List.mem_append.mp hy with h | h
    · exact g.un y h
    · obtain rfl : y = x := by simpa using h
      exact nx
  · obtain ⟨a, b, c⟩ := g.s q hq
    exact ⟨a, fun e he => List.mem_append_left _ (b e he), c⟩
theorem ShG.eleven {p : Int} {us : List Str} {rs : List RowT} (g : ShG p us rs) : ShG 11 us rs := by
  refine ⟨⟨by decide, by decide, fun d d2 dn e => ?_⟩, g.und, g.ul, g.un, g.qnd, g.ql, g.qn, g.s⟩
  have c : d = 2 ∨ d = 3 ∨ d = 4 ∨ d = 5 ∨ d = 6 ∨ d = 7 ∨ d = 8 ∨ d = 9 ∨ d = 10 := by omega
  rcases c with rfl | rfl | rfl | rfl | rfl | rfl | rfl | rfl | rfl <;> exact absurd e (by decide)
theorem put_row {A : Addr → Prop} {H : Hp} {es : List (Key × V)} {rs : List RowT} {n : Str} {d : Addr} {row : List (Str × Int)} (h : Paired (RowA A H) es rs) (hn : n ∈ rs.map (·.1)) (a : A d) (o : H d = some (.dK (dkS row))) : Paired (RowA A H) (putK es (Sum.inr n) (.ref d)) (putQ rs n row) := by
  rw [put_has (by rw [keys_pr (F := RowA A H) (fun _ _ h => h.1) h]; exact List.mem_map_of_mem hn)]
  clear hn
  unfold putQ
  induction h with
  | nil => exact .nil
  | @cons e q es qs h _ ih =>
    rw [List.map_cons, List.map_cons]
    refine .cons ?_ ih
    have e1 : e.1 = Sum.inr q.1 := h.1
    by_cases c : q.1 = n
    · rw [if_pos c, if_pos (by rw [e1, c])]
      exact ⟨e1, d, rfl, a, o⟩
    · rw [if_neg c, if_neg (by rw [e1]; exact fun z => c (Sum.inr.inj z))]
      exact h
theorem made_sh {K : PySem.W.Frag} {C c g : Addr} {p : Int} {us : List Str} {rs : List RowT} {es : List (Key × V)} {H : Hp} {E : XK} {Q : Addr → Hp → Prop} (hc : SqA K H c (us.map V.str)) (hg : H g = some (.dK es)) (hp : Paired (RowA (fun _ => True) H) es rs) (ok : ShG p us rs)
    (fin : ∀ H' x, H x = none → ShA (fun b => H b = none) H' C x p us rs → Same H H' → Q x H') :
    ∀ x dx, H x = none → H dx = none → dx ≠ x → spShInit K C (.ref x :: ([.int p, .ref c, .ref g] ++ [])) (upd (upd H dx (.own x)) x (.ins C dx [])) (fun v H2 => v = .non ∧ Q x H2) E := by
  intro x dx nx ndx nex
  have kx : Same H (upd (upd H dx (.own x)) x (.ins C dx [])) := fun b o e => by rw [upd_ne (ne_of_none e nx), upd_ne (ne_of_none e ndx)]; exact e
  refine ⟨x, dx, c, g, p, us, rs, es, rfl, upd_same, hc.same kx, kx _ _ hg, Paired.mapP hp fun e q h => h.kp fun b o a e => ⟨a, kx _ _ e⟩, ok, fun H2 T fr => ⟨rfl, fin H2 x nx (T.kp (fun o e => e) fun b o a e => ⟨kx.free a, e⟩) fun b o e => fr b o (ne_of_none e nx) (kx _ _ e)⟩⟩
theorem made_su {K : PySem.W.Frag} {C c g : Addr} {us : List Str} {qs : List (Str × SideT)} {es : List (Key × V)} {H : Hp} {E : XK} {Q : Addr → Hp → Prop} (hc : SqA K H c (us.map V.str)) (hg : H g = some (.dK es)) (hp : Paired (HandE K H) es qs) (ok : SumsG us qs)
    (fin : ∀ H' x, H x = none → SumA (fun b => H b = none) H' C x us qs → Same H H' → Q x H') :
    ∀ x dx, H x = none → H dx = none → dx ≠ x → spSInit K C (.ref x :: ([.ref c, .ref g] ++ [])) (upd (upd H dx (.own x)) x (.ins C dx [])) (fun v H2 => v = .non ∧ Q x H2) E := by
  intro x dx nx ndx nex
  have kx : Same H (upd (upd H dx (.own x)) x (.ins C dx [])) := fun b o e => by rw [upd_ne (ne_of_none e nx), upd_ne (ne_of_none e ndx)]; exact e
  refine ⟨x, dx, c, g, us, qs, es, rfl, upd_same, hc.same kx, kx _ _ hg, Paired.mapP hp fun e q h => ?_, ok.ul.1, ok.ul.2, ok.und, ok.un, ok.ql.1, ok.ql.2, ok.qnd, ok.qn, ok.s, fun H2 T fr => ⟨rfl, fin H2 x nx (T.keep (fun b o e a => kx.free a) (fun o e => e) fun b o a e => e) fun b o e => fr b o (ne_of_none e nx) (kx _ _ e)⟩⟩
  obtain ⟨h1, p, d, h2, h3, h4⟩ := h
  exact ⟨h1, p, d, h2, h3.same kx, kx _ _ h4⟩
/-- an own class with an own == -/
structure OwnE (P : Program) (w : World) (K : PySem.W.Frag) (mg : Str → Option Value) (base : Heap) (C fI : Addr) (x : Str) (spE : Sp) : Prop where
  IC : C8.InsC K C
  gC : mg x = some (.ref C)
  made : Mk K C fI
  ne : PySem.W.findIn K (.ref C) "__ne__" = some (some (.builtin "object.__ne__"))
  ob : PySem.W.mroIn K C (.type "object") = some true
  eq : ∃ f fd, Meth K C "__eq__" f ∧ Binds K fd ["self", "other"] [] ∧ FnOk P w K mg base CX0 1 f fd ["self", "other"] spE ∧ FnOk P w K mg base CX0 1 f fd ["self", "other"] (spSEqO K C)
  far : ∀ t ∈ ["NoneType", "int", "dict"], PySem.W.notFirst K C (.type t) = true ∧ PySem.W.kitOne K (.type t) (.ref C) = some false
end L2.TB
/-! _law_s_shares_made: its text -/
namespace L2.TB
open PySem PySem.Spec PyProof.Rows
def spShMade : Sp := fun vs H Q _ => ∃ (l ls : Addr) (N : Int), vs = [.ref l] ∧ Strm H l ls N ∧ N ≤ 700000 ∧ ∀ H', Strm H' l ls (N + 260) → But l ls H H' → Q (.bl true) H'
abbrev NMa : List Str := ["stream", "prime", "unknowns", "rows", "given", "names", "field", "name", "unknown", "near", "far", "more", "less", "others", "other"]
theorem scShMade : FnScope NMa ["stream"] (defScope sShMade) := ⟨rfl, rfl, rfl, by decide +kernel, rfl, by decide +kernel, by decide +kernel⟩
abbrev rDD : List V → Hp → VK → Prop := fun xs H Q => ∃ (a : Addr) (kvs : List (Key × V)), xs = [.ref a] ∧ Rd H a (.dK kvs) ∧ ∀ p, H p = none → Q (.ref p) (upd H p (.dK kvs))
def rEqB (K : PySem.W.Frag) (C : Addr) : R2 := fun x y H Q => rEqI C (spShEq C) E0 id x y H Q ∨ rEqO K C (spSEqO K C) E0 x y H Q
/-- the drawn shares and the field that is made of them -/
structure MSt (C l ls u F x : Addr) (p : Int) (us : List Str) (rs : List RowT) (N : Int) (H : Hp) : Prop where
  S : Strm H l ls N
  hu : H u = some (.lst (us.map V.str)) ∧ u ≠ l ∧ u ≠ ls
  hF : RowsAt (fun b => b ≠ l ∧ b ≠ ls ∧ b ≠ F) H F rs ∧ F ≠ l ∧ F ≠ ls
  hx : ShA (fun b => b ≠ l ∧ b ≠ ls ∧ b ≠ F) H C x p us rs ∧ x ≠ l ∧ x ≠ ls
  ok : ShR p us rs
theorem MSt.but {C l ls u F x : Addr} {p : Int} {us : List Str} {rs : List RowT} {N N' : Int} {H H' : Hp} (h : MSt C l ls u F x p us rs N H) (B : But l ls H H') (S : Strm H' l ls N') : MSt C l ls u F x p us rs N' H' :=
  ⟨S, ⟨B _ _ h.hu.2.1 h.hu.2.2 h.hu.1, h.hu.2⟩, ⟨h.hF.1.kp (fun o e => B _ _ h.hF.2.1 h.hF.2.2 e) fun b o a e => ⟨a, B _ _ a.1 a.2.1 e⟩, h.hF.2⟩, ⟨h.hx.1.kp (fun o e => B _ _ h.hx.2.1 h.hx.2.2 e) fun b o a e => ⟨a, B _ _ a.1 a.2.1 e⟩, h.hx.2⟩, h.ok⟩
theorem MSt.same {C l ls u F x : Addr} {p : Int} {us : List Str} {rs : List RowT} {N : Int} {H H' : Hp} (h : MSt C l ls u F x p us rs N H) (s : Same H H') : MSt C l ls u F x p us rs N H' := h.but (.of s) (h.S.same s)
structure MadeL (P : Program) (w : World) (K : PySem.W.Frag) (mg : Str → Option Value) (base : Heap) (C fI : Addr) : Prop where
  S : ShC K C
  O : OwnE P w K mg base C fI "Shares" (spShEq C)
  init : ∃ fd, Binds K fd ["self", "prime", "unknowns", "questions"] [] ∧ FnOk P w K mg base CX0 4 fI fd ["self", "prime", "unknowns", "questions"] (spShInit K C)
  shares : ∃ f fd, mg "_law_s_shares" = some (.ref f) ∧ PySem.W.keepIn K (.ref f) = true ∧ Binds K fd ["stream", "primes", "most"] [] ∧ FnOk P w K mg base CX0 5 f fd ["stream", "primes", "most"] spSharesL
  told : ∃ f fd, mg "_law_s_shares_told" = some (.ref f) ∧ PySem.W.keepIn K (.ref f) = true ∧ Binds K fd ["field", "rows", "unknowns"] [] ∧ FnOk P w K mg base CX0 4 f fd ["field", "rows", "unknowns"] (spShTold C)
  pick : ∃ f fd, mg "_law_pick" = some (.ref f) ∧ PySem.W.keepIn K (.ref f) = true ∧ Binds K fd ["stream", "some"] [] ∧ FnOk P w K mg base CX0 2 f fd ["stream", "some"] (spPick K)
  spare : ∃ f fd, mg "_law_spare" = some (.ref f) ∧ PySem.W.keepIn K (.ref f) = true ∧ Binds K fd ["names"] [] ∧ FnOk P w K mg base CX0 1 f fd ["names"] spSpare
  nD : mg "dict" = none
  nL : mg "list" = none
  nT : mg "tuple" = none
  nY : mg "any" = none
section
variable {P : Program} {w : World} {K : PySem.W.Frag} {mg : Str → Option Value} {base : Heap} {f C fI : Addr} {fd : FuncData}
theorem ok_shMade (F : Fun K "_law_s_shares_made" "_law_s_shares_made" sShMade f fd) (L : MadeL P w K mg base C fI) : FnOk P w K mg base CX0 6 f fd ["stream"] spShMade := by
  obtain ⟨fdI, bI, GI⟩ := L.init
  obtain ⟨fS, fdS, gS, kS, bS, GS⟩ := L.shares
  obtain ⟨fT, fdT, gT, kT, bT, GT⟩ := L.told
  obtain ⟨fP, fdP, gP, kP, bP, GP⟩ := L.pick
  obtain ⟨fW, fdW, gW, kW, bW, GW⟩ := L.spare
  obtain ⟨fE, fdE, mE, bE, GE, GO⟩ := L.O.eq
  have gC := L.O.gC
  have Mk := L.O.made
  refine F.ok scShMade (fun vs H Q E h => by obtain ⟨l, ls, N, e, _⟩ := h; rw [e]; rfl) fun cdv A outer s H vs Q E hr hsp => ?_
  obtain ⟨l, ls, N, rfl, S, hN, hq⟩ := hsp
  have nd := scShMade.nd
  have hu := hu_of (hr.mono (show 1 ≤ 5 by decide))
  refine ⟨_, pss_cons (ps_asg (pe_call GS (hr.mono (by decide)) rfl gS kS bS .nil pass0 (pa_cons (pv 0) (pa_cons (pe_lst (pa_cons pe_int (pa_cons pe_int (pa_cons pe_int (pa_cons pe_int (pa_cons pe_int (pa_cons pe_int pa_nil))))))) (pa_cons pe_int pa_nil)))) (pg_tup rfl (pgs_cons (pg_name (i := 1) nd rfl (Or.inl rfl)) (pgs_cons (pg_name (i := 2) nd rfl (Or.inl rfl)) (pgs_cons (pg_name (i := 3) nd rfl (Or.inr rfl)) pgs_nil)))))
    (pss_cons (ps_par (i := 4) (j := 5) rfl nd rfl rfl (by decide) rfl rfl (pa_cons (pe_callTy (r := rDk K) (call_dk rfl) rfl L.nD boot_dict' (pa_cons (pe_lock (pe_lc (own := [("name", 7)]) (tt := tYes) (g := gName 7) (te := tTup (tCons (tVar 7) (tCons (tCB rDD (tCons (tDGet (tVar 3) (tVar 7)) tNil)) tNil))) rfl nd (pi_keys (pv 3)) (blkOk_by (N := NMa) (sc := defScope sShMade) (by decide +kernel)) (fun _ _ _ _ _ => pg_name (i := 7) nd rfl (Or.inl rfl)) (fun _ _ _ _ _ => pts_nil)
          (fun _ _ _ _ _ => pe_tup (pa_cons (pv 7) (pa_cons (pe_callTy (r := rDD) call_dictD rfl L.nD boot_dict' (pa_cons (pe_dget hu (pv 3) (pv 7) (fun _ _ => rfl)) pa_nil)) pa_nil))))) pa_nil)) (pa_cons (pe_callTy call_list_of rfl L.nL boot_list' (pa_cons (pv 2) pa_nil)) pa_nil)) rfl)
    (pss_cons (ps_set (i := 6) nd rfl (Or.inr rfl) (pe_make Mk GI (hr.mono (by decide)) rfl gC bI .nil pass0 (pa_cons (pv 1) (pa_cons (pv 5) (pa_cons (pv 4) pa_nil)))))
    (pss_cons (ps_expr (pe_bm PySem.F.plainAttrs_list PySem.F.slot_list_append PySem.F.type_list_append mt_append (pv 5) (pa_cons pe_str pa_nil)))
    (pss_cons (ps_lock (ps_for PassesOwn.never rfl (pi_keys (pv 4)) (pg_name (i := 7) nd rfl (Or.inl rfl)) (pss_one (ps_dput hu (pe_dget hu (pv 4) (pv 7) (fun _ _ => rfl)) pe_str pe_int rfl))))
    (pss_cons (ps_if (PW.pt (pw_or (pt_cmpR op_ne (pe_fld (pv 6) rfl) (pv 1) (nomark _)) (pw_or1 (pt_not (pt_val (pe_call GT (hr.mono (by decide)) rfl gT kT bT .nil pass0 (pa_cons (pv 6) (pa_cons (pv 3) (pa_cons (pv 2) pa_nil))))))))) (pss_one ps_never) pss_nil)
    (pss_cons (ps_par (i := 7) (j := 8) rfl nd rfl rfl (by decide) rfl rfl (pa_cons (pe_call GP (hr.mono (by decide)) rfl gP kP bP .nil pass0 (pa_cons (pv 0) (pa_cons (pe_callTy (call_listD rfl) rfl L.nL boot_list' (pa_cons (pv 3) pa_nil)) pa_nil))) (pa_cons (pe_call GP (hr.mono (by decide)) rfl gP kP bP .nil pass0 (pa_cons (pv 0) (pa_cons (pv 2) pa_nil))) pa_nil)) rfl)
    (pss_cons (ps_par (i := 9) (j := 10) rfl nd rfl rfl (by decide) rfl rfl (pa_cons (pe_callTy (r := rDD) call_dictD rfl L.nD boot_dict' (pa_cons (pv 3) pa_nil)) (pa_cons (pe_callTy (r := rDD) call_dictD rfl L.nD boot_dict' (pa_cons (pv 3) pa_nil)) pa_nil)) rfl)
    (pss_cons (ps_par (i := 11) (j := 12) rfl nd rfl rfl (by decide) rfl rfl (pa_cons (pe_callTy (r := rDD) call_dictD rfl L.nD boot_dict' (pa_cons (pe_dget hu (pv 3) (pv 7) (fun _ _ => rfl)) pa_nil)) (pa_cons (pe_callTy (r := rDD) call_dictD rfl L.nD boot_dict' (pa_cons (pe_dget hu (pv 3) (pv 7) (fun _ _ => rfl)) pa_nil)) pa_nil)) rfl)
    (pss_cons (ps_dput hu (pv 11) (pv 8) (pe_op op_add (pe_dget2 hu (pe_dget hu (pv 3) (pv 7) (fun _ _ => rfl)) (pv 8) pe_int ⟨rfl, rfl, rfl, rfl⟩) (pv 1)) rfl)
    (pss_cons (ps_dput hu (pv 12) (pv 8) (pe_op op_add (pe_dget2 hu (pe_dget hu (pv 3) (pv 7) (fun _ _ => rfl)) (pv 8) pe_int ⟨rfl, rfl, rfl, rfl⟩) pe_int) rfl)
    (pss_cons (ps_dput hu (pv 9) (pv 7) (pv 11) rfl)
    (pss_cons (ps_dput hu (pv 10) (pv 7) (pv 12) rfl)
    (pss_cons (ps_if (PW.pt (pw_or (pt_cmpR (op_neI (E := E0) GE (hr.mono (by decide)) mE L.O.ne L.O.ob bE pass0) (pv 6) (pe_make Mk GI (hr.mono (by decide)) rfl gC bI .nil pass0 (pa_cons (pv 1) (pa_cons (pv 2) (pa_cons (pv 3) pa_nil)))) (nomark _))
        (pw_or1 (pt_cmpR (op_neI (E := E0) GE (hr.mono (by decide)) mE L.O.ne L.O.ob bE pass0) (pv 6) (pe_make Mk GI (hr.mono (by decide)) rfl gC bI .nil pass0 (pa_cons (pv 1) (pa_cons (pe_callTy call_tuple_of rfl L.nT boot_tuple' (pa_cons (pv 2) pa_nil)) (pa_cons (pv 9) pa_nil)))) (nomark _))))) (pss_one ps_never) pss_nil)
    (pss_cons (ps_set (i := 13) nd rfl (Or.inl rfl) (pe_lst (pa_cons (pe_make Mk GI (hr.mono (by decide)) rfl gC bI .nil pass0 (pa_cons (pv 1) (pa_cons (pv 2) (pa_cons (pv 10) pa_nil)))) (pa_cons (pe_make Mk GI (hr.mono (by decide)) rfl gC bI .nil pass0 (pa_cons (pv 1) (pa_cons (pv 2) (pa_cons (pe_callTy (r := rDk K) (call_dk rfl) rfl L.nD boot_dict' (pa_cons (pe_revL (LiI.pe_listItems rfl (pv 3) rfl L.nL boot_list')) pa_nil)) pa_nil)))) pa_nil))))
    (pss_cons (ps_expr (pe_bm PySem.F.plainAttrs_list PySem.F.slot_list_append PySem.F.type_list_append mt_append (pv 13) (pa_cons (pe_make Mk GI (hr.mono (by decide)) rfl gC bI .nil pass0 (pa_cons (pv 1) (pa_cons (pe_op op_cat (pv 2) (pe_lst (pa_cons (pe_call GW (hr.mono (by decide)) rfl gW kW bW .nil pass0 (pa_cons (pv 2) pa_nil)) pa_nil))) (pa_cons (pv 3) pa_nil)))) pa_nil)))
    (pss_cons (ps_expr (pe_bm PySem.F.plainAttrs_list PySem.F.slot_list_append PySem.F.type_list_append mt_append (pv 13) (pa_cons (pe_make Mk GI (hr.mono (by decide)) rfl gC bI .nil pass0 (pa_cons pe_int (pa_cons (pv 2) (pa_cons (pv 3) pa_nil)))) pa_nil)))
    (pss_one (ps_ret (pe_not (pe_callB (cr_any rfl) rfl L.nY boot_anyN (pa_cons (pe_lc (own := [("other", 14)]) (tt := tYes) (g := gName 14) (te := tOp (rEqB K C) (tVar 6) (tVar 14)) rfl nd (pi_list (pe_op op_cat (pv 13) (pe_lst (pa_cons pe_non (pa_cons (pv 3) (pa_cons (pv 1) pa_nil)))))) (blkOk_by (N := NMa) (sc := defScope sShMade) (by decide +kernel)) (fun _ _ _ _ _ => pg_name (i := 14) nd rfl (Or.inl rfl)) (fun _ _ _ _ _ => pts_nil)
        (fun _ _ _ _ _ => pe_cmpR (r := rEqB K C) (op_either (op_eqI (E := E0) GE (hr.mono (by decide)) mE bE pass0) (op_eqO (E := E0) GO (hr.mono (by decide)) mE bE pass0)) (pv 6) (pv 14) (nomark _))) pa_nil))))))))))))))))))))), ?_⟩
  -- the drawn shares
  refine ⟨_, rfl, (by show 6 ≤ sizeLine; decide), fun ml nml => ?_⟩
  have kml := same_new (o := .lst [.int 2, .int 3, .int 5, .int 7, .int 101, .int 997]) nml
  have aml := S.apart (Same.refl _) nml
  refine ⟨l, ls, ml, N, rfl, S.same kml, by omega, aml.1, aml.2, upd_same, fun H1 t u F p us rs ok ot nu u1 u2 ou nF F1 F2 hF S1 B1 => ?_⟩
  have B01 : But l ls H H1 := (But.of kml).trans B1
  refine ⟨t, _, rfl, SqT.of ot, rfl, _, _, rfl, _, _, rfl, _, _, rfl, rfl, ?_⟩
  clear ot
  have hF : RowsAt (fun b => b ≠ l ∧ b ≠ ls ∧ b ≠ F) H1 F rs := hF.kp (fun o e => e) fun b o a e => ⟨⟨a.1, a.2.1, a.2.2.1⟩, e⟩
  obtain ⟨es, oF, pr⟩ := id hF
  have les : es.length = rs.length := Paired.length pr
  have kes := keys_pr (F := RowA (fun b => b ≠ l ∧ b ≠ ls ∧ b ≠ F) H1) (fun _ _ h => h.1) pr
  have ndes := nd_pr (F := RowA (fun b => b ≠ l ∧ b ≠ ls ∧ b ≠ F) H1) (fun _ _ h => h.1) pr ok.qnd
  have esmall : es.length < sizeLine := by have := ok.ql; rw [sizeLine_eq]; omega
  have uF : u ≠ F := fun z => by rw [z, oF] at ou; cases ou
  -- copies of the rows
  refine ⟨F, _, oF, trivial, fun od => ⟨_, rfl, F, od, rfl, .inl ⟨es, upd_same, fun D nD => ?_⟩⟩⟩
  have oL : upd H1 F (.frz od (.dK es)) F = some (.frz od (.dK es)) := upd_same
  have DF : D ≠ F := fun z => by rw [z, upd_same] at nD; cases nD
  have nD1 : H1 D = none := by rw [upd_ne DF] at nD; exact nD
  refine lc_it walk_keys (fun j H' => (∃ (ts : List Addr) (es' : List (Key × V)), H' D = some (.lst (ts.map V.ref)) ∧ Paired (fun (t : Addr) (e : Key × V) => H' t = some (.tup [kV e.1, e.2])) ts es' ∧ Paired (RowA (fun b => H1 b = none ∧ b ≠ D) H') es' (rs.take j)) ∧ Same (upd H1 F (.frz od (.dK es))) H')
    ⟨⟨[], [], upd_same, .nil, by rw [List.take_zero]; exact .nil⟩, same_new nD⟩ (fun j H' _ h => h.2 _ _ oL) ?_ ?_
  · rintro j v H2 H3 lj ⟨⟨ts, es', oD, pt, pe⟩, k2⟩ ⟨rfl, k0, v0, ekv, rfl⟩
    obtain ⟨q, eq, hk, d0, hv, a0, od0⟩ := paired_get pr ekv
    have hk : k0 = Sum.inr q.1 := hk
    have hv : v0 = .ref d0 := hv
    subst hk hv
    have od0 : H1 d0 = some (.dK (dkS q.2)) := od0
    have od3 := k2 _ _ (show upd H1 F (.frz od (.dK es)) d0 = _ by rw [upd_ne a0.2.2]; exact od0)
    refine ⟨rfl, ?_⟩
    refine ⟨_, rfl, _, rfl, _, rfl, F, _, rfl, .inl ⟨es, Sum.inr q.1, .inr ⟨od, k2 _ _ oL⟩, rfl, (valV_atN ndes ekv).symm⟩, d0, _, rfl, .inl od3, fun d nd1 => ?_⟩
    have kd := same_new (o := .dK (dkS q.2)) nd1
    have odd : upd H3 d (.dK (dkS q.2)) d = some (.dK (dkS q.2)) := upd_same
    have nd0 : H1 d = none := by
      have z := k2.free nd1
      have dF : d ≠ F := fun z => by rw [z, k2 _ _ oL] at nd1; cases nd1
      rw [upd_ne dF] at z
      exact z
    have dD : d ≠ D := fun z => by rw [z, oD] at nd1; cases nd1
    refine ⟨(by show 2 ≤ sizeLine; decide), fun t nt => ?_⟩
    have kt := same_new (o := .tup [.str q.1, .ref d]) nt
    have tD : t ≠ D := fun z => by rw [z, kd _ _ oD] at nt; cases nt
    have lts : ts.length = j := by
      have z1 := Paired.length pt
      have z2 := Paired.length pe
      rw [List.length_take] at z2
      have := (List.getElem?_eq_some_iff.mp eq).1
      omega
    have up : ∀ {o' : HO} (b : Addr) (o : HO), b ≠ D → H3 b = some o → upd (upd (upd H3 d (.dK (dkS q.2))) t (.tup [.str q.1, .ref d])) D o' b = some o := fun b o nb e => by rw [upd_ne nb]; exact kt _ _ (kd _ _ e)
    have lj2 : j < rs.length := (List.getElem?_eq_some_iff.mp eq).1
    have l5 := ok.ql
    refine ⟨_, kt _ _ (kd _ _ oD), by rw [sizeLine_eq, List.length_map]; omega, ⟨ts ++ [t], es' ++ [(Sum.inr q.1, .ref d)], by rw [upd_same, List.map_append]; rfl, ?_, ?_⟩, ?_⟩
    · exact paired_join (Paired.mapP pt fun t e h => up _ _ (fun z => by rw [z, oD] at h; cases h) h) (by rw [upd_ne tD, upd_same])
    · exact pair_snoc (Paired.mapP pe fun e q h => h.kp fun b o a e => ⟨a, up _ _ a.2 e⟩) eq ⟨rfl, d, rfl, ⟨nd0, dD⟩, by rw [upd_ne dD]; exact kt _ _ odd⟩
    · exact fun b o e => up b o (ne_of_none e nD) (k2 _ _ e)
  rintro H2 ⟨⟨ts, es', oD, pt, pe⟩, k2⟩
  obtain ⟨b1, k12⟩ := lock_offN oF k2
  refine ⟨b1, ?_⟩
  rw [les, List.take_length] at pe
  have upl : ∀ {b : Addr} {o : HO}, H2 b = some o → (∀ a f, o ≠ .frz a f) → upd H2 F (.dK es) b = some o := fun h n => by
    rw [upd_ne (fun z => by rw [z, b1] at h; exact n _ _ (Option.some.inj h).symm)]
    exact h
  have oD3 := upl oD (fun _ _ z => by cases z)
  have pt3 : Paired (fun (t : Addr) (e : Key × V) => SqT K (upd H2 F (.dK es)) t [kV e.1, e.2]) ts es' := Paired.mapP pt fun t e h => SqT.of (upl h (fun _ _ z => by cases z))
  have pe3 : Paired (RowA (fun b => H1 b = none) (upd H2 F (.dK es))) es' rs := Paired.mapP pe fun e q h => by
    obtain ⟨h1, d, h2, a, o⟩ := h
    exact ⟨h1, d, h2, a.1, upl o (fun _ _ z => by cases z)⟩
  have oF3 : upd H2 F (.dK es) F = some (.dK es) := upd_same
  generalize upd H2 F (.dK es) = H3 at oD3 pt3 pe3 k12 oF3 ⊢
  refine ⟨D, ts, es', rfl, SqL.of oD3, pt3, fun g ng => ?_⟩
  have ndes' := nd_pr (F := RowA (fun b => H1 b = none) H3) (fun _ _ h => h.1) pe3 ok.qnd
  rw [merge_nd ndes']
  -- the dict and the list that are handed over
  have og : upd H3 g (.dK es') g = some (.dK es') := upd_same
  have kg := same_new (o := .dK es') ng
  have pe4 : Paired (RowA (fun b => H1 b = none ∧ ∃ o, H3 b = some o) (upd H3 g (.dK es'))) es' rs := Paired.mapP pe3 fun e q h => h.kp fun b o a e => ⟨⟨a, _, e⟩, kg _ _ e⟩
  have k14 := k12.trans kg
  refine ⟨_, rfl, u, _, rfl, .inl (SqL.of (k14 _ _ ou)), fun n nn => ⟨_, _, rfl, ?_⟩⟩
  have kn := same_new (o := .lst (us.map V.str)) nn
  have on : upd (upd H3 g (.dK es')) n (.lst (us.map V.str)) n = some (.lst (us.map V.str)) := upd_same
  have og5 := kn _ _ og
  have pe5 : Paired (RowA (fun b => H1 b = none ∧ ∃ o, H3 b = some o) (upd (upd H3 g (.dK es')) n (.lst (us.map V.str)))) es' rs := Paired.mapP pe4 fun e q h => h.kp fun b o a e => ⟨a, kn _ _ e⟩
  have k15 := k14.trans kn
  have k35 := kg.trans kn
  have nn1 : H1 n = none := k14.free nn
  have ng1 : H1 g = none := k12.free ng
  generalize upd (upd H3 g (.dK es')) n (.lst (us.map V.str)) = H5 at on og5 pe5 k15 k35 ⊢
  -- the field
  refine ⟨_, rfl, _, rfl, _, rfl, made_sh (.inl on) og5 (Paired.mapP pe5 fun e q h => h.kp fun b o a e => ⟨trivial, e⟩) ok.g fun H6 x nx Tx k6 => ?_⟩
  have on6 := k6 _ _ on
  have og6 := k6 _ _ og5
  have gn : g ≠ n := fun z => by rw [z, on] at og5; cases og5
  refine ⟨_, rfl, .inl ⟨rfl, _, SqL.of on6⟩, n, _, _, rfl, rfl, on6, by rw [sizeLine_eq, List.length_map]; have := ok.ul; omega, ?_⟩
  let DS : Addr → Prop := fun b => ∃ (k : Key), (k, V.ref b) ∈ es'
  have ds3 : ∀ b, DS b → H1 b = none ∧ ∃ o, H3 b = some o := fun b ⟨k, h⟩ => by
    obtain ⟨i, hi⟩ := List.getElem?_of_mem h
    obtain ⟨q, _, _, d, hv, a, _⟩ := paired_get pe5 hi
    obtain rfl := V.ref.inj hv
    exact a
  have dsd : ∀ b, DS b → ∃ kvs, H5 b = some (.dK kvs) ∧ kvs.length ≤ 10 := fun b ⟨k, h⟩ => by
    obtain ⟨i, hi⟩ := List.getElem?_of_mem h
    obtain ⟨q, eq, _, d, hv, a, o⟩ := paired_get pe5 hi
    obtain rfl := V.ref.inj hv
    refine ⟨_, o, ?_⟩
    have := sub_len (ok.s q (List.mem_of_getElem? eq)).1 (ok.s q (List.mem_of_getElem? eq)).2
    have := ok.ul
    unfold dkS
    rw [List.length_map]
    omega
  have dsn : ∀ b, DS b → b ≠ n ∧ b ≠ g := fun b h => by
    obtain ⟨_, o, e⟩ := ds3 b h
    exact ⟨(fun z => by rw [z, kg.free nn] at e; cases e), fun z => by rw [z, ng] at e; cases e⟩
  have og7 : upd H6 n (.lst (us.map V.str ++ [.str "more"])) g = some (.dK es') := by rw [upd_ne gn]; exact og6
  have up7 : ∀ b o, b ≠ n → H6 b = some o → upd H6 n (.lst (us.map V.str ++ [.str "more"])) b = some o := fun b o nb e => by rw [upd_ne nb]; exact e
  generalize upd H6 n (.lst (us.map V.str ++ [.str "more"])) = H7 at og7 up7 ⊢
  refine ⟨g, _, og7, trivial, fun od2 => ⟨_, rfl, g, od2, rfl, .inl ⟨es', upd_same, for_it walk_keys (fun i σ H' => (∀ b o, ¬ DS b → upd H7 g (.frz od2 (.dK es')) b = some o → H' b = some o) ∧ (∀ b, DS b → ∃ kvs, H' b = some (.dK kvs) ∧ kvs.length ≤ 10 + i) ∧ ∃ s7, σ = [some (.ref l), some (.int p), some (.ref u), some (.ref F), some (.ref g), some (.ref n), some (.ref x), s7, none, none, none, none, none, none, none]) ⟨fun b o _ e => e, fun b h => ?_, _, rfl⟩ (fun i σ H' _ h => h.1 _ _ (fun z => (dsn _ z).2 rfl) upd_same) ?_ ?_⟩⟩⟩
  · obtain ⟨kvs, o, lk⟩ := dsd b h
    exact ⟨kvs, by rw [upd_ne (dsn b h).2]; exact up7 _ _ (dsn b h).1 (k6 _ _ o), by omega⟩
  · rintro i y σ H8 H9 lt ⟨K8, D8, s7, rfl⟩ ⟨rfl, k0, v0, ekv, rfl⟩
    obtain ⟨q, eq, hk, d, hv, _, _⟩ := paired_get pe5 ekv
    have hk : k0 = Sum.inr q.1 := hk
    have hv : v0 = .ref d := hv
    subst hk hv
    have dd : DS d := ⟨_, List.mem_of_getElem? ekv⟩
    obtain ⟨kvs, odd, lk⟩ := D8 d dd
    have og8 := K8 _ _ (fun z => (dsn _ z).2 rfl) (show upd H7 g (.frz od2 (.dK es')) g = _ from upd_same)
    have li : i < es'.length := (List.getElem?_eq_some_iff.mp ekv).1
    have l1 := Paired.length pe5
    have l5 := ok.ql
    refine ⟨_, rfl, _, rfl, g, _, rfl, .inl ⟨es', Sum.inr q.1, .inr ⟨od2, og8⟩, rfl, (valV_atN ndes' ekv).symm⟩, d, _, rfl, DPut.k (k := Sum.inr "more") odd (by rw [sizeLine_eq]; omega), fun b o nb e => ?_, fun b h => ?_, _, rfl⟩
    · rw [upd_ne (fun z => nb (by rw [z]; exact dd))]
      exact K8 b o nb e
    · by_cases bd : b = d
      · subst bd
        exact ⟨_, upd_same, by have := length_putK kvs (Sum.inr "more" : Key) (.int 1); omega⟩
      · obtain ⟨kvs2, o2, l2⟩ := D8 b h
        exact ⟨kvs2, by rw [upd_ne bd]; exact o2, by omega⟩
  rintro σ H8 ⟨K8, _, s7, rfl⟩
  have og8 := K8 _ _ (fun z => (dsn _ z).2 rfl) (show upd H7 g (.frz od2 (.dK es')) g = _ from upd_same)
  refine ⟨og8, ?_⟩
  have K9 : ∀ b o, ¬ DS b → b ≠ n → H6 b = some o → upd H8 g (.dK es') b = some o := fun b o nb bn e => by
    by_cases bg : b = g
    · rw [bg, upd_same]
      rw [bg, og6] at e
      exact e
    · rw [upd_ne bg]
      exact K8 b o nb (by rw [upd_ne bg]; exact up7 b o bn e)
  generalize upd H8 g (.dK es') = H9 at K9 ⊢
  have k19 : Same H1 H9 := fun b o e => K9 b o (fun z => by rw [(ds3 b z).1] at e; cases e) (fun z => by rw [z, nn1] at e; cases e) (k6 _ _ (k15 _ _ e))
  have new5 : ∀ b o, H5 b = none → H6 b = some o → H9 b = some o := fun b o n5 e => K9 b o (fun z => by
    obtain ⟨_, o3, e3⟩ := ds3 b z
    rw [k35 _ _ e3] at n5
    cases n5) (fun z => by rw [z, on] at n5; cases n5) e
  have a5 : ∀ b, H5 b = none → b ≠ l ∧ b ≠ ls ∧ b ≠ F := fun b n5 => by
    have z := S1.apart k15 n5
    exact ⟨z.1, z.2, fun z => by rw [z, k15 _ _ oF] at n5; cases n5⟩
  have T0 : MSt C l ls u F x p us rs (N + 250) H9 :=
    ⟨S1.same k19, ⟨k19 _ _ ou, u1, u2⟩, ⟨hF.kp (fun o e => k19 _ _ e) fun b o a e => ⟨a, k19 _ _ e⟩, F1, F2⟩, ⟨Tx.kp (fun o e => new5 _ _ nx e) fun b o a e => ⟨a5 b a, new5 b o a e⟩, (a5 x nx).1, (a5 x nx).2.1⟩, ok⟩
  have B09 : But l ls H H9 := B01.trans (.of k19)
  clear K9 K8 new5 a5 up7 og7 og6 on6 k6 og5 on pe5 pe4 pe3 pt3 k35 k15 k14 k12 k19 Tx nx dsd ds3 dsn
  -- it tells what is due
  obtain ⟨dx, _, _, _, hx9, _⟩ := id T0.hx.1.ex
  refine ⟨_, rfl, x, C, dx, _, _, rfl, hx9, L.S.cl, L.S.nP, rfl, _, rfl, rfl, false, congrArg V.bl (by simp), iteF ?_⟩
  have p2 := ok.pr.lo
  have g0 := ok.g
  refine ⟨_, rfl, _, rfl, _, rfl, x, F, u, p, us, rs, rfl, T0.hx.1.kp (fun o e => e) (fun b o a e => ⟨a.2.2, e⟩), T0.hF.1.kp (fun o e => e) (fun b o a e => ⟨a.2.2, e⟩), T0.hu.1, by omega, ok.und, g0.ul.2, ok.qnd, g0.ql.2, fun q hq => (g0.s q hq).2.2, fun H10 k10 => ⟨_, rfl, iteF ?_⟩⟩
  have T1 := T0.same k10
  have B10 := B09.trans (.of k10)
  clear T0 k10 B09 hx9
  -- a row and an unknown
  obtain ⟨es2, oF10, pr10⟩ := id T1.hF.1
  have les2 : es2.length = rs.length := Paired.length pr10
  have kes2 := keys_pr (F := RowA (fun b => b ≠ l ∧ b ≠ ls ∧ b ≠ F) H10) (fun _ _ h => h.1) pr10
  have ndes2 := nd_pr (F := RowA (fun b => b ≠ l ∧ b ≠ ls ∧ b ≠ F) H10) (fun _ _ h => h.1) pr10 ok.qnd
  have esm2 : es2.length < sizeLine := by have := ok.ql; rw [sizeLine_eq]; omega
  refine ⟨_, rfl, _, rfl, F, es2, rfl, .inl oF10, fun L1 nL1 => ?_⟩
  have kL1 := same_new (o := .lst (es2.map fun kv => kV kv.1)) nL1
  have aL1 := T1.S.apart (Same.refl _) nL1
  refine ⟨l, ls, L1, _, _, rfl, T1.S.same kL1, by omega, aL1.1, aL1.2, upd_same, by rw [List.length_map]; have := ok.ql; omega, by rw [List.length_map]; have := ok.ql; omega, fun H11 v hv S11 B11 => ?_⟩
  have T2 := T1.but ((But.of kL1).trans B11) S11
  have B11' := B10.trans ((But.of kL1).trans B11)
  refine ⟨_, rfl, _, rfl, l, ls, u, _, _, rfl, T2.S, by omega, T2.hu.2.1, T2.hu.2.2, T2.hu.1, by rw [List.length_map]; exact g0.ul.1, by rw [List.length_map]; exact g0.ul.2, fun H12 v2 hv2 S12 B12 => ⟨_, _, rfl, ?_⟩⟩
  have T3 := T2.but B12 S12
  have BP := B11'.trans B12
  obtain ⟨e0, he0, rfl⟩ := List.mem_map.mp hv
  obtain ⟨xu, hxu, rfl⟩ := List.mem_map.mp hv2
  obtain ⟨j, ej⟩ := List.getElem?_of_mem he0
  have Bq : But l ls H10 H12 := ((But.of kL1).trans B11).trans B12
  have oF12 := Bq _ _ F1 F2 oF10
  have pr12 : Paired (RowA (fun b => b ≠ l ∧ b ≠ ls ∧ b ≠ F) H12) es2 rs := Paired.mapP pr10 fun e q h => h.kp fun b o a e => ⟨a, Bq _ _ a.1 a.2.1 e⟩
  clear T1 T2 S11 S12 B11 B12 B10 B11' Bq pr10 oF10 nL1 kL1 aL1 hv hv2
  obtain ⟨q, eq, hk, d0, hv, a0, od0⟩ := paired_get pr12 ej
  obtain ⟨k0, v0⟩ := e0
  have hk : k0 = Sum.inr q.1 := hk
  have hv : v0 = .ref d0 := hv
  subst hk hv
  have od0 : H12 d0 = some (.dK (dkS q.2)) := od0
  have qin : (q.1, q.2) ∈ rs := List.mem_of_getElem? eq
  have nin : q.1 ∈ rs.map (·.1) := List.mem_map_of_mem qin
  have dg : ∀ {H' : Hp}, Same H12 H' → DGet H' F (.str q.1) (some (.ref d0)) := fun s => .inl ⟨es2, Sum.inr q.1, .inl (s _ _ oF12), rfl, (valV_atN ndes2 ej).symm⟩
  have rowl : (dkS q.2).length < sizeLine := by
    have := (g0.s q qin).2.2
    unfold dkS
    rw [sizeLine_eq, List.length_map]
    omega
  -- near, far, more, less
  refine ⟨_, rfl, F, es2, rfl, .inl oF12, fun M1 nM1 => ?_⟩
  have s1 := same_new (o := .dK es2) nM1
  refine ⟨_, rfl, F, es2, rfl, .inl (s1 _ _ oF12), fun M2 nM2 => ⟨_, _, rfl, ?_⟩⟩
  have oM1 : upd H12 M1 (.dK es2) M1 = some (.dK es2) := upd_same
  generalize upd H12 M1 (.dK es2) = G1 at s1 oM1 nM2 ⊢
  have M12 : M1 ≠ M2 := fun z => by rw [← z, oM1] at nM2; cases nM2
  have s2 := s1.trans (same_new (o := .dK es2) nM2)
  have oM2 : upd G1 M2 (.dK es2) M2 = some (.dK es2) := upd_same
  have oM1 : upd G1 M2 (.dK es2) M1 = some (.dK es2) := by rw [upd_ne M12]; exact oM1
  have nM2' : H12 M2 = none := s1.free nM2
  generalize upd G1 M2 (.dK es2) = G2 at s2 oM1 oM2 ⊢
  clear s1
  refine ⟨_, rfl, _, rfl, F, _, rfl, dg s2, d0, _, rfl, .inl (s2 _ _ od0), fun W1 nW1 => ?_⟩
  have s3 := s2.trans (same_new (o := .dK (dkS q.2)) nW1)
  refine ⟨_, rfl, _, rfl, F, _, rfl, dg s3, d0, _, rfl, .inl (s3 _ _ od0), fun W2 nW2 => ⟨_, _, rfl, ?_⟩⟩
  have W12 : W1 ≠ W2 := fun z => by rw [← z, upd_same] at nW2; cases nW2
  have nW1' : H12 W1 = none := s2.free nW1
  have nW2' : H12 W2 = none := s3.free nW2
  have MW : ∀ {M W : Addr} {G : Hp}, G M = some (.dK es2) → G W = none → M ≠ W := fun a b z => by rw [z, b] at a; cases a
  have M1W1 := MW oM1 nW1
  have M2W1 := MW oM2 nW1
  have oM1 : upd G2 W1 (.dK (dkS q.2)) M1 = some (.dK es2) := by rw [upd_ne M1W1]; exact oM1
  have oM2 : upd G2 W1 (.dK (dkS q.2)) M2 = some (.dK es2) := by rw [upd_ne M2W1]; exact oM2
  have oW1 : upd G2 W1 (.dK (dkS q.2)) W1 = some (.dK (dkS q.2)) := upd_same
  generalize upd G2 W1 (.dK (dkS q.2)) = G3 at s3 oM1 oM2 oW1 nW2 ⊢
  clear s2
  have M1W2 := MW oM1 nW2
  have M2W2 := MW oM2 nW2
  have s4 := s3.trans (same_new (o := .dK (dkS q.2)) nW2)
  have oM1 : upd G3 W2 (.dK (dkS q.2)) M1 = some (.dK es2) := by rw [upd_ne M1W2]; exact oM1
  have oM2 : upd G3 W2 (.dK (dkS q.2)) M2 = some (.dK es2) := by rw [upd_ne M2W2]; exact oM2
  have oW1 : upd G3 W2 (.dK (dkS q.2)) W1 = some (.dK (dkS q.2)) := by rw [upd_ne W12]; exact oW1
  have oW2 : upd G3 W2 (.dK (dkS q.2)) W2 = some (.dK (dkS q.2)) := upd_same
  generalize upd G3 W2 (.dK (dkS q.2)) = G4 at s4 oM1 oM2 oW1 oW2 ⊢
  clear s3
  -- more[unknown]
  refine ⟨_, rfl, _, rfl, F, _, rfl, dg s4, d0, rfl, .inl ⟨_, .inl (s4 _ _ od0)⟩, _, rfl, _, .inl ⟨_, Sum.inr xu, .inl (s4 _ _ od0), rfl, rfl⟩, ?_⟩
  rw [val_dkS]
  refine ⟨_, rfl, _, _, rfl, rfl, _, rfl, _, rfl, W1, _, rfl, DPut.k (k := Sum.inr xu) oW1 rowl, ?_⟩
  rw [show ((q.2.find? fun e => decide (e.1 = xu)).map (·.2)).getD 0 = getZ q.2 xu from rfl, set_dkS]
  have sN : ∀ {G : Hp} {b : Addr} {o : HO}, Same H12 G → H12 b = none → Same H12 (upd G b o) := fun s n c u e => by rw [upd_ne (ne_of_none e n)]; exact s _ _ e
  have s5 := sN (o := .dK (dkS (setZ q.2 xu (getZ q.2 xu + p)))) s4 nW1'
  have oM1 : upd G4 W1 (.dK (dkS (setZ q.2 xu (getZ q.2 xu + p)))) M1 = some (.dK es2) := by rw [upd_ne M1W1]; exact oM1
  have oM2 : upd G4 W1 (.dK (dkS (setZ q.2 xu (getZ q.2 xu + p)))) M2 = some (.dK es2) := by rw [upd_ne M2W1]; exact oM2
  have oW1 : upd G4 W1 (.dK (dkS (setZ q.2 xu (getZ q.2 xu + p)))) W1 = some (.dK (dkS (setZ q.2 xu (getZ q.2 xu + p)))) := upd_same
  have oW2 : upd G4 W1 (.dK (dkS (setZ q.2 xu (getZ q.2 xu + p)))) W2 = some (.dK (dkS q.2)) := by rw [upd_ne (Ne.symm W12)]; exact oW2
  generalize upd G4 W1 (.dK (dkS (setZ q.2 xu (getZ q.2 xu + p)))) = G5 at s5 oM1 oM2 oW1 oW2 ⊢
  clear s4
  -- less[unknown]
  refine ⟨_, rfl, _, rfl, F, _, rfl, dg s5, d0, rfl, .inl ⟨_, .inl (s5 _ _ od0)⟩, _, rfl, _, .inl ⟨_, Sum.inr xu, .inl (s5 _ _ od0), rfl, rfl⟩, ?_⟩
  rw [val_dkS]
  refine ⟨_, _, rfl, rfl, _, rfl, _, rfl, W2, _, rfl, DPut.k (k := Sum.inr xu) oW2 rowl, ?_⟩
  rw [show ((q.2.find? fun e => decide (e.1 = xu)).map (·.2)).getD 0 = getZ q.2 xu from rfl, set_dkS]
  have s6 := sN (o := .dK (dkS (setZ q.2 xu (getZ q.2 xu + 1)))) s5 nW2'
  have oM1 : upd G5 W2 (.dK (dkS (setZ q.2 xu (getZ q.2 xu + 1)))) M1 = some (.dK es2) := by rw [upd_ne M1W2]; exact oM1
  have oM2 : upd G5 W2 (.dK (dkS (setZ q.2 xu (getZ q.2 xu + 1)))) M2 = some (.dK es2) := by rw [upd_ne M2W2]; exact oM2
  have oW1 : upd G5 W2 (.dK (dkS (setZ q.2 xu (getZ q.2 xu + 1)))) W1 = some (.dK (dkS (setZ q.2 xu (getZ q.2 xu + p)))) := by rw [upd_ne W12]; exact oW1
  have oW2 : upd G5 W2 (.dK (dkS (setZ q.2 xu (getZ q.2 xu + 1)))) W2 = some (.dK (dkS (setZ q.2 xu (getZ q.2 xu + 1)))) := upd_same
  generalize upd G5 W2 (.dK (dkS (setZ q.2 xu (getZ q.2 xu + 1)))) = G6 at s6 oM1 oM2 oW1 oW2 ⊢
  clear s5
  -- near[name], far[name]
  refine ⟨_, rfl, _, rfl, _, rfl, M1, _, rfl, DPut.k (k := Sum.inr q.1) oM1 esm2, ?_⟩
  have s7 := sN (o := .dK (putK es2 (Sum.inr q.1) (.ref W1))) s6 nM1
  have oM1 : upd G6 M1 (.dK (putK es2 (Sum.inr q.1) (.ref W1))) M1 = some (.dK (putK es2 (Sum.inr q.1) (.ref W1))) := upd_same
  have oM2 : upd G6 M1 (.dK (putK es2 (Sum.inr q.1) (.ref W1))) M2 = some (.dK es2) := by rw [upd_ne (Ne.symm M12)]; exact oM2
  have oW1 : upd G6 M1 (.dK (putK es2 (Sum.inr q.1) (.ref W1))) W1 = some (.dK (dkS (setZ q.2 xu (getZ q.2 xu + p)))) := by rw [upd_ne (Ne.symm M1W1)]; exact oW1
  have oW2 : upd G6 M1 (.dK (putK es2 (Sum.inr q.1) (.ref W1))) W2 = some (.dK (dkS (setZ q.2 xu (getZ q.2 xu + 1)))) := by rw [upd_ne (Ne.symm M1W2)]; exact oW2
  generalize upd G6 M1 (.dK (putK es2 (Sum.inr q.1) (.ref W1))) = G7 at s7 oM1 oM2 oW1 oW2 ⊢
  clear s6
  refine ⟨_, rfl, _, rfl, _, rfl, M2, _, rfl, DPut.k (k := Sum.inr q.1) oM2 esm2, ?_⟩
  have s8 := sN (o := .dK (putK es2 (Sum.inr q.1) (.ref W2))) s7 nM2'
  have oM1 : upd G7 M2 (.dK (putK es2 (Sum.inr q.1) (.ref W2))) M1 = some (.dK (putK es2 (Sum.inr q.1) (.ref W1))) := by rw [upd_ne M12]; exact oM1
  have oM2 : upd G7 M2 (.dK (putK es2 (Sum.inr q.1) (.ref W2))) M2 = some (.dK (putK es2 (Sum.inr q.1) (.ref W2))) := upd_same
  have oW1 : upd G7 M2 (.dK (putK es2 (Sum.inr q.1) (.ref W2))) W1 = some (.dK (dkS (setZ q.2 xu (getZ q.2 xu + p)))) := by rw [upd_ne (Ne.symm M2W1)]; exact oW1
  have oW2 : upd G7 M2 (.dK (putK es2 (Sum.inr q.1) (.ref W2))) W2 = some (.dK (dkS (setZ q.2 xu (getZ q.2 xu + 1)))) := by rw [upd_ne (Ne.symm M2W2)]; exact oW2
  generalize upd G7 M2 (.dK (putK es2 (Sum.inr q.1) (.ref W2))) = G8 at s8 oM1 oM2 oW1 oW2 ⊢
  clear s7
  have T4 := T3.same s8
  have BP8 := BP.trans (.of s8)
  have pr8 : Paired (RowA (fun _ => True) G8) es2 rs := Paired.mapP pr12 fun e q h => h.kp fun b o _ e => ⟨trivial, s8 _ _ e⟩
  have prN := put_row (n := q.1) (d := W1) pr8 nin trivial oW1
  have prR := put_row (n := q.1) (d := W2) pr8 nin trivial oW2
  have oF8 := s8 _ _ oF12
  clear T3 BP s8 pr12 oF12 od0 dg rowl oW1 oW2 sN MW
  have sN1 := (g0.s q qin).1
  have sN2 := (g0.s q qin).2.1
  have sN3 : ∀ z, (setZ q.2 xu z).length < 1000 := fun z => by
    have l1 := sub_len sN1 sN2
    have l2 := setZ_len q.2 xu z
    have l3 := ok.ul
    omega
  have okN : ∀ z, ShG p us (putQ rs q.1 (setZ q.2 xu z)) := fun z => g0.put ⟨setZ_keys sN1, setZ_sub sN2 hxu, sN3 z⟩
  have cmp : ∀ {H' : Hp} {y : Addr} {p' : Int} {us' : List Str} {rs' : List RowT} {R : VK} (gb : Bool → Bool), Same G8 H' → ShAt H' C y p' us' rs' → (∀ H2, Same H' H2 → R (.bl (gb (decide (p = p' ∧ us = us' ∧ vecsD p us rs = vecsD p' us' rs')))) H2) → rEqI C (spShEq C) E0 gb (.ref x) (.ref y) H' R := fun gb sm Ty hR => by
    have T' := T4.same sm
    obtain ⟨dx, _, _, _, hx', _⟩ := id T'.hx.1.ex
    obtain ⟨dy, _, _, _, hy', _⟩ := id Ty.ex
    exact ⟨x, _, dx, dy, _, _, rfl, rfl, hx', hy', x, _, p, _, us, _, rs, _, rfl, T'.hx.1.kp (fun o e => e) (fun b o a e => ⟨trivial, e⟩), Ty, fun H2 k2 => ⟨_, rfl, hR H2 k2⟩⟩
  have tru : ∀ {H' : Hp} {y : Addr} {p' : Int} {us' : List Str} {rs' : List RowT} {B : Addr → Prop}, ShA B H' C y p' us' rs' → ShAt H' C y p' us' rs' := fun h => h.kp (fun o e => e) fun b o _ e => ⟨trivial, e⟩
  -- the same, and the near one
  refine ⟨_, rfl, _, rfl, _, rfl, _, rfl, made_sh (.inl T4.hu.1) oF8 pr8 g0 fun H1 y1 ny1 Ty1 k1 => cmp _ k1 (tru Ty1) fun H2 k2 => ⟨_, rfl, ?_⟩⟩
  rw [decide_eq_true ⟨rfl, rfl, rfl⟩]
  refine iteF ?_
  have k02 := k1.trans k2
  refine ⟨_, rfl, _, rfl, _, rfl, u, _, rfl, .inl ⟨SqL.of (k02 _ _ T4.hu.1), fun tu ntu => ?_⟩⟩
  have ktu := same_new (o := .tup (us.map V.str)) ntu
  have otu : upd H2 tu (.tup (us.map V.str)) tu = some (.tup (us.map V.str)) := upd_same
  have k03 := k02.trans ktu
  generalize upd H2 tu (.tup (us.map V.str)) = H3 at otu k03 ⊢
  refine ⟨_, rfl, made_sh (.inr otu) (k03 _ _ oM1) (Paired.mapP prN fun e q h => h.kp fun b o a e => ⟨a, k03 _ _ e⟩) (okN _) fun H4 y2 ny2 Ty2 k4 => cmp _ (k03.trans k4) (tru Ty2) fun H5 k5 => ⟨_, rfl, ?_⟩⟩
  rw [decide_eq_true ⟨rfl, rfl, (vecs_put ok.qnd qin (vecM_near p us q.2 xu)).symm⟩]
  refine iteF ?_
  have k05 := (k03.trans k4).trans k5
  clear k1 k2 k02 k03 k4 k5 ktu otu ny1 Ty1 ny2 Ty2 ntu
  -- others
  refine ⟨_, rfl, _, rfl, _, rfl, made_sh (.inl (k05 _ _ T4.hu.1)) (k05 _ _ oM2) (Paired.mapP prR fun e q h => h.kp fun b o a e => ⟨a, k05 _ _ e⟩) (okN _) fun H6 y3 ny3 Ty3 k6 => ?_⟩
  have k06 := k05.trans k6
  refine ⟨_, rfl, _, rfl, _, rfl, F, es2, rfl, k06 _ _ oF8, fun H7 L3 ts3 k7 nL3 nts3 _ oL3 pr3 => ⟨L3, _, rfl, SqL.of oL3, fun L4 nL4 => ?_⟩⟩
  have k7 : Same H6 H7 := k7
  rw [← List.map_reverse]
  have kL4 := same_new (o := .lst (ts3.reverse.map V.ref)) nL4
  refine ⟨L4, ts3.reverse, es2.reverse, rfl, SqL.of upd_same, paired_rev (Paired.mapP pr3 fun t e h => SqT.of (kL4 _ _ h)), fun M4 nM4 => ?_⟩
  rw [merge_nd (by rw [List.map_reverse]; exact (List.reverse_perm _).nodup_iff.mpr ndes2)]
  have kM4 := same_new (o := .dK es2.reverse) nM4
  have k08 := ((k06.trans k7).trans kL4).trans kM4
  have k68 := (k7.trans kL4).trans kM4
  have oM4 : upd (upd H7 L4 (.lst (ts3.reverse.map V.ref))) M4 (.dK es2.reverse) M4 = some (.dK es2.reverse) := upd_same
  generalize upd (upd H7 L4 (.lst (ts3.reverse.map V.ref))) M4 (.dK es2.reverse) = H8 at k08 k68 oM4 ⊢
  refine made_sh (.inl (k08 _ _ T4.hu.1)) oM4 (paired_rev (Paired.mapP pr8 fun e q h => h.kp fun b o a e => ⟨a, k08 _ _ e⟩)) g0.rev fun H9 y4 ny4 Ty4 k9 => ?_
  have k09 := k08.trans k9
  have Ty3 : ShAt H9 C y3 p us (putQ rs q.1 (setZ q.2 xu (getZ q.2 xu + 1))) := (tru Ty3).kp (fun o e => k9 _ _ (k68 _ _ e)) fun b o a e => ⟨a, k9 _ _ (k68 _ _ e)⟩
  have Ty4 : ShAt H9 C y4 p us rs.reverse := tru Ty4
  clear k05 k6 k06 k7 kL4 kM4 k08 k68 oM4 k9 nM4 nL4 oL3 pr3 nL3 nts3 ny3 ny4
  refine ⟨(by show 2 ≤ sizeLine; decide), fun o no => ?_⟩
  have oo : upd H9 o (.lst [.ref y3, .ref y4]) o = some (.lst [.ref y3, .ref y4]) := upd_same
  have ko := same_new (o := .lst [.ref y3, .ref y4]) no
  generalize upd H9 o (.lst [.ref y3, .ref y4]) = H10 at oo ko ⊢
  -- with one unknown more
  refine ⟨_, rfl, .inl ⟨rfl, _, SqL.of oo⟩, _, rfl, _, rfl, _, rfl, u, us, rfl, ko _ _ (k09 _ _ T4.hu.1), by have := ok.ul; omega, fun H11 sp k11 spn spo => ⟨(by show 1 ≤ sizeLine; decide), fun a1 na1 => ?_⟩⟩
  have ka1 := same_new (o := .lst [.str sp]) na1
  have oa1 : upd H11 a1 (.lst [.str sp]) a1 = some (.lst [.str sp]) := upd_same
  have kA := (ko.trans k11).trans ka1
  have k1012 := k11.trans ka1
  generalize upd H11 a1 (.lst [.str sp]) = H12' at oa1 kA k1012 ⊢
  refine ⟨u, a1, _, _, rfl, rfl, kA _ _ (k09 _ _ T4.hu.1), oa1, by rw [sizeLine_eq, List.length_map]; have := ok.ul; show _ + 1 ≤ _; omega, fun u' nu' => ?_⟩
  rw [show us.map V.str ++ [V.str sp] = (us ++ [sp]).map V.str by rw [List.map_append]; rfl]
  have ku' := same_new (o := .lst ((us ++ [sp]).map V.str)) nu'
  have ou' : upd H12' u' (.lst ((us ++ [sp]).map V.str)) u' = some (.lst ((us ++ [sp]).map V.str)) := upd_same
  have kB := kA.trans ku'
  have k1013 := k1012.trans ku'
  generalize upd H12' u' (.lst ((us ++ [sp]).map V.str)) = H13 at ou' kB k1013 ⊢
  refine ⟨_, rfl, made_sh (.inl ou') (kB _ _ (k09 _ _ oF8)) (Paired.mapP pr8 fun e q h => h.kp fun b o a e => ⟨a, kB _ _ (k09 _ _ e)⟩) (g0.more ok.ul.2 spn spo.1) fun H14 y5 ny5 Ty5 k14 => ?_⟩
  have oo14 := k14 _ _ (k1013 _ _ oo)
  have no13 : ∀ b, H13 b = none → b ≠ o := fun b n z => by rw [z, k1013 _ _ oo] at n; cases n
  refine ⟨o, _, _, rfl, rfl, oo14, by rw [sizeLine_eq]; show 2 < _; omega, ?_⟩
  have oo15 : upd H14 o (.lst ([.ref y3, .ref y4] ++ [.ref y5])) o = some (.lst [.ref y3, .ref y4, .ref y5]) := upd_same
  have k915 : Same H9 (upd H14 o (.lst ([.ref y3, .ref y4] ++ [.ref y5]))) := fun b u e => by
    rw [upd_ne (ne_of_none e no)]
    exact k14 _ _ (kB _ _ e)
  have Ty5 : ShA (fun b => b ≠ o) (upd H14 o (.lst ([.ref y3, .ref y4] ++ [.ref y5]))) C y5 p (us ++ [sp]) rs := Ty5.kp (fun u e => by rw [upd_ne (no13 _ ny5)]; exact e) fun b u a e => ⟨no13 b a, by rw [upd_ne (no13 b a)]; exact e⟩
  have y5o := no13 _ ny5
  generalize upd H14 o (.lst ([.ref y3, .ref y4] ++ [.ref y5])) = H15 at oo15 k915 Ty5 ⊢
  clear oo14 no13 k1013 k1012 kA kB ku' ou' oa1 ka1 k14 k11 oo ko na1 nu' ny5
  -- with another prime
  refine ⟨_, rfl, .inl ⟨rfl, _, SqL.of oo15⟩, _, rfl, _, rfl, made_sh (.inl (k915 _ _ (k09 _ _ T4.hu.1))) (k915 _ _ (k09 _ _ oF8)) (Paired.mapP pr8 fun e q h => h.kp fun b o a e => ⟨a, k915 _ _ (k09 _ _ e)⟩) g0.eleven fun H16 y6 ny6 Ty6 k16 => ?_⟩
  have no15 : ∀ b, H15 b = none → b ≠ o := fun b n z => by rw [z, oo15] at n; cases n
  have oo16 := k16 _ _ oo15
  refine ⟨o, _, _, rfl, rfl, oo16, by rw [sizeLine_eq]; show 3 < _; omega, ?_⟩
  have oo17 : upd H16 o (.lst ([.ref y3, .ref y4, .ref y5] ++ [.ref y6])) o = some (.lst [.ref y3, .ref y4, .ref y5, .ref y6]) := upd_same
  have k917 : Same H9 (upd H16 o (.lst ([.ref y3, .ref y4, .ref y5] ++ [.ref y6]))) := fun b u e => by
    rw [upd_ne (ne_of_none e no)]
    exact k16 _ _ (k915 _ _ e)
  have Ty6 : ShAt (upd H16 o (.lst ([.ref y3, .ref y4, .ref y5] ++ [.ref y6]))) C y6 11 us rs := Ty6.kp (fun u e => by rw [upd_ne (no15 _ ny6)]; exact e) fun b u a e => ⟨trivial, by rw [upd_ne (no15 b a)]; exact e⟩
  have Ty5 : ShAt (upd H16 o (.lst ([.ref y3, .ref y4, .ref y5] ++ [.ref y6]))) C y5 p (us ++ [sp]) rs := Ty5.kp (fun u e => by rw [upd_ne y5o]; exact k16 _ _ e) fun b u a e => ⟨trivial, by rw [upd_ne a]; exact k16 _ _ e⟩
  generalize upd H16 o (.lst ([.ref y3, .ref y4, .ref y5] ++ [.ref y6])) = H17 at oo17 k917 Ty5 Ty6 ⊢
  clear k915 oo15 oo16 no15 k16 ny6
  have k017 := k09.trans k917
  -- none is like it
  refine ⟨_, rfl, _, rfl, _, rfl, (by show 3 ≤ sizeLine; decide), fun c nc => ?_⟩
  have dis : ∀ {H' : Hp} {R : VK} (v : V), v ∈ [V.ref y3, .ref y4, .ref y5, .ref y6, .non, .ref F, .int p] → Same H17 H' → (∀ H2, Same H' H2 → R (.bl false) H2) → rEqB K C (.ref x) v H' R := fun {H'} {R} v hv sm hR => by
    have k0' := k017.trans sm
    have k9' := k917.trans sm
    have far := L.O.far
    obtain ⟨dx, _, _, _, hx', _⟩ := id (T4.same k0').hx.1.ex
    have oth : ∀ (v : V) (t : String), t ∈ ["NoneType", "int", "dict"] → TyX K H' v (.type t) → rEqB K C (.ref x) v H' R := fun v t ht ty => .inr ⟨x, dx, _, .type t, rfl, hx', ty, (far t ht).1, x, v, .type t, rfl, ty, (far t ht).2, _, rfl, hR H' (Same.refl _)⟩
    simp only [List.mem_cons, List.not_mem_nil, or_false] at hv
    rcases hv with rfl | rfl | rfl | rfl | rfl | rfl | rfl
    · refine .inl (cmp id k0' (Ty3.kp (fun o e => k9' _ _ e) fun b o a e => ⟨a, k9' _ _ e⟩) fun H2 k2 => ?_)
      rw [decide_eq_false (fun h => vecs_other (row' := setZ q.2 xu (getZ q.2 xu + 1)) qin (vecM_far p2 hxu q.2) h.2.2)]
      exact hR H2 k2
    · refine .inl (cmp id k0' (Ty4.kp (fun o e => k9' _ _ e) fun b o a e => ⟨a, k9' _ _ e⟩) fun H2 k2 => ?_)
      rw [decide_eq_false (fun h => vecs_rev ok.qnd ok.ql.1 h.2.2)]
      exact hR H2 k2
    · refine .inl (cmp id k0' (Ty5.kp (fun o e => sm _ _ e) fun b o a e => ⟨a, sm _ _ e⟩) fun H2 k2 => ?_)
      rw [decide_eq_false (fun h => by
        have z := congrArg List.length h.2.1
        rw [List.length_append] at z
        simp at z)]
      exact hR H2 k2
    · refine .inl (cmp id k0' (Ty6.kp (fun o e => sm _ _ e) fun b o a e => ⟨a, sm _ _ e⟩) fun H2 k2 => ?_)
      rw [decide_eq_false (fun h => ok.ne h.1)]
      exact hR H2 k2
    · exact oth _ "NoneType" (by simp) (.base .non)
    · exact oth _ "dict" (by simp) (.base (.dK (k0' _ _ oF8)))
    · exact oth _ "int" (by simp) (.base (.int p))
  have kc := same_new (o := .lst [.non, .ref F, .int p]) nc
  have oc : upd H17 c (.lst [.non, .ref F, .int p]) c = some (.lst [.non, .ref F, .int p]) := upd_same
  have oo18 := kc _ _ oo17
  generalize upd H17 c (.lst [.non, .ref F, .int p]) = H18 at kc oc oo18 ⊢
  refine ⟨o, c, _, _, rfl, rfl, oo18, oc, by rw [sizeLine_eq]; show 4 + 3 ≤ _; omega, fun z nz => ?_⟩
  have kz := same_new (o := .lst ([V.ref y3, .ref y4, .ref y5, .ref y6] ++ [.non, .ref F, .int p])) nz
  have oz : upd H18 z (.lst ([V.ref y3, .ref y4, .ref y5, .ref y6] ++ [.non, .ref F, .int p])) z = some (.lst [V.ref y3, .ref y4, .ref y5, .ref y6, .non, .ref F, .int p]) := upd_same
  have k1719 := kc.trans kz
  generalize upd H18 z (.lst ([V.ref y3, .ref y4, .ref y5, .ref y6] ++ [.non, .ref F, .int p])) = H19 at oz k1719 ⊢
  refine ⟨z, rfl, ⟨_, SqL.of oz⟩, lc_gen ((List.replicate 7 false).map V.bl) (by show 7 < 1000000; decide) (fun i H' s lt => ⟨_, _, SqL.of (s _ _ oz), List.getElem?_eq_getElem (by simpa using lt)⟩) (fun H' s => ⟨_, SqL.of (s _ _ oz), by show 7 ≤ 7; decide⟩) ?_ ?_⟩
  · rintro i v y' H5 H6 Cn Nn ey s5 ⟨rfl, ev⟩ yes
    have ev := ev _ (SqL.of (s5 _ _ oz))
    obtain rfl : y' = .bl false := by
      rw [List.getElem?_map, List.getElem?_replicate] at ey
      by_cases c7 : i < 7
      · rw [if_pos c7] at ey
        exact (Option.some.inj ey).symm
      · rw [if_neg c7] at ey
        cases ey
    refine ⟨rfl, ?_⟩
    exact ⟨_, rfl, _, rfl, dis v (List.mem_of_getElem? ev) (k1719.trans s5) fun H2 k2 => yes H2 k2⟩
  · intro H5 D2 nD2 oD2 s5
    refine ⟨D2, _, rfl, SqL.of oD2, _, rfl, ?_⟩
    have kE := (k017.trans k1719).trans s5
    exact hq H5 ((T4.S.same kE).mono (by omega)) (BP8.trans (.of kE))
end
end L2.TB
/-! the law: what it knows -/
namespace L2.TB
open PySem PySem.Spec PyProof.Rows
structure LawL (P : Program) (w : World) (K : PySem.W.Frag) (mg : Str → Option Value) (base : Heap) (C fI : Addr) : Prop where
  S : SumC K C
  O : OwnE P w K mg base C fI "Sums" (spSEq C)
  init : ∃ fd, Binds K fd ["self", "unknowns", "questions"] [] ∧ FnOk P w K mg base CX0 4 fI fd ["self", "unknowns", "questions"] (spSInit K C)
  start : ∃ f fd, mg "_law_start" = some (.ref f) ∧ Fun K "_law_start" "_law_start" sStart f fd
  sums : ∃ f fd, mg "_law_s_sums" = some (.ref f) ∧ PySem.W.keepIn K (.ref f) = true ∧ Binds K fd ["stream", "moduli", "is_wide"] [] ∧ FnOk P w K mg base CX0 5 f fd ["stream", "moduli", "is_wide"] spSumsL
  handed : ∃ f fd, mg "_law_s_handed" = some (.ref f) ∧ PySem.W.keepIn K (.ref f) = true ∧ Binds K fd ["stream", "questions"] [] ∧ FnOk P w K mg base CX0 3 f fd ["stream", "questions"] (spHanded K)
  same : ∃ f fd, mg "_law_same" = some (.ref f) ∧ PySem.W.keepIn K (.ref f) = true ∧ Binds K fd ["found", "due"] [] ∧ FnOk P w K mg base CX0 3 f fd ["found", "due"] (spSameF 2)
  world : ∃ f fd, mg "_law_s_world" = some (.ref f) ∧ PySem.W.keepIn K (.ref f) = true ∧ Binds K fd ["stream", "unknowns", "is_wide"] [] ∧ FnOk P w K mg base CX0 3 f fd ["stream", "unknowns", "is_wide"] (spWorldL K)
  ans : ∃ f fd, mg "_law_s_answer" = some (.ref f) ∧ PySem.W.keepIn K (.ref f) = true ∧ Binds K fd ["question", "world"] [] ∧ FnOk P w K mg base CX0 1 f fd ["question", "world"] spAnswerL
  isW : ∃ f fd, mg "_law_s_is_world" = some (.ref f) ∧ PySem.W.keepIn K (.ref f) = true ∧ Binds K fd ["unknowns", "thing"] [] ∧ FnOk P w K mg base CX0 1 f fd ["unknowns", "thing"] spIsWorldL
  others : ∃ f fd, mg "_law_s_others" = some (.ref f) ∧ PySem.W.keepIn K (.ref f) = true ∧ Binds K fd ["stream", "unknowns", "questions"] [] ∧ FnOk P w K mg base CX0 3 f fd ["stream", "unknowns", "questions"] spOthers
  made : ∃ f fd, mg "_law_s_shares_made" = some (.ref f) ∧ PySem.W.keepIn K (.ref f) = true ∧ Binds K fd ["stream"] [] ∧ FnOk P w K mg base CX0 6 f fd ["stream"] spShMade
  qs : ∃ f fd, Meth K C "questions" f ∧ Binds K fd ["self"] [] ∧ FnOk P w K mg base CX0 1 f fd ["self"] (spSQs C)
  unk : ∃ f fd, Meth K C "unknowns" f ∧ Binds K fd ["self"] [] ∧ FnOk P w K mg base CX0 1 f fd ["self"] (spSUnk C)
  home : ∃ f fd, Meth K C "home" f ∧ Binds K fd ["self"] [] ∧ FnOk P w K mg base CX0 1 f fd ["self"] (spSHome C)
  row : ∃ f fd, Meth K C "row" f ∧ Binds K fd ["self", "name"] [] ∧ FnOk P w K mg base CX0 3 f fd ["self", "name"] (spSRow C)
  answers : ∃ f fd, Meth K C "answers" f ∧ Binds K fd ["self", "world"] [] ∧ FnOk P w K mg base CX0 3 f fd ["self", "world"] (spSAns C)
  nD : mg "dict" = none
  nL : mg "list" = none
  nT : mg "tuple" = none
  nI : mg "isinstance" = none
  nY : mg "any" = none
  nR : mg "range" = none
abbrev NLw : List Str := ["script", "stream", "turn", "unknowns", "questions", "given", "names", "field", "name", "side", "due", "told", "world", "others", "x", "thing"]
theorem scLaw : FnScope NLw ["script"] (defScope sLaw) := ⟨rfl, rfl, rfl, by decide +kernel, rfl, by decide +kernel, by decide +kernel⟩
def forB : Stmt → List Stmt
  | .For _ _ b _ _ => b
  | _ => []
abbrev bodyT : List Stmt := forB ((defBody sLaw).getD 1 (.Pass ⟨0, 0, 0, 0⟩))
/-- the drawn sums and the field that is made of them -/
structure TSt (C l ls u F x : Addr) (us : List Str) (qs : List (Str × SideT)) (N : Int) (H : Hp) : Prop where
  S : Strm H l ls N
  hu : H u = some (.lst (us.map V.str)) ∧ u ≠ l ∧ u ≠ ls
  hF : QuesAt (fun b => b ≠ l ∧ b ≠ ls ∧ b ≠ F) H F qs ∧ F ≠ l ∧ F ≠ ls
  hx : SumA (fun b => b ≠ l ∧ b ≠ ls ∧ b ≠ F) H C x us qs ∧ x ≠ l ∧ x ≠ ls
  ok : SumsOk us qs
theorem SumA.kp {A A' : Addr → Prop} {H H' : Hp} {C x : Addr} {us : List Str} {qs : List (Str × SideT)} (h : SumA A H C x us qs) (hx : ∀ o, H x = some o → H' x = some o) (k : ∀ b o, A b → H b = some o → A' b ∧ H' b = some o) : SumA A' H' C x us qs := by
  obtain ⟨dx, u, D, es, h1, a1, a2, h2, h3, h4⟩ := h.ex
  refine ⟨dx, u, D, es, hx _ h1, (k _ _ a1 h2).1, (k _ _ a2 h3).1, (k _ _ a1 h2).2, (k _ _ a2 h3).2, Paired.mapP h4 fun e q h => ?_⟩
  obtain ⟨g1, p, v, g2, a3, a4, g3, g4⟩ := h
  exact ⟨g1, p, v, g2, (k _ _ a3 g3).1, (k _ _ a4 g4).1, (k _ _ a3 g3).2, (k _ _ a4 g4).2⟩
theorem TSt.but {C l ls u F x : Addr} {us : List Str} {qs : List (Str × SideT)} {N N' : Int} {H H' : Hp} (h : TSt C l ls u F x us qs N H) (B : But l ls H H') (S : Strm H' l ls N') : TSt C l ls u F x us qs N' H' :=
  ⟨S, ⟨B _ _ h.hu.2.1 h.hu.2.2 h.hu.1, h.hu.2⟩, ⟨h.hF.1.kp (fun o e => B _ _ h.hF.2.1 h.hF.2.2 e) fun b o a e => ⟨a, B _ _ a.1 a.2.1 e⟩, h.hF.2⟩, ⟨h.hx.1.kp (fun o e => B _ _ h.hx.2.1 h.hx.2.2 e) fun b o a e => ⟨a, B _ _ a.1 a.2.1 e⟩, h.hx.2⟩, h.ok⟩
theorem TSt.same {C l ls u F x : Addr} {us : List Str} {qs : List (Str × SideT)} {N : Int} {H H' : Hp} (h : TSt C l ls u F x us qs N H) (s : Same H H') : TSt C l ls u F x us qs N H' := h.but (.of s) (h.S.same s)
end L2.TB
/-! the law: a turn's first part -/
namespace L2.TB
open PySem PySem.Spec PyProof.Rows
section
variable {P : Program} {w : World} {K : PySem.W.Frag} {mg : Str → Option Value} {base : Heap} {f C fI : Addr}
theorem turn_a (L : LawL P w K mg base C fI) {cdv : Value} {A : Around} {outer : List Env} {s : Shared} {H : Hp} {E : XK} (hr : Room 7 (A.deeper (envOfC "law" (defScope sLaw) s.heap.objs.size f cdv))) {rest : List Stmt} {u : TS} (hrest : PSs (cxOf CX0 P w K mg base NLw "law" (defScope sLaw) f cdv A outer s H E).nox rest u) :
    ∃ t, PSs (cxOf CX0 P w K mg base NLw "law" (defScope sLaw) f cdv A outer s H E).nox (bodyT.take 5 ++ rest) t ∧ ∀ (D : Ends) (H0 : Hp) (s0 s2 s3 s4 s5 s6 s7 s8 s9 s10 s11 s12 s13 s14 s15 : Option V) (l ls : Addr) (N : Int), Strm H0 l ls N → N ≤ 100000 →
      (∀ H' un F x us qs t5 t6 t8, TSt C l ls un F x us qs (N + 210) H' → u D [s0, some (.ref l), s2, some (.ref un), some (.ref F), t5, t6, some (.ref x), t8, s9, s10, s11, s12, s13, s14, s15] H') →
      t D [s0, some (.ref l), s2, s3, s4, s5, s6, s7, s8, s9, s10, s11, s12, s13, s14, s15] H0 := by
  obtain ⟨fdI, bI, GI⟩ := L.init
  obtain ⟨fS, fdS, gS, kS, bS, GS⟩ := L.sums
  obtain ⟨fH, fdH, gH, kH, bH, GH⟩ := L.handed
  have gC := L.O.gC
  have Mk := L.O.made
  have nd := scLaw.nd
  have hu := hu_of (hr.mono (show 1 ≤ 7 by decide))
  refine ⟨_, pss_cons (ps_asg (pe_call GS (hr.mono (by decide)) rfl gS kS bS .nil pass0 (pa_cons (pv 1) (pa_cons (pe_lst (pa_cons pe_int (pa_cons pe_int (pa_cons pe_int (pa_cons pe_int (pa_cons pe_int pa_nil)))))) (pa_cons pe_bl pa_nil)))) (pg_tup rfl (pgs_cons (pg_name (i := 3) nd rfl (Or.inl rfl)) (pgs_cons (pg_name (i := 4) nd rfl (Or.inr rfl)) pgs_nil))))
    (pss_cons (ps_par (i := 5) (j := 6) rfl nd rfl rfl (by decide) rfl rfl (pa_cons (pe_call GH (hr.mono (by decide)) rfl gH kH bH .nil pass0 (pa_cons (pv 1) (pa_cons (pv 4) pa_nil))) (pa_cons (pe_callTy call_list_of rfl L.nL boot_list' (pa_cons (pv 3) pa_nil)) pa_nil)) rfl)
    (pss_cons (ps_set (i := 7) nd rfl (Or.inr rfl) (pe_make Mk GI (hr.mono (by decide)) rfl gC bI .nil pass0 (pa_cons (pv 6) (pa_cons (pv 5) pa_nil))))
    (pss_cons (ps_expr (pe_bm PySem.F.plainAttrs_list PySem.F.slot_list_append PySem.F.type_list_append mt_append (pv 6) (pa_cons pe_str pa_nil)))
    (pss_cons (ps_lock (ps_for PassesOwn.never rfl (pi_keys (pv 5)) (pg_name (i := 8) nd rfl (Or.inr rfl)) (pss_one (ps_dput hu (pe_ix (r := rIx K) ix_seq (pe_dget hu (pv 5) (pv 8) (fun _ _ => rfl)) pe_int (fun _ _ => rfl)) pe_str pe_int rfl)))) hrest)))), ?_⟩
  intro D H0 s0 s2 s3 s4 s5 s6 s7 s8 s9 s10 s11 s12 s13 s14 s15 l ls N S hN fin
  refine ⟨_, rfl, (by show 5 ≤ sizeLine; decide), fun ml nml => ?_⟩
  have kml := same_new (o := .lst [.int 0, .int 0, .int 2, .int 3, .int 12]) nml
  have aml := S.apart (Same.refl _) nml
  refine ⟨l, ls, ml, N, rfl, S.same kml, by omega, aml.1, aml.2, upd_same, fun H1 t un F us qs ok ot nu u1 u2 ou nF F1 F2 hF S1 B1 => ?_⟩
  refine ⟨t, _, rfl, SqT.of ot, rfl, _, _, rfl, _, _, rfl, rfl, ?_⟩
  clear ot
  have hF : QuesAt (fun b => b ≠ l ∧ b ≠ ls ∧ b ≠ F) H1 F qs := hF.kp (fun o e => e) fun b o a e => ⟨⟨a.1, a.2.1, a.2.2.1⟩, e⟩
  obtain ⟨esF, oF, prF⟩ := id hF
  have l5 := ok.ql
  refine ⟨_, rfl, _, rfl, l, ls, F, _, qs, rfl, S1, by omega, F1, F2, hF, ok.qnd, by omega, fun H2 g es ng og pe S2 B2 => ?_⟩
  have ou2 := B2 _ _ u1 u2 ou
  have ag := S1.apart (Same.refl _) ng
  refine ⟨_, rfl, un, _, rfl, .inl (SqL.of ou2), fun n nn => ⟨_, _, rfl, ?_⟩⟩
  have kn := same_new (o := .lst (us.map V.str)) nn
  have on : upd H2 n (.lst (us.map V.str)) n = some (.lst (us.map V.str)) := upd_same
  have an := S2.apart (Same.refl _) nn
  have og5 := kn _ _ og
  have gn : g ≠ n := fun z => by rw [z] at og; rw [og] at nn; cases nn
  have pe5 : Paired (HandA (fun b => (H1 b = none ∧ b ≠ l ∧ b ≠ ls) ∧ True) K (upd H2 n (.lst (us.map V.str)))) es qs := Paired.mapP pe fun e q h => h.keep (fun b a => ⟨a, trivial⟩) fun b o a e => kn _ _ e
  have ds2 : ∀ (i : Nat) (e : Key × V) (q : Str × SideT), es[i]? = some e → qs[i]? = some q → HandA (fun b => (H1 b = none ∧ b ≠ l ∧ b ≠ ls) ∧ True) K (upd H2 n (.lst (us.map V.str))) e q := fun i e q e1 e2 => by
    obtain ⟨q', eq', h⟩ := paired_get pe5 e1
    rw [e2] at eq'
    obtain rfl := Option.some.inj eq'
    exact h
  have B15 := B2.trans (.of kn)
  have nn1 : H1 n = none := B2.free an nn
  have k25 := kn
  have S5 := S2.same kn
  have pex : ∀ (i : Nat) (e : Key × V), es[i]? = some e → ∃ q p d, qs[i]? = some q ∧ e.1 = Sum.inr q.1 ∧ e.2 = .ref p ∧ SqA K H2 p [.ref d, .int q.2.2] ∧ H2 d = some (.dK (dkS q.2.1)) ∧ H1 d = none ∧ d ≠ l ∧ d ≠ ls := fun i e e1 => by
    obtain ⟨q, eq, h1, p, d, h2, a1, a2, h3, h4⟩ := paired_get pe e1
    exact ⟨q, p, d, eq, h1, h2, h3, h4, a2.1, a2.2.1, a2.2.2⟩
  generalize upd H2 n (.lst (us.map V.str)) = H5 at on og5 B15 k25 S5 ⊢
  clear pe5 ds2
  -- the field
  have hp5 : Paired (HandE K H5) es qs := Paired.mapP pe fun e q h => (h.keep (A' := fun _ => True) (fun _ _ => trivial) fun b o a e => k25 _ _ e).e
  refine ⟨_, rfl, _, rfl, made_su (.inl on) og5 hp5 ok.g fun H6 x nx Tx k6 => ?_⟩
  have on6 := k6 _ _ on
  have og6 := k6 _ _ og5
  refine ⟨_, rfl, .inl ⟨rfl, _, SqL.of on6⟩, n, _, _, rfl, rfl, on6, by rw [sizeLine_eq, List.length_map]; have := ok.ul; omega, ?_⟩
  let DS : Addr → Prop := fun b => H2 b ≠ none ∧ H1 b = none ∧ b ≠ l ∧ b ≠ ls ∧ ∃ kvs : List (Str × Int), H2 b = some (.dK (dkS kvs)) ∧ kvs.length ≤ 10
  have dsn : ∀ b, DS b → b ≠ n ∧ b ≠ g := fun b ⟨h, _, _, _, kvs, o, _⟩ => ⟨(fun z => h (by rw [z]; exact nn)), fun z => by
    rw [z, og] at o
    have e := HO.dK.inj (Option.some.inj o)
    have pos : 0 < es.length := by rw [Paired.length pe]; omega
    obtain ⟨q, p, d, _, _, h2, _⟩ := pex 0 es[0] (List.getElem?_eq_getElem pos)
    have m : es[0] ∈ dkS kvs := by rw [← e]; exact List.getElem_mem pos
    obtain ⟨e', _, ee⟩ := List.mem_map.mp m
    rw [← ee] at h2
    cases h2⟩
  have og7 : upd H6 n (.lst (us.map V.str ++ [.str "more"])) g = some (.dK es) := by rw [upd_ne gn]; exact og6
  have up7 : ∀ b o, b ≠ n → H6 b = some o → upd H6 n (.lst (us.map V.str ++ [.str "more"])) b = some o := fun b o nb e => by rw [upd_ne nb]; exact e
  generalize upd H6 n (.lst (us.map V.str ++ [.str "more"])) = H7 at og7 up7 ⊢
  have les := Paired.length pe
  have ndes : (es.map (·.1)).Nodup := by
    rw [keys_es (fun A H => HandA A K H) (fun _ _ h => h.1) pe]
    exact List.Pairwise.map Sum.inr (fun a b h e => h (Sum.inr.inj e)) ok.qnd
  refine ⟨g, _, og7, trivial, fun od2 => ⟨_, rfl, g, od2, rfl, .inl ⟨es, upd_same, for_it walk_keys (fun i σ H' => (∀ b o, ¬ DS b → upd H7 g (.frz od2 (.dK es)) b = some o → H' b = some o) ∧ (∀ b, DS b → ∃ kvs, H' b = some (.dK kvs) ∧ kvs.length ≤ 10 + i) ∧ ∃ s8', σ = [s0, some (.ref l), s2, some (.ref un), some (.ref F), some (.ref g), some (.ref n), some (.ref x), s8', s9, s10, s11, s12, s13, s14, s15]) ⟨fun b o _ e => e, fun b h => ?_, _, rfl⟩ (fun i σ H' _ h => h.1 _ _ (fun z => (dsn _ z).2 rfl) upd_same) ?_ ?_⟩⟩⟩
  · obtain ⟨_, _, _, _, kvs, o, lk⟩ := id h
    exact ⟨dkS kvs, by rw [upd_ne (dsn b h).2]; exact up7 _ _ (dsn b h).1 (k6 _ _ (k25 _ _ o)), by unfold dkS; rw [List.length_map]; omega⟩
  · rintro i y σ H8 H9 lt ⟨K8, D8, s8', rfl⟩ ⟨rfl, k0, v0, ekv, rfl⟩
    obtain ⟨q, p, d, eq, hk, hv, hs, od, nd1, d1, d2⟩ := pex i _ ekv
    have hk : k0 = Sum.inr q.1 := hk
    have hv : v0 = .ref p := hv
    subst hk hv
    have so := ok.s q (List.mem_of_getElem? eq)
    have sl := sub_len so.nd so.sub
    have ul := ok.ul
    have dd : DS d := ⟨by rw [od]; simp, nd1, d1, d2, _, od, by omega⟩
    obtain ⟨kvs, odd, lk⟩ := D8 d dd
    have og8 := K8 _ _ (fun z => (dsn _ z).2 rfl) (show upd H7 g (.frz od2 (.dK es)) g = _ from upd_same)
    have pD : ¬ DS p := fun ⟨_, _, _, _, kvs, o, _⟩ => by
      rcases hs with h | h
      · rw [h] at o; cases o
      · rw [h] at o; cases o
    have pg : p ≠ g := fun z => by
      rcases hs with h | h
      · rw [z, og] at h; cases h
      · rw [z, og] at h; cases h
    have pn : p ≠ n := fun z => by
      rcases hs with h | h
      · rw [z, nn] at h; cases h
      · rw [z, nn] at h; cases h
    have hs9 : ∀ o, H2 p = some o → H9 p = some o := fun o e => K8 _ _ pD (by rw [upd_ne pg]; exact up7 _ _ pn (k6 _ _ (k25 _ _ e)))
    have li : i < es.length := (List.getElem?_eq_some_iff.mp ekv).1
    have ixp : ∀ {R : VK}, R (.ref d) H9 → rIx K (.ref p) (.int 0) H9 R := fun r => by
      rcases hs with h | h
      · exact .inl ⟨p, _, _, _, rfl, rfl, SqL.of (hs9 _ h), rfl, r⟩
      · exact .inr (.inl ⟨p, _, _, _, rfl, rfl, SqT.of (hs9 _ h), rfl, r⟩)
    refine ⟨_, rfl, _, rfl, g, _, rfl, .inl ⟨es, Sum.inr q.1, .inr ⟨od2, og8⟩, rfl, (valV_atN ndes ekv).symm⟩, ixp ⟨d, _, rfl, DPut.k (k := Sum.inr "more") odd (by rw [sizeLine_eq]; omega), fun b o nb e => ?_, fun b h => ?_, _, rfl⟩⟩
    · rw [upd_ne (fun z => nb (by rw [z]; exact dd))]
      exact K8 b o nb e
    · by_cases bd : b = d
      · subst bd
        exact ⟨_, upd_same, by have := length_putK kvs (Sum.inr "more" : Key) (.int 1); omega⟩
      · obtain ⟨kvs2, o2, l2⟩ := D8 b h
        exact ⟨kvs2, by rw [upd_ne bd]; exact o2, by omega⟩
  rintro σ H8 ⟨K8, _, s8', rfl⟩
  have og8 := K8 _ _ (fun z => (dsn _ z).2 rfl) (show upd H7 g (.frz od2 (.dK es)) g = _ from upd_same)
  refine ⟨og8, ?_⟩
  have K9 : ∀ b o, ¬ DS b → b ≠ n → H6 b = some o → upd H8 g (.dK es) b = some o := fun b o nb bn e => by
    by_cases bg : b = g
    · rw [bg, upd_same]
      rw [bg, og6] at e
      exact e
    · rw [upd_ne bg]
      exact K8 b o nb (by rw [upd_ne bg]; exact up7 b o bn e)
  generalize upd H8 g (.dK es) = H9 at K9 ⊢
  have keep1 : ∀ b o, b ≠ l → b ≠ ls → H1 b = some o → H9 b = some o := fun b o h1 h2 e => K9 b o (fun z => by rw [z.2.1] at e; cases e) (fun z => by rw [z, nn1] at e; cases e) (k6 _ _ (B15 _ _ h1 h2 e))
  have keepS : ∀ b o, b = l ∨ b = ls → H6 b = some o → H9 b = some o := fun b o h e => K9 b o (fun z => by
    rcases h with h | h
    · exact z.2.2.1 h
    · exact z.2.2.2.1 h) (fun z => by
    rcases h with h | h
    · exact an.1 (z.symm.trans h)
    · exact an.2 (z.symm.trans h)) e
  have new5 : ∀ b o, H5 b = none → H6 b = some o → H9 b = some o := fun b o n5 e => K9 b o (fun z => by
    obtain ⟨_, _, _, _, kvs, o3, _⟩ := z
    rw [k25 _ _ o3] at n5
    cases n5) (fun z => by rw [z, on] at n5; cases n5) e
  have a5 : ∀ b, H5 b = none → b ≠ l ∧ b ≠ ls ∧ b ≠ F := fun b n5 => by
    have z := S5.apart (Same.refl _) n5
    exact ⟨z.1, z.2, fun z => by rw [z, B15 _ _ F1 F2 oF] at n5; cases n5⟩
  have S9 : Strm H9 l ls (N + 210) := by
    obtain ⟨cs, gg, k, m, Z⟩ := (S5.same k6).mono (show _ ≤ N + 210 by omega)
    exact ⟨cs, gg, k, m, keepS _ _ (.inl rfl) Z.o, keepS _ _ (.inr rfl) Z.c, Z.ne, Z.g0, Z.k0, Z.k1, Z.m0, Z.m1, Z.sz⟩
  exact fin H9 un F x us qs _ _ _ ⟨S9, ⟨keep1 _ _ u1 u2 ou, u1, u2⟩, ⟨hF.kp (fun o e => keep1 _ _ F1 F2 e) fun b o a e => ⟨a, keep1 _ _ a.1 a.2.1 e⟩, F1, F2⟩, ⟨Tx.kp (fun o e => new5 _ _ nx e) fun b o a e => ⟨a5 b a, new5 b o a e⟩, (a5 x nx).1, (a5 x nx).2.1⟩, ok⟩
end
end L2.TB
/-! the law: what the field tells of itself -/
namespace L2.TB
open PySem PySem.Spec PyProof.Rows
theorem dp_items {K : PySem.W.Frag} {H : Hp} : ∀ {ts : List Addr} {kvs : List (Str × Int)}, Paired (fun (t : Addr) (q : Key × V) => H t = some (.tup [kV q.1, q.2])) ts (dkS kvs) → DpAll K H (ts.map V.ref) (kvs.map PySem.W.Datum.toD)
  | [], [], _ => .nil
  | t :: ts, e :: kvs, h => by
    cases h with
    | cons h1 h2 => exact .cons (.tup (SqT.of h1) (.cons (.str _) (.cons (.int _) .nil))) (dp_items h2)
  | [], _ :: _, h => by cases h
  | _ :: _, [], h => by cases h
def dueG (row : List (Str × Int)) (n : Str) : Option (Key × V) := if getZ row n = 0 then none else some (Sum.inr n, .int (getZ row n))
theorem due_rowZ (row : List (Str × Int)) : ∀ us : List Str, us.filterMap (dueG row) = dkS (rowZ us row)
  | [] => rfl
  | u :: us => by
    have ih := due_rowZ row us
    have e : rowZ (u :: us) row = (if getZ row u = 0 then rowZ us row else (u, getZ row u) :: rowZ us row) := by
      show List.filter _ ((u, getZ row u) :: us.zip (vecZ us row)) = _
      by_cases h : getZ row u = 0
      · rw [if_pos h, List.filter_cons_of_neg (by simp [h])]
        rfl
      · rw [if_neg h, List.filter_cons_of_pos (by simp [h])]
        rfl
    rw [e]
    by_cases h : getZ row u = 0
    · rw [if_pos h, List.filterMap_cons_none (by unfold dueG; rw [if_pos h]), ih]
    · rw [if_neg h, List.filterMap_cons_some (b := (Sum.inr u, .int (getZ row u))) (by unfold dueG; rw [if_neg h]), ih]
      rfl
theorem rowZ_nd {us : List Str} (nd : us.Nodup) (row : List (Str × Int)) : ((rowZ us row).map (·.1)).Nodup := by
  have s : ((rowZ us row).map (·.1)).Sublist us := by
    have h1 : ((rowZ us row).map (·.1)).Sublist ((us.zip (vecZ us row)).map (·.1)) := (List.filter_sublist (l := us.zip (vecZ us row))).map _
    rw [show (us.zip (vecZ us row)).map (·.1) = us from List.map_fst_zip (by rw [vec_len]; exact Nat.le_refl _)] at h1
    exact h1
  exact nd.sublist s
theorem rowZ_len (us : List Str) (row : List (Str × Int)) : (rowZ us row).length ≤ us.length := by
  have z := List.length_filter_le (fun e : Str × Int => decide (e.2 ≠ 0)) (us.zip (vecZ us row))
  rw [List.length_zip] at z
  show (List.filter _ _).length ≤ _
  omega
section
variable {P : Program} {w : World} {K : PySem.W.Frag} {mg : Str → Option Value} {base : Heap} {f C fI : Addr}
theorem turn_b (L : LawL P w K mg base C fI) {cdv : Value} {A : Around} {outer : List Env} {s : Shared} {H : Hp} {E : XK} (hr : Room 7 (A.deeper (envOfC "law" (defScope sLaw) s.heap.objs.size f cdv))) {rest : List Stmt} {u : TS} (hrest : PSs (cxOf CX0 P w K mg base NLw "law" (defScope sLaw) f cdv A outer s H E).nox rest u) :
    ∃ t, PSs (cxOf CX0 P w K mg base NLw "law" (defScope sLaw) f cdv A outer s H E).nox ((bodyT.drop 5).take 1 ++ rest) t ∧ ∀ (D : Ends) (H0 : Hp) (s0 s2 s5 s6 s8 s9 s10 s11 s12 s13 s14 s15 : Option V) (l ls un F x : Addr) (us : List Str) (qs : List (Str × SideT)) (N : Int), TSt C l ls un F x us qs N H0 →
      (∀ H' t8 t9 t10 t11, TSt C l ls un F x us qs N H' → u D [s0, some (.ref l), s2, some (.ref un), some (.ref F), s5, s6, some (.ref x), t8, t9, t10, t11, s12, s13, s14, s15] H') →
      t D [s0, some (.ref l), s2, some (.ref un), some (.ref F), s5, s6, some (.ref x), s8, s9, s10, s11, s12, s13, s14, s15] H0 := by
  obtain ⟨fQ, fdQ, mQ, bQ, GQ⟩ := L.qs
  obtain ⟨fU, fdU, mU, bU, GU⟩ := L.unk
  obtain ⟨fR, fdR, mR, bR, GR⟩ := L.row
  obtain ⟨fS, fdS, gS, kS, bS, GS⟩ := L.same
  have S := L.S
  have nL := L.nL
  have nd := scLaw.nd
  have hu := hu_of (hr.mono (show 1 ≤ 7 by decide))
  have hu64 := hr.units
  refine ⟨_, pss_cons (ps_for PassesOwn.never rfl (pi_seq (pe_tup (pa_cons pe_int (pa_cons pe_int pa_nil)))) (pg_name (i := 9) nd rfl (Or.inl rfl))
      (pss_cons (ps_if (pt_not (pt_val (pe_call GS (hr.mono (by decide)) rfl gS kS bS .nil pass0 (pa_cons (pe_lst (pa_cons (pe_meth0 (pv 7) S.cl mQ GQ (hr.mono (by decide)) bQ .nil pass0) (pa_cons (pe_meth0 (pv 7) S.cl mU GU (hr.mono (by decide)) bU .nil pass0) pa_nil))) (pa_cons (pe_lst (pa_cons (pe_callTy (call_listD rfl) rfl nL boot_list' (pa_cons (pv 4) pa_nil)) (pa_cons (pv 3) pa_nil))) pa_nil))))) (pss_one ps_never) pss_nil)
      (pss_cons (ps_expr (pe_bm PySem.F.plainAttrs_list PySem.F.slot_list_append PySem.F.type_list_append mt_append (pe_meth0 (pv 7) S.cl mQ GQ (hr.mono (by decide)) bQ .nil pass0) (pa_cons pe_str pa_nil)))
      (pss_cons (ps_expr (pe_bm PySem.F.plainAttrs_list PySem.F.slot_list_append PySem.F.type_list_append mt_append (pe_meth0 (pv 7) S.cl mU GU (hr.mono (by decide)) bU .nil pass0) (pa_cons pe_str pa_nil)))
      (pss_one (ps_lock (ps_for PassesOwn.never rfl (pi_keys (pv 4)) (pg_name (i := 8) nd rfl (Or.inr rfl))
        (pss_cons (ps_set (i := 10) nd rfl (Or.inl rfl) (pe_callTy (r := rDk K) (call_dk rfl) rfl L.nD boot_dict' (pa_cons (pe_lc (own := [("x", 14)]) (g := gName 14) (tt := tTest (tOp rNe (tDGet2 (tOp (rIx K) (tDGet (tVar 4) (tVar 8)) (tC (.int 0))) (tVar 14) (tC (.int 0))) (tC (.int 0)))) (te := tTup (tCons (tVar 14) (tCons (tDGet (tOp (rIx K) (tDGet (tVar 4) (tVar 8)) (tC (.int 0))) (tVar 14)) tNil))) rfl nd (pi_list (pv 3)) (blkOk_by (N := NLw) (sc := defScope sLaw) (by decide +kernel))
            (fun _ _ _ _ _ => pg_name (i := 14) nd rfl (Or.inl rfl)) (fun _ _ _ _ _ => pts_one (pt_cmpR op_ne (pe_dget2 hu (pe_ix (r := rIx K) ix_seq (pe_dget hu (pv 4) (pv 8) (fun _ _ => rfl)) pe_int (fun _ _ => rfl)) (pv 14) pe_int ⟨rfl, rfl, rfl, rfl⟩) pe_int (nomark _)))
            (fun _ _ _ _ _ => pe_tup (pa_cons (pv 14) (pa_cons (pe_dget hu (pe_ix (r := rIx K) ix_seq (pe_dget hu (pv 4) (pv 8) (fun _ _ => rfl)) pe_int (fun _ _ => rfl)) (pv 14) (fun _ _ => rfl)) pa_nil)))) pa_nil)))
        (pss_cons (ps_set (i := 11) nd rfl (Or.inl rfl) (pe_meth (pv 7) S.cl mR GR (hr.mono (by decide)) bR .nil pass0 (pa_cons (pv 8) pa_nil)))
        (pss_cons (ps_if (PW.pt (pw_or (pt_not (pt_val (pe_callB (r := rIsi K) call_isi rfl L.nI boot_isi (pa_cons (pv 11) (pa_cons (pe_bltn (v := .ty "tuple") rfl L.nT boot_tuple' rfl) pa_nil)))))
            (pw_or1 (pt_cmpR (op_neT (α := List (Str × Int)) (by decide) hu64) (LiI.pe_listItems rfl (pe_ix (r := rIx K) ix_seq (pv 11) pe_int (fun _ _ => rfl)) rfl nL boot_list') (LiI.pe_listItems rfl (pv 10) rfl nL boot_list') (nomark _))))) (pss_one ps_never) pss_nil)
        (pss_cons (ps_if (pt_not (pt_val (pe_call GS (hr.mono (by decide)) rfl gS kS bS .nil pass0 (pa_cons (pe_ix (r := rIx K) ix_seq (pv 11) pe_int (fun _ _ => rfl)) (pa_cons (pe_ix (r := rIx K) ix_seq (pe_dget hu (pv 4) (pv 8) (fun _ _ => rfl)) pe_int (fun _ _ => rfl)) pa_nil))))) (pss_one ps_never) pss_nil)
        (pss_one (ps_dput hu (pe_ix (r := rIx K) ix_seq (pv 11) pe_int (fun _ _ => rfl)) pe_str pe_int rfl))))))))))))) hrest, ?_⟩
  intro D H0 s0 s2 s5 s6 s8 s9 s10 s11 s12 s13 s14 s15 l ls un F x us qs N T0 fin
  have ok := T0.ok
  have l5 := ok.ql
  have ul := ok.ul
  refine ⟨(by show 2 ≤ sizeLine; decide), fun P0 nP0 => ?_⟩
  have kP0 := same_new (o := .tup [.int 0, .int 1]) nP0
  have oP0 : upd H0 P0 (.tup [.int 0, .int 1]) P0 = some (.tup [.int 0, .int 1]) := upd_same
  have T1 := T0.same kP0
  generalize upd H0 P0 (.tup [.int 0, .int 1]) = H1 at kP0 oP0 T1
  obtain ⟨es, oF, prF⟩ := id T1.hF.1
  have les : es.length = qs.length := Paired.length prF
  have ndes := nd_side prF ok.qnd
  have ekv : (es.map fun kv => kV kv.1) = (qs.map (·.1)).map V.str := by
    have z2 := congrArg (List.map kV) (keys_side prF)
    rw [List.map_map, List.map_map] at z2
    exact z2
  obtain ⟨dx, _, _, _, hx0, _⟩ := id T1.hx.1.ex
  have ou := T1.hu.1
  have xF : x ≠ F := fun z => by rw [z, oF] at hx0; cases hx0
  have uF : un ≠ F := fun z => by rw [z, oF] at ou; cases ou
  have at_ : ∀ {H' : Hp}, Same H1 H' → SumAt H' C x us qs := fun s => (T1.hx.1.kp (A' := fun _ => True) (fun o e => s _ _ e) fun b o _ e => ⟨trivial, s _ _ e⟩).at_
  refine for_seq (.inr rfl) (fun i σ H' => Same H1 H' ∧ ∃ s8 s9 s10 s11, σ = [s0, some (.ref l), s2, some (.ref un), some (.ref F), s5, s6, some (.ref x), s8, s9, s10, s11, s12, s13, s14, s15]) ⟨Same.refl _, _, _, _, _, rfl⟩ (fun i σ H' _ h => h.1 _ _ oP0) ?_ ?_
  · rintro i y σ H2 ey ⟨k2, s8, s9, s10, s11, rfl⟩
    refine ⟨_, rfl, x, dx, _, rfl, k2 _ _ hx0, rfl, x, us, qs, rfl, at_ k2, fun H3 a na oa k3 => ?_⟩
    have k03 := k2.trans k3
    refine ⟨_, rfl, x, dx, _, rfl, k03 _ _ hx0, rfl, x, us, qs, rfl, at_ k03, fun H4 b nb ob k4 => ?_⟩
    refine ⟨(by show 2 ≤ sizeLine; decide), fun A1 nA => ?_⟩
    have kA := same_new (o := .lst [.ref a, .ref b]) nA
    have oA : upd H4 A1 (.lst [.ref a, .ref b]) A1 = some (.lst [.ref a, .ref b]) := upd_same
    have oa5 := kA _ _ (k4 _ _ oa)
    have ob5 := kA _ _ ob
    have k05 := (k03.trans k4).trans kA
    generalize upd H4 A1 (.lst [.ref a, .ref b]) = H5 at kA oA oa5 ob5 k05 ⊢
    refine ⟨_, rfl, F, es, rfl, .inl (k05 _ _ oF), fun L1 nL1 => ?_⟩
    rw [ekv]
    have kL := same_new (o := .lst ((qs.map (·.1)).map V.str)) nL1
    have oL : upd H5 L1 (.lst ((qs.map (·.1)).map V.str)) L1 = some (.lst ((qs.map (·.1)).map V.str)) := upd_same
    have oA6 := kL _ _ oA
    have oa6 := kL _ _ oa5
    have ob6 := kL _ _ ob5
    have k06 := k05.trans kL
    generalize upd H5 L1 (.lst ((qs.map (·.1)).map V.str)) = H6 at kL oL oA6 oa6 ob6 k06 ⊢
    refine ⟨_, rfl, (by show 2 ≤ sizeLine; decide), fun B1 nB => ?_⟩
    have kB := same_new (o := .lst [.ref L1, .ref un]) nB
    have k07 := k06.trans kB
    refine ⟨_, _, rfl, alk_two (kB _ _ oA6) upd_same (alk_strs (kB _ _ oa6) (kB _ _ oL) (by rw [List.length_map]; omega)) (alk_strs (kB _ _ ob6) (k07 _ _ ou) (by omega)), fun H8 k8 => ⟨_, rfl, iteF ?_⟩⟩
    have k08 := k07.trans k8
    clear k07 k06 kB nB
    refine ⟨_, rfl, x, dx, _, rfl, k08 _ _ hx0, rfl, x, us, qs, rfl, at_ k08, fun H9 q nq oq k9 => ⟨.inl ⟨rfl, _, SqL.of oq⟩, q, _, _, rfl, rfl, oq, by rw [sizeLine_eq, List.length_map, List.length_map]; omega, ?_⟩⟩
    have k010 : Same H1 (upd H9 q (.lst ((qs.map (·.1)).map V.str ++ [.str "more"]))) := fun b o e => by
      rw [upd_ne (ne_of_none (k08 _ _ e) nq)]
      exact k9 _ _ (k08 _ _ e)
    generalize upd H9 q (.lst ((qs.map (·.1)).map V.str ++ [.str "more"])) = H10 at k010 ⊢
    refine ⟨_, rfl, x, dx, _, rfl, k010 _ _ hx0, rfl, x, us, qs, rfl, at_ k010, fun H11 q' nq' oq' k11 => ⟨.inl ⟨rfl, _, SqL.of oq'⟩, q', _, _, rfl, rfl, oq', by rw [sizeLine_eq, List.length_map]; omega, ?_⟩⟩
    have k012 : Same H1 (upd H11 q' (.lst (us.map V.str ++ [.str "more"]))) := fun b o e => by
      rw [upd_ne (ne_of_none (k010 _ _ e) nq')]
      exact k11 _ _ (k010 _ _ e)
    generalize upd H11 q' (.lst (us.map V.str ++ [.str "more"])) = H12 at k012 ⊢
    -- row by row
    have oF12 := k012 _ _ oF
    refine ⟨F, _, oF12, trivial, fun od => ⟨_, rfl, F, od, rfl, .inl ⟨es, upd_same, for_it walk_keys (fun i σ H' => Same (upd H12 F (.frz od (.dK es))) H' ∧ ∃ s8 s9 s10 s11, σ = [s0, some (.ref l), s2, some (.ref un), some (.ref F), s5, s6, some (.ref x), s8, s9, s10, s11, s12, s13, s14, s15]) ⟨Same.refl _, _, _, _, _, rfl⟩ (fun i σ H' _ h => h.1 _ _ upd_same) ?_ ?_⟩⟩⟩
    · rintro j yk σ H13 H14 lj ⟨k13, s8, s9, s10, s11, rfl⟩ ⟨rfl, k0, v0, ekv0, rfl⟩
      have upL : ∀ b o, b ≠ F → H1 b = some o → H14 b = some o := fun b o nb e => k13 _ _ (by rw [upd_ne nb]; exact k012 _ _ e)
      obtain ⟨q, eq, hk, p, d, hv, ap, ad, op, od0⟩ := paired_get prF ekv0
      have hk : k0 = Sum.inr q.1 := hk
      have hv : v0 = .ref p := hv
      subst hk hv
      have op : H1 p = some (.tup [.ref d, .int q.2.2]) := op
      have od0 : H1 d = some (.dK (dkS q.2.1)) := od0
      have qin : (q.1, q.2) ∈ qs := List.mem_of_getElem? eq
      have ou14 := upL _ _ uF ou
      have hx14 := upL _ _ xF hx0
      have op14 := upL _ _ ap.2.2 op
      have od14 := upL _ _ ad.2.2 od0
      have oF14 := k13 _ _ upd_same
      have dg : ∀ {H' : Hp}, Same H14 H' → DGet H' F (.str q.1) (some (.ref p)) := fun s => .inl ⟨es, Sum.inr q.1, .inr ⟨od, s _ _ oF14⟩, rfl, (valV_atN ndes ekv0).symm⟩
      have ix0 : ∀ {H' : Hp} {i : Int} {v : V} {R : VK}, Same H14 H' → atI [V.ref d, .int q.2.2] i = some v → R v H' → rIx K (.ref p) (.int i) H' R := fun s e r => .inr (.inl ⟨p, _, _, _, rfl, rfl, SqT.of (s _ _ op14), e, r⟩)
      refine ⟨_, rfl, un, rfl, ⟨_, SqL.of ou14⟩, opt_lc us (dueG q.2.1) (by omega) (fun i H' s lt => ⟨us.map V.str, _, SqL.of (s _ _ ou14), List.getElem?_eq_getElem (by rw [List.length_map]; exact lt)⟩) (fun H' s => ⟨us.map V.str, SqL.of (s _ _ ou14), by rw [List.length_map]; exact Nat.le_refl _⟩) ?_ ?_⟩
      · rintro i v n H5 H6 Cn Nn en s5 ⟨rfl, ev⟩ yes no
        have ev := ev _ (SqL.of (s5 _ _ ou14))
        rw [List.getElem?_map, en] at ev
        obtain rfl : V.str n = v := Option.some.inj ev
        refine ⟨rfl, ?_⟩
        refine ⟨_, rfl, _, rfl, F, _, rfl, dg s5, ix0 s5 rfl ⟨d, rfl, .inl ⟨_, .inl (s5 _ _ od14)⟩, _, rfl, _, .inl ⟨_, Sum.inr n, .inl (s5 _ _ od14), rfl, rfl⟩, ?_⟩⟩
        rw [val_dkS]
        refine ⟨rfl, ?_⟩
        by_cases h : getZ q.2.1 n = 0
        · exact ⟨false, congrArg V.bl (show (!decide (V.int (getZ q.2.1 n) = V.int 0)) = false by rw [h]; simp), iteF (no (by unfold dueG; rw [if_pos h]) H6 (Same.refl _))⟩
        · refine ⟨true, congrArg V.bl (show (!decide (V.int (getZ q.2.1 n) = V.int 0)) = true by simp [h]), iteT ?_⟩
          refine ⟨_, rfl, _, rfl, _, rfl, F, _, rfl, dg s5, ix0 s5 rfl ⟨_, rfl, d, _, rfl, .inl ⟨_, Sum.inr n, .inl (s5 _ _ od14), rfl, (val_getZ h).symm⟩, (by show 2 ≤ sizeLine; decide), fun t nt => ?_⟩⟩
          exact yes (Sum.inr n) _ (by unfold dueG; rw [if_neg h]) t _ upd_same (same_new nt)
      · intro H15 L2 ts nL2 oL2 prL k15
        rw [due_rowZ] at prL
        refine ⟨L2, ts, dkS (rowZ us q.2.1), rfl, SqL.of oL2, Paired.mapP prL fun t e h => SqT.of h, fun dd ndd => ?_⟩
        rw [merge_nd (nd_dkS (rowZ_nd ok.und q.2.1))]
        have kdd := same_new (o := .dK (dkS (rowZ us q.2.1))) ndd
        have odd : upd H15 dd (.dK (dkS (rowZ us q.2.1))) dd = some (.dK (dkS (rowZ us q.2.1))) := upd_same
        have k1416 := k15.trans kdd
        generalize upd H15 dd (.dK (dkS (rowZ us q.2.1))) = H16 at odd k1416 ⊢
        have up16 : ∀ b o, b ≠ F → H1 b = some o → H16 b = some o := fun b o nb e => k1416 _ _ (upL b o nb e)
        have at16 : SumAt H16 C x us qs := (T1.hx.1.kp (A' := fun _ => True) (fun o e => up16 _ _ xF e) fun b o a e => ⟨trivial, up16 _ _ a.2.2 e⟩).at_
        refine ⟨_, rfl, x, dx, _, rfl, up16 _ _ xF hx0, rfl, _, rfl, x, us, qs, q.1, q.2, rfl, at16, ok.qnd, ok.und, by omega, qin, fun H17 tp d' ntp nd' k17 otp od' => ?_⟩
        have otp2 := otp
        refine ⟨_, rfl, _, _, _, _, true, rfl, .ty _, .base (.tup otp), kit_ty (by decide +kernel), _, rfl, iteF ?_⟩
        have ixt : ∀ {H' : Hp} {i : Int} {v : V} {R : VK}, Same H17 H' → atI [V.ref d', .int q.2.2] i = some v → R v H' → rIx K (.ref tp) (.int i) H' R := fun s e r => .inr (.inl ⟨tp, _, _, _, rfl, rfl, SqT.of (s _ _ otp), e, r⟩)
        refine ⟨_, rfl, ixt (Same.refl _) rfl ⟨d', _, rfl, od', fun H18 L3 ts3 k18 nL3 nts3 _ oL3 pr3 => ?_⟩⟩
        have k18 : Same H17 H18 := k18
        refine ⟨_, rfl, dd, _, rfl, k18 _ _ (k17 _ _ odd), fun H19 L4 ts4 k19 nL4 nts4 _ oL4 pr4 => ?_⟩
        have k19 : Same H18 H19 := k19
        refine ⟨rowZ us q.2.1, rowZ us q.2.1, .lst (SqL.of (k19 _ _ oL3)) (dp_items (Paired.mapP pr3 fun t e h => k19 _ _ h)), .lst (SqL.of oL4) (dp_items pr4), false, congrArg V.bl (by simp), iteF ?_⟩
        have k1719 := k18.trans k19
        have k1419 := (k1416.trans k17).trans k1719
        refine ⟨_, rfl, ixt k1719 rfl ⟨_, rfl, _, rfl, F, _, rfl, dg k1419, ix0 k1419 rfl ⟨_, _, rfl, (alk_one (.int _)).le (by decide), fun H20 k20 => ⟨_, rfl, iteF ?_⟩⟩⟩⟩
        have k1720 := k1719.trans k20
        have od20 := k1720 _ _ od'
        refine ⟨_, rfl, ixt k1720 rfl ⟨d', _, rfl, DPut.k (k := Sum.inr "more") od20 (by have := rowZ_len us q.2.1; unfold dkS; rw [sizeLine_eq, List.length_map]; omega), fun b o e => ?_, _, _, _, _, rfl⟩⟩
        have e16 := k1416 _ _ (k13 _ _ e)
        rw [upd_ne (ne_of_none e16 nd')]
        exact k1720 _ _ (k17 _ _ e16)
    · rintro σ H13 ⟨k13, s8, s9, s10, s11, rfl⟩
      obtain ⟨b1, k14⟩ := lock_offN oF12 k13
      exact ⟨b1, k012.trans k14, _, _, _, _, rfl⟩
  · rintro σ H2 ⟨k2, s8, s9, s10, s11, rfl⟩
    exact fin _ _ _ _ _ (T1.same k2)
end
end L2.TB
/-! the law: worlds -/
namespace L2.TB
open PySem PySem.Spec PyProof.Rows
theorem due_ans (kvs : List (Str × Int)) (us : List Str) : ∀ qs : List (Str × SideT), (∀ q ∈ qs, ansL kvs q.2 = ansZ us kvs q.2) → qs.filterMap (fun q => some ((Sum.inr q.1 : Key), V.int (ansL kvs q.2))) = dkS (qs.map fun q => (q.1, ansZ us kvs q.2))
  | [], _ => rfl
  | q :: qs, h => by
    rw [List.filterMap_cons_some (f := fun q : Str × SideT => some ((Sum.inr q.1 : Key), V.int (ansL kvs q.2))) (a := q) (b := ((Sum.inr q.1 : Key), V.int (ansL kvs q.2))) rfl, due_ans kvs us qs (fun z hz => h z (List.mem_cons_of_mem _ hz)), h q List.mem_cons_self]
    rfl
section
variable {P : Program} {w : World} {K : PySem.W.Frag} {mg : Str → Option Value} {base : Heap} {f C fI : Addr}
theorem turn_c (L : LawL P w K mg base C fI) {cdv : Value} {A : Around} {outer : List Env} {s : Shared} {H : Hp} {E : XK} (hr : Room 7 (A.deeper (envOfC "law" (defScope sLaw) s.heap.objs.size f cdv))) {rest : List Stmt} {u : TS} (hrest : PSs (cxOf CX0 P w K mg base NLw "law" (defScope sLaw) f cdv A outer s H E).nox rest u) :
    ∃ t, PSs (cxOf CX0 P w K mg base NLw "law" (defScope sLaw) f cdv A outer s H E).nox ((bodyT.drop 6).take 2 ++ rest) t ∧ ∀ (D : Ends) (H0 : Hp) (s0 s2 s5 s6 s8 s9 s10 s11 s12 s13 s14 s15 : Option V) (l ls un F x : Addr) (us : List Str) (qs : List (Str × SideT)) (N : Int), TSt C l ls un F x us qs N H0 → N ≤ 200000 →
      (∀ H' t10 t11 t12, TSt C l ls un F x us qs (N + 12) H' → u D [s0, some (.ref l), s2, some (.ref un), some (.ref F), s5, s6, some (.ref x), s8, s9, t10, t11, t12, s13, s14, s15] H') →
      t D [s0, some (.ref l), s2, some (.ref un), some (.ref F), s5, s6, some (.ref x), s8, s9, s10, s11, s12, s13, s14, s15] H0 := by
  obtain ⟨fW, fdW, gW, kW, bW, GW⟩ := L.world
  obtain ⟨fH, fdH, mH, bH, GH⟩ := L.home
  obtain ⟨fA, fdA, mA, bA, GA⟩ := L.answers
  obtain ⟨fN, fdN, gN, kN, bN, GN⟩ := L.ans
  obtain ⟨fI2, fdI2, gI2, kI2, bI2, GI2⟩ := L.isW
  obtain ⟨fS, fdS, gS, kS, bS, GS⟩ := L.same
  have S := L.S
  have nL := L.nL
  have nd := scLaw.nd
  have hu := hu_of (hr.mono (show 1 ≤ 7 by decide))
  have hu64 := hr.units
  refine ⟨_, pss_cons (ps_for PassesOwn.never rfl (pi_list (pe_lst (pa_cons (pe_call GW (hr.mono (by decide)) rfl gW kW bW .nil pass0 (pa_cons (pv 1) (pa_cons (pv 3) (pa_cons pe_bl pa_nil)))) (pa_cons (pe_meth0 (pv 7) S.cl mH GH (hr.mono (by decide)) bH .nil pass0) pa_nil)))) (pg_name (i := 12) nd rfl (Or.inr rfl))
      (pss_cons (ps_set (i := 11) nd rfl (Or.inl rfl) (pe_meth (pv 7) S.cl mA GA (hr.mono (by decide)) bA .nil pass0 (pa_cons (pv 12) pa_nil)))
      (pss_cons (ps_lock (ps_setLc (i := 10) (own := [("name", 8)]) (tt := tYes) (g := gName 8) (te := tTup (tCons (tVar 8) (tCons (tCall spAnswerL [] E0 (tCons (tDGet (tVar 4) (tVar 8)) (tCons (tVar 12) tNil))) tNil))) rfl nd rfl rfl (sw_true rfl rfl rfl (by decide +kernel)) (pi_keys (pv 4)) (blkOk_by (N := NLw) (sc := defScope sLaw) (by decide +kernel)) (fun _ _ _ _ _ => pg_name (i := 8) nd rfl (Or.inl rfl)) (fun _ _ _ _ _ => pts_nil)
          (fun _ _ _ _ _ => pe_tup (pa_cons (pv 8) (pa_cons (pe_call GN (hr.mono (by decide)) rfl gN kN bN .nil pass0 (pa_cons (pe_dget hu (pv 4) (pv 8) (fun _ _ => rfl)) (pa_cons (pv 12) pa_nil))) pa_nil)))))
      (pss_one (ps_if (PW.pt (pw_or (pt_not (pt_val (pe_call GS (hr.mono (by decide)) rfl gS kS bS .nil pass0 (pa_cons (LiI.pe_listItems rfl (pv 11) rfl nL boot_list') (pa_cons (pv 10) pa_nil))))) (pw_or1 (pt_not (pt_val (pe_call GI2 (hr.mono (by decide)) rfl gI2 kI2 bI2 .nil pass0 (pa_cons (pv 3) (pa_cons (pv 12) pa_nil)))))))) (pss_one ps_never) pss_nil)))))
    (pss_cons (ps_if (pt_cmpR (op_neT (α := List Str) (by decide) hu64) (pe_callTy (call_listD rfl) rfl nL boot_list' (pa_cons (pe_meth0 (pv 7) S.cl mH GH (hr.mono (by decide)) bH .nil pass0) pa_nil)) (pv 3) (nomark _)) (pss_one ps_never) pss_nil) hrest), ?_⟩
  intro D H0 s0 s2 s5 s6 s8 s9 s10 s11 s12 s13 s14 s15 l ls un F x us qs N T0 hN fin
  have ok := T0.ok
  have l5 := ok.ql
  have ul := ok.ul
  refine ⟨_, rfl, _, rfl, l, ls, un, us, N, rfl, T0.S, by omega, T0.hu.1, T0.hu.2.1, T0.hu.2.2, ok.und, by omega, fun H1 w1 kv1 nw1 w1l w1s W1 kn1 S1 B1 => ?_⟩
  have T1 := T0.but B1 S1
  obtain ⟨dx, _, _, _, hx1, _⟩ := id T1.hx.1.ex
  refine ⟨_, rfl, x, dx, _, rfl, hx1, rfl, x, us, qs, rfl, T1.hx.1.at_, ok.und, by omega, fun H2 w2 nw2 ow2 k2 => ?_⟩
  have aw2 := T1.S.apart (Same.refl _) nw2
  have nw2' := B1.free aw2 nw2
  have W2 : WldAt H2 w2 us (us.map fun n => (n, (0 : Int))) := ⟨ow2, by rw [List.map_map]; show (us.map fun n => n).Perm us; rw [List.map_id'], ok.und, by omega⟩
  have kn2 : ∀ e ∈ us.map (fun n => (n, (0 : Int))), NumOk e.2 := fun e he => by
    obtain ⟨n, _, rfl⟩ := List.mem_map.mp he
    exact ⟨by show (-200000000000000 : Int) ≤ 0; decide, by show (0 : Int) ≤ 200000000000000; decide⟩
  refine ⟨(by show 2 ≤ sizeLine; decide), fun o no => ?_⟩
  have ko := same_new (o := .lst [.ref w1, .ref w2]) no
  have oo : upd H2 o (.lst [.ref w1, .ref w2]) o = some (.lst [.ref w1, .ref w2]) := upd_same
  have T3 := (T1.same k2).same ko
  have W1 := (W1.same k2).same ko
  have W2 := W2.same ko
  generalize upd H2 o (.lst [.ref w1, .ref w2]) = H3 at ko oo T3 W1 W2
  have wall : ∀ v ∈ [V.ref w1, .ref w2], ∃ wd kvs, v = .ref wd ∧ WldAt H3 wd us kvs ∧ (∀ e ∈ kvs, NumOk e.2) ∧ H0 wd = none := fun v hv => by
    rcases List.mem_cons.mp hv with e | hv
    · exact ⟨w1, kv1, e, W1, kn1, nw1⟩
    · exact ⟨w2, _, List.mem_singleton.mp hv, W2, kn2, nw2'⟩
  obtain ⟨es, oF, prF⟩ := id T3.hF.1
  have les : es.length = qs.length := Paired.length prF
  have ndes := nd_side prF ok.qnd
  obtain ⟨es0, oF0, prF0⟩ := id T0.hF.1
  refine ⟨o, rfl, ⟨_, SqL.of oo⟩, for_list (xs := [V.ref w1, .ref w2]) (fun i σ H' => Same H3 H' ∧ ∃ s10 s11 s12, σ = [s0, some (.ref l), s2, some (.ref un), some (.ref F), s5, s6, some (.ref x), s8, s9, s10, s11, s12, s13, s14, s15]) ⟨Same.refl _, _, _, _, rfl⟩ (fun i σ H' _ h => SqL.of (h.1 _ _ oo)) ?_ ?_⟩
  · rintro i v σ H4 ev ⟨k4, s10, s11, s12, rfl⟩
    obtain ⟨wd, kvs, rfl, W, kn, nw0⟩ := wall v (List.mem_of_getElem? ev)
    have T4 := T3.same k4
    obtain ⟨dx4, _, _, _, hx4, _⟩ := id T4.hx.1.ex
    refine ⟨_, rfl, x, dx4, _, rfl, hx4, rfl, _, rfl, x, wd, us, qs, kvs, rfl, T4.hx.1.at_, W.same k4, ok.qnd, by omega, ok.s, fun H5 tl ntl k5 otl => ?_⟩
    have k35 := k4.trans k5
    have oF5 := k35 _ _ oF
    -- what is due
    refine ⟨F, _, oF5, trivial, fun od => ⟨_, rfl, F, od, rfl, .inl ⟨es, upd_same, ?_⟩⟩⟩
    have oL : upd H5 F (.frz od (.dK es)) F = some (.frz od (.dK es)) := upd_same
    refine opt_lc qs (fun q => some ((Sum.inr q.1 : Key), V.int (ansL kvs q.2))) (by omega) (fun i H' s lt => ⟨s _ _ oL, by rw [les]; exact lt⟩) (fun H' s => ⟨s _ _ oL, by rw [les]; exact Nat.le_refl _⟩) ?_ ?_
    · rintro i v q H6 H7 Cn Nn eq s6 ⟨rfl, k0, v0, ekv, rfl⟩ yes no
      obtain ⟨q', eq', hk, p, d, hv, ap, ad, op, od0⟩ := paired_get prF ekv
      rw [eq] at eq'
      obtain rfl := Option.some.inj eq'
      have hk : k0 = Sum.inr q.1 := hk
      have hv : v0 = .ref p := hv
      subst hk hv
      have op : H3 p = some (.tup [.ref d, .int q.2.2]) := op
      have od0 : H3 d = some (.dK (dkS q.2.1)) := od0
      have up : ∀ b o, b ≠ F → H3 b = some o → H7 b = some o := fun b o nb e => s6 _ _ (by rw [upd_ne nb]; exact k35 _ _ e)
      have so := ok.s q (List.mem_of_getElem? eq)
      have sl := sub_len so.nd so.sub
      -- the row stood before the world did
      have dw : d ≠ wd := fun z => by
        obtain ⟨j, ej⟩ := List.getElem?_of_mem (List.mem_of_getElem? eq)
        have lj : j < es0.length := by
          have := (List.getElem?_eq_some_iff.mp ej).1
          rw [Paired.length prF0]
          exact this
        obtain ⟨q2, eq2, hk2, p2, d2, hv2, ap2, ad2, op2, od2⟩ := paired_get prF0 (List.getElem?_eq_getElem lj)
        have F0 := (B1.trans (.of (k2.trans ko)))
        have oFz := F0 _ _ T0.hF.2.1 T0.hF.2.2 oF0
        rw [oF] at oFz
        obtain rfl : es = es0 := HO.dK.inj (Option.some.inj oFz)
        rw [ej] at eq2
        obtain rfl := Option.some.inj eq2
        have li : i < es.length := (List.getElem?_eq_some_iff.mp ekv).1
        obtain ⟨q3, eq3, hk3, p3, d3, hv3, ap3, ad3, op3, od3⟩ := paired_get prF0 ekv
        have hv3 : V.ref p = .ref p3 := hv3
        obtain rfl := V.ref.inj hv3
        have o4 := F0 _ _ ap3.1 ap3.2.1 op3
        rw [op] at o4
        have e5 := HO.tup.inj (Option.some.inj o4)
        obtain rfl : d = d3 := V.ref.inj (List.cons.inj e5).1
        rw [z, nw0] at od3
        cases od3
      have wF : wd ≠ F := fun z => by rw [z, oF0] at nw0; cases nw0
      have W7 : WldAt H7 wd us kvs := ⟨up _ _ wF W.o, W.pm, W.nd, W.sh⟩
      refine ⟨rfl, ?_⟩
      refine ⟨_, rfl, _, rfl, _, rfl, F, _, rfl, .inl ⟨es, Sum.inr q.1, .inr ⟨od, s6 _ _ oL⟩, rfl, (valV_atN ndes ekv).symm⟩, _, rfl, p, d, wd, us, q.2, kvs, rfl, up _ _ ap.2.2 op, up _ _ ad.2.2 od0, so, by omega, W7, kn, dw, fun H8 k8 => ⟨(by show 2 ≤ sizeLine; decide), fun t nt => ?_⟩⟩
      exact yes _ _ rfl t _ upd_same (k8.trans (same_new nt))
    · intro H6 D2 ts nD2 oD2 pr2 s6
      obtain ⟨b1, s56⟩ := lock_offN oF5 s6
      refine ⟨b1, ?_⟩
      rw [due_ans kvs us qs (fun q hq => ans_eq ok.und (ok.s q hq))] at pr2
      have nof : ∀ {b : Addr} {o : HO}, H6 b = some o → (∀ a f, o ≠ .frz a f) → upd H6 F (.dK es) b = some o := fun h n => by
        rw [upd_ne (fun z => by rw [z, b1] at h; exact n _ _ (Option.some.inj h).symm)]
        exact h
      have oD3 := nof oD2 (fun _ _ z => by cases z)
      have pr3 : Paired (fun (t : Addr) (q : Key × V) => upd H6 F (.dK es) t = some (.tup [kV q.1, q.2])) ts (dkS (qs.map fun q => (q.1, ansZ us kvs q.2))) := Paired.mapP pr2 fun t e h => nof h (fun _ _ z => by cases z)
      generalize upd H6 F (.dK es) = H7 at oD3 pr3 s56 ⊢
      refine ⟨_, rfl, tl, _, rfl, s56 _ _ otl, fun H8 L3 ts3 k8 nL3 nts3 _ oL3 pr4 => ?_⟩
      have k8 : Same H7 H8 := k8
      refine ⟨_, rfl, _, _, rfl, alk_pairs oL3 (k8 _ _ oD3) (by rw [List.length_map]; omega) pr4 (Paired.mapP pr3 fun t e h => k8 _ _ h), fun H9 k9 => ⟨_, rfl, iteF ?_⟩⟩
      have k39 := ((k35.trans s56).trans k8).trans k9
      refine ⟨_, rfl, _, rfl, un, wd, us, kvs, rfl, k39 _ _ T3.hu.1, W.same k39, fun H10 k10 => ⟨_, rfl, iteF ⟨k39.trans k10, _, _, _, rfl⟩⟩⟩
  · rintro σ H4 ⟨k4, s10, s11, s12, rfl⟩
    have T4 := T3.same k4
    obtain ⟨dx4, _, _, _, hx4, _⟩ := id T4.hx.1.ex
    refine ⟨_, rfl, x, dx4, _, rfl, hx4, rfl, x, us, qs, rfl, T4.hx.1.at_, ok.und, by omega, fun H5 hm nhm ohm k5 => ?_⟩
    refine ⟨hm, _, rfl, .inl ohm, fun lh nlh => ?_⟩
    have ek : ((dkS (us.map fun n => (n, (0 : Int)))).map fun kv => kV kv.1) = us.map V.str := by
      unfold dkS
      rw [List.map_map, List.map_map]
      rfl
    rw [ek]
    have klh := same_new (o := .lst (us.map V.str)) nlh
    have T6 := (T4.same k5).same klh
    refine ⟨_, rfl, us, us, dp_strL upd_same, dp_strL T6.hu.1, false, congrArg V.bl (by simp), iteF ?_⟩
    exact fin _ _ _ _ ⟨T6.S.mono (by omega), T6.hu, T6.hF, T6.hx, T6.ok⟩
end
end L2.TB
/-! the law: equal fields and others; the law -/
namespace L2.TB
open PySem PySem.Spec PyProof.Rows
def spLawT (K : PySem.W.Frag) : Sp := fun vs H Q _ => ∃ (a : Addr) (ns : List Int), vs = [.ref a] ∧ SqL K H a (ns.map V.int) ∧ ns.length ≤ 63 ∧ ∀ H', Q (.bl true) H'
section
variable {P : Program} {w : World} {K : PySem.W.Frag} {mg : Str → Option Value} {base : Heap} {f C fI : Addr} {fd : FuncData}
theorem turn_d (L : LawL P w K mg base C fI) {cdv : Value} {A : Around} {outer : List Env} {s : Shared} {H : Hp} {E : XK} (hr : Room 7 (A.deeper (envOfC "law" (defScope sLaw) s.heap.objs.size f cdv))) :
    ∃ t, PSs (cxOf CX0 P w K mg base NLw "law" (defScope sLaw) f cdv A outer s H E).nox (bodyT.drop 8) t ∧ ∀ (D : Ends) (H0 : Hp) (s0 s2 s5 s6 s8 s9 s10 s11 s12 s13 s14 s15 : Option V) (l ls un F x : Addr) (us : List Str) (qs : List (Str × SideT)) (N : Int), TSt C l ls un F x us qs N H0 → N ≤ 200000 →
      (∀ H' t13, Strm H' l ls (N + 261) → D.nx [s0, some (.ref l), s2, some (.ref un), some (.ref F), s5, s6, some (.ref x), s8, s9, s10, s11, s12, t13, s14, s15] H') →
      t D [s0, some (.ref l), s2, some (.ref un), some (.ref F), s5, s6, some (.ref x), s8, s9, s10, s11, s12, s13, s14, s15] H0 := by
  obtain ⟨fdI, bI, GI⟩ := L.init
  obtain ⟨fE, fdE, mE, bE, GE, GO⟩ := L.O.eq
  obtain ⟨fO, fdO, gO, kO, bO, GOt⟩ := L.others
  obtain ⟨fM, fdM, gM, kM, bM, GM⟩ := L.made
  have gC := L.O.gC
  have Mk := L.O.made
  have nd := scLaw.nd
  have hu := hu_of (hr.mono (show 1 ≤ 7 by decide))
  refine ⟨_, pss_cons (ps_if (PW.pt (pw_or (pt_cmpR (op_neI (E := E0) GE (hr.mono (by decide)) mE L.O.ne L.O.ob bE pass0) (pv 7) (pe_make Mk GI (hr.mono (by decide)) rfl gC bI .nil pass0 (pa_cons (pv 3) (pa_cons (pv 4) pa_nil))) (nomark _))
        (pw_or1 (pt_val (pe_callB (cr_any rfl) rfl L.nY boot_anyN (pa_cons (pe_lc (own := [("thing", 15)]) (tt := tYes) (g := gName 15) (te := tOp (rEqO K C (spSEqO K C) E0) (tVar 7) (tVar 15)) rfl nd (pi_seq (pe_tup (pa_cons pe_non (pa_cons (pv 4) (pa_cons pe_int pa_nil))))) (blkOk_by (N := NLw) (sc := defScope sLaw) (by decide +kernel)) (fun _ _ _ _ _ => pg_name (i := 15) nd rfl (Or.inl rfl)) (fun _ _ _ _ _ => pts_nil)
          (fun _ _ _ _ _ => pe_cmpR (r := rEqO K C (spSEqO K C) E0) (op_eqO (k := 1) (E := E0) GO (hr.mono (by decide)) mE bE pass0) (pv 7) (pv 15) (nomark _))) pa_nil)))))) (pss_one ps_never) pss_nil)
    (pss_cons (ps_for PassesOwn.never rfl (pi_list (pe_call GOt (hr.mono (by decide)) rfl gO kO bO .nil pass0 (pa_cons (pv 1) (pa_cons (pv 3) (pa_cons (pv 4) pa_nil))))) (pg_name (i := 13) nd rfl (Or.inl rfl))
      (pss_one (ps_if (pt_cmpR (op_eqI (E := E0) GE (hr.mono (by decide)) mE bE pass0) (pv 7) (pe_make Mk GI (hr.mono (by decide)) rfl gC bI .nil pass0 (pa_cons (pe_ix (r := rIx K) ix_seq (pv 13) pe_int (fun _ _ => rfl)) (pa_cons (pe_ix (r := rIx K) ix_seq (pv 13) pe_int (fun _ _ => rfl)) pa_nil))) (nomark _)) (pss_one ps_never) pss_nil)))
    (pss_one (ps_if (pt_not (pt_val (pe_call GM (hr.mono (by decide)) rfl gM kM bM .nil pass0 (pa_cons (pv 1) pa_nil)))) (pss_one ps_never) pss_nil))), ?_⟩
  intro D H0 s0 s2 s5 s6 s8 s9 s10 s11 s12 s13 s14 s15 l ls un F x us qs N T0 hN fin
  have ok := T0.ok
  have g0 := ok.g
  have hand : ∀ {H' : Hp} {A : Addr → Prop} {es : List (Key × V)} {qs' : List (Str × SideT)}, Paired (SideE A H') es qs' → Paired (HandE K H') es qs' := fun h => Paired.mapP h fun e q h => by
    obtain ⟨h1, p, d, h2, _, _, o1, o2⟩ := h
    exact ⟨h1, p, d, h2, .inr o1, o2⟩
  have cmp : ∀ {H' : Hp} {N' : Int} {y : Addr} {us' : List Str} {qs' : List (Str × SideT)} {R : VK} (gb : Bool → Bool), TSt C l ls un F x us qs N' H' → SumAt H' C y us' qs' → (∀ H2, Same H' H2 → R (.bl (gb (decide (us = us') && decide (keptD us qs = keptD us' qs')))) H2) → rEqI C (spSEq C) E0 gb (.ref x) (.ref y) H' R := fun gb T' Ty hR => by
    obtain ⟨dx, _, _, _, hx', _⟩ := id T'.hx.1.ex
    obtain ⟨dy, _, _, _, hy', _⟩ := id Ty.ex
    exact ⟨x, _, dx, dy, _, _, rfl, rfl, hx', hy', x, _, us, _, qs, _, rfl, T'.hx.1.at_, Ty, fun H2 k2 => ⟨_, rfl, hR H2 k2⟩⟩
  obtain ⟨es, oF, prF⟩ := id T0.hF.1
  refine ⟨_, rfl, _, rfl, _, rfl, made_su (.inl T0.hu.1) oF (hand prF) g0 fun H1 y1 ny1 Ty1 k1 => cmp _ (T0.same k1) Ty1.at_ fun H2 k2 => ⟨_, rfl, ?_⟩⟩
  rw [decide_eq_true rfl, decide_eq_true rfl]
  refine iteF ?_
  have T2 := (T0.same k1).same k2
  -- things of other kinds
  refine ⟨_, rfl, (by show 3 ≤ sizeLine; decide), fun c nc => ?_⟩
  have kc := same_new (o := .tup [.non, .ref F, .int 5]) nc
  have oc : upd H2 c (.tup [.non, .ref F, .int 5]) c = some (.tup [.non, .ref F, .int 5]) := upd_same
  have T3 := T2.same kc
  have k03 := (k1.trans k2).trans kc
  generalize upd H2 c (.tup [.non, .ref F, .int 5]) = H3 at oc T3 k03 ⊢
  refine ⟨c, _, rfl, .inr ⟨SqT.of oc, ?_⟩⟩
  refine lc_gen ((List.replicate 3 false).map V.bl) (by show 3 < 1000000; decide) (fun i H' s lt => ⟨_, _, SqT.of (s _ _ oc), List.getElem?_eq_getElem (by simpa using lt)⟩) (fun H' s => ⟨_, SqT.of (s _ _ oc), by show 3 ≤ 3; decide⟩) ?_ ?_
  · rintro i v y' H5 H6 Cn Nn ey s5 ⟨rfl, ev⟩ yes
    have ev := ev _ (SqT.of (s5 _ _ oc))
    obtain rfl : y' = .bl false := by
      rw [List.getElem?_map, List.getElem?_replicate] at ey
      by_cases c7 : i < 3
      · rw [if_pos c7] at ey
        exact (Option.some.inj ey).symm
      · rw [if_neg c7] at ey
        cases ey
    have T6 := T3.same s5
    obtain ⟨dx, _, _, _, hx', _⟩ := id T6.hx.1.ex
    obtain ⟨t, ht, ty⟩ : ∃ t : String, t ∈ ["NoneType", "int", "dict"] ∧ TyX K H6 v (.type t) := by
      have m := List.mem_of_getElem? ev
      simp only [List.mem_cons, List.not_mem_nil, or_false] at m
      rcases m with rfl | rfl | rfl
      · exact ⟨"NoneType", by simp, .base .non⟩
      · exact ⟨"dict", by simp, .base (.dK (s5 _ _ (k03 _ _ oF)))⟩
      · exact ⟨"int", by simp, .base (.int 5)⟩
    refine ⟨rfl, ?_⟩
    exact ⟨_, rfl, _, rfl, x, dx, _, .type t, rfl, hx', ty, (L.O.far t ht).1, x, v, .type t, rfl, ty, (L.O.far t ht).2, _, rfl, yes H6 (Same.refl _)⟩
  intro H5 D2 nD2 oD2 s5
  refine ⟨D2, _, rfl, SqL.of oD2, _, rfl, ?_⟩
  have e3 : (List.replicate 3 false).any id = false := by decide
  rw [e3]
  refine iteF ?_
  have T5 := T3.same s5
  clear T2 T3 k03 oc s5 oD2 nD2 ny1 Ty1 nc kc k1 k2
  -- the other ones
  refine ⟨_, rfl, _, rfl, _, rfl, l, ls, un, F, us, qs, _, rfl, T5.S, by omega, T5.hu.1, T5.hu.2.1, T5.hu.2.2, T5.hF.1.kp (fun o e => e) (fun b o a e => ⟨⟨a.1, a.2.1⟩, e⟩), T5.hF.2.1, T5.hF.2.2, ok, fun H6 q ts nq oq hot S6 B6 => ?_⟩
  have T6 := T5.but B6 S6
  refine ⟨q, rfl, ⟨_, SqL.of oq⟩, for_list (xs := ts.map V.ref) (fun i σ H' => Same H6 H' ∧ ∃ s13, σ = [s0, some (.ref l), s2, some (.ref un), some (.ref F), s5, s6, some (.ref x), s8, s9, s10, s11, s12, s13, s14, s15]) ⟨Same.refl _, _, rfl⟩ (fun i σ H' _ h => SqL.of (h.1 _ _ oq)) ?_ ?_⟩
  · rintro i v σ H7 ev ⟨k7, s13, rfl⟩
    rw [List.getElem?_map] at ev
    obtain ⟨t, et, rfl⟩ := Option.map_eq_some_iff.mp ev
    obtain ⟨ui, Fi, us', qs', _, _, _, ot, oui, ⟨es', oFi, pri⟩, gi, ne⟩ := hot t (List.mem_of_getElem? et)
    have T7 := T6.same k7
    have ixt : ∀ {H' : Hp} {j : Int} {v : V} {R : VK}, Same H6 H' → atI [V.ref ui, .ref Fi] j = some v → R v H' → rIx K (.ref t) (.int j) H' R := fun s e r => .inr (.inl ⟨t, _, _, _, rfl, rfl, SqT.of (s _ _ ot), e, r⟩)
    refine ⟨_, rfl, _, rfl, ixt k7 rfl ⟨_, rfl, ixt k7 rfl (made_su (.inl (k7 _ _ oui)) (k7 _ _ oFi) (hand (Paired.mapP pri fun e q h => h.kp fun b o a e => ⟨a, k7 _ _ e⟩)) gi fun H8 y2 ny2 Ty2 k8 => cmp _ (T7.same k8) Ty2.at_ fun H9 k9 => ⟨_, rfl, ?_⟩)⟩⟩
    have e4 : (decide (us = us') && decide (keptD us qs = keptD us' qs')) = false := by
      rcases ne with h | h
      · rw [decide_eq_false h]; rfl
      · rw [decide_eq_false h, Bool.and_false]
    rw [e4]
    exact iteF ⟨(k7.trans k8).trans k9, _, rfl⟩
  · rintro σ H7 ⟨k7, s13, rfl⟩
    have S7 := S6.same k7
    refine ⟨_, rfl, l, ls, _, rfl, S7, by omega, fun H8 S8 B8 => ⟨_, rfl, iteF ?_⟩⟩
    exact fin H8 _ (S8.mono (by omega))
theorem ok_law (F : Fun K "law" "law" sLaw f fd) (L : LawL P w K mg base C fI) : FnOk P w K mg base CX0 8 f fd ["script"] (spLawT K) := by
  obtain ⟨fS, fdS, gS, FS⟩ := L.start
  have GS : FnOk P w K mg base CX0 1 fS fdS ["script"] (spStart K) := ok_start FS L.nL
  have bS := FS.binds (ps := ["script"]) fun _ _ _ _ _ _ us hl => match us, hl with | [_], _ => rfl
  refine F.ok scLaw (fun vs H Q E h => by obtain ⟨a, ns, e, _⟩ := h; rw [e]; rfl) fun cdv A outer s H vs Q E hr hsp => ?_
  obtain ⟨a, cs, rfl, hS, hn, hq⟩ := hsp
  have nd := scLaw.nd
  obtain ⟨tD, pD, rD⟩ := turn_d L (outer := outer) (H := H) (E := E) hr
  obtain ⟨tC, pC, rC⟩ := turn_c L (outer := outer) (H := H) (E := E) hr pD
  obtain ⟨tB, pB, rB⟩ := turn_b L (outer := outer) (H := H) (E := E) hr pC
  obtain ⟨tA, pA, rA⟩ := turn_a L (outer := outer) (H := H) (E := E) hr pB
  refine ⟨_, pss_cons (ps_set (i := 1) nd rfl (Or.inl rfl) (pe_call GS (hr.mono (by decide)) rfl gS FS.kp bS .nil pass0 (pa_cons (pv 0) pa_nil)))
    (pss_cons (ps_for PassesOwn.never rfl (pi_range1 rfl L.nR (pa_cons pe_int pa_nil)) (pg_name (i := 2) nd rfl (Or.inl rfl)) pA)
    (pss_one (ps_ret pe_bl))), ?_⟩
  refine ⟨_, rfl, a, cs, rfl, hS, by omega, fun H1 l ls nl k1 S1 nls => ?_⟩
  refine ⟨5, rfl, by decide, by decide, for_range (n := 5) (fun i σ H' => Strm H' l ls (500 * (i : Int)) ∧ ∃ s2 s3 s4 s5 s6 s7 s8 s9 s10 s11 s12 s13 s14 s15, σ = [some (.ref a), some (.ref l), s2, s3, s4, s5, s6, s7, s8, s9, s10, s11, s12, s13, s14, s15])
    ⟨by simpa using S1, _, _, _, _, _, _, _, _, _, _, _, _, _, _, rfl⟩ ?_ ?_⟩
  · rintro i σ H2 hi ⟨S2, s2, s3, s4, s5, s6, s7, s8, s9, s10, s11, s12, s13, s14, s15, rfl⟩
    refine rA _ H2 _ _ s3 s4 s5 s6 s7 s8 s9 s10 s11 s12 s13 s14 s15 l ls _ S2 (by omega) fun H3 un F x us qs t5 t6 t8 T3 => ?_
    refine rB _ H3 _ _ t5 t6 t8 s9 s10 s11 s12 s13 s14 s15 l ls un F x us qs _ T3 fun H4 u8 u9 u10 u11 T4 => ?_
    refine rC _ H4 _ _ t5 t6 u8 u9 u10 u11 s12 s13 s14 s15 l ls un F x us qs _ T4 (by omega) fun H5 v10 v11 v12 T5 => ?_
    refine rD _ H5 _ _ t5 t6 u8 u9 v10 v11 v12 s13 s14 s15 l ls un F x us qs _ T5 (by omega) fun H6 t13 S6 => ?_
    exact ⟨S6.mono (by omega), _, _, _, _, _, _, _, _, _, _, _, _, _, _, rfl⟩
  · rintro σ H2 ⟨S2, s2, s3, s4, s5, s6, s7, s8, s9, s10, s11, s12, s13, s14, s15, rfl⟩
    exact hq H2
end
end L2.TB
namespace L2.TB
open PySem PySem.Spec PyProof.Rows
section
variable {K : PySem.W.Frag} {h : Heap} {mg : Str → Option Value}
theorem fun_ofD {x q : Str} {st : Stmt} {f : Addr} {fd : FuncData} (F : FunD K x q (defArgs st) (defBody st) (defScope st) [] [] f fd) : Fun K x q st f fd := by
  obtain ⟨⟨oc, od, dV, kV, doc, pm, an, cdv, ct, osl, e, lk, hc, hd, hk⟩, kp⟩ := F
  obtain rfl : dV = .none := hd.elim (fun z => z.2) fun z => absurd rfl z.1
  exact ⟨⟨oc, od, kV, doc, pm, an, cdv, ct, osl, e, lk, hc⟩, kp⟩
theorem def_at (c : He.SaysD faT fnT K) (X : K.In h) (G : h.Ns mainGlobals mg) (i k : Nat) {x : Str} {st : Stmt} (ei : faT[i]? = some (.glo x)) (ek : fnT[k]? = some (dd (x, none) x x st [])) :
    mg x = some (.ref (He.ga K x)) ∧ ∃ fd, Fun K x x st (He.ga K x) fd := by
  obtain ⟨fd, F⟩ := c.def_ k ek
  exact ⟨He.glo_ok X G (c.fact i ei), fd, fun_ofD F⟩
theorem defB_at (c : He.SaysD faT fnT K) (X : K.In h) (G : h.Ns mainGlobals mg) (i k : Nat) {x : Str} {st : Stmt} (ei : faT[i]? = some (.glo x)) (ek : fnT[k]? = some (dd (x, none) x x st [.bl false])) :
    mg x = some (.ref (He.ga K x)) ∧ ∃ fd, FunD K x x (defArgs st) (defBody st) (defScope st) [.bl false] [] (He.ga K x) fd := by
  obtain ⟨fd, F⟩ := c.def_ k ek
  exact ⟨He.glo_ok X G (c.fact i ei), fd, F⟩
theorem cmeth_at (c : He.SaysD faT fnT K) (i k : Nat) {C m q : Str} {st : Stmt} (ei : faT[i]? = some (.meth C m)) (ek : fnT[k]? = some (dd (C, some m) m q st [])) :
    Meth K (He.ga K C) m (He.ma K (He.ga K C) m) ∧ ∃ fd, Fun K m q st (He.ma K (He.ga K C) m) fd := by
  obtain ⟨fd, F⟩ := c.def_ k ek
  exact ⟨He.meth_ok (c.fact i ei), fd, fun_ofD F⟩
theorem init_at (c : He.SaysD faT fnT K) (k : Nat) {C q : Str} {st : Stmt} (ek : fnT[k]? = some (dd (C, some "__init__") "__init__" q st [])) : ∃ fd, Fun K "__init__" q st (He.ma K (He.ga K C) "__init__") fd := by
  obtain ⟨fd, F⟩ := c.def_ k ek
  exact ⟨fd, fun_ofD F⟩
theorem bindsB {x : Str} {st : Stmt} {f : Addr} {fd : FuncData} {ps : List Str} (F : FunD K x x (defArgs st) (defBody st) (defScope st) [.bl false] [] f fd) (h : ∀ (T : Addr) (kV doc pm : Value) (an : Option Addr) (cdv ct : Value) (us its : List Value), us.length = ps.length → its.length = [V.bl false].length → ∃ k, bindArgs (PySem.W.fnOf x x (defArgs st) (defBody st) (defScope st) (.ref T) kV doc pm an cdv ct) ⟨us, []⟩ = seqItems? (.ref T) >>= k ∧ k (some its.toArray) = pure (ps.zip (us ++ its.drop 1))) :
    Binds K fd ps [] := by
  obtain ⟨ds, r, b⟩ := F.binds1 (ps := ps) ps.length 1 (by simp) (by simp) h
  cases r
  exact b
/-- of a class with an own == -/
theorem own_ok {C : Addr} (cl : Cls K C) (h : ownQ K C = true) : C8.InsC K C ∧ PySem.W.findIn K (.ref C) "__ne__" = some (some (.builtin "object.__ne__")) ∧ PySem.W.mroIn K C (.type "object") = some true ∧ ∀ t ∈ ["NoneType", "int", "dict"], PySem.W.notFirst K C (.type t) = true ∧ PySem.W.kitOne K (.type t) (.ref C) = some false := by
  obtain ⟨h1, h2⟩ := He.ba h
  obtain ⟨h3, h4⟩ := He.ba h2
  obtain ⟨v1, h5⟩ := He.ba h1
  obtain ⟨v2, h6⟩ := He.ba h5
  obtain ⟨v3, v4⟩ := He.ba h6
  refine ⟨⟨cl, He.eqO_ok v1, He.eqO_ok v2, of_decide_eq_true v3, of_decide_eq_true v4, by unfold PySem.W.kitOne; rw [if_pos (by simp)]⟩, He.eqO_ok h3, of_decide_eq_true v4, fun t ht => ?_⟩
  obtain ⟨z1, z2⟩ := He.ba (List.all_eq_true.mp h4 t ht)
  exact ⟨z1, of_decide_eq_true z2⟩
end
theorem facts {P : Program} {w : World} {K : PySem.W.Frag} {h : Heap} {mg : Str → Option Value} {f : Addr} (X : K.In h) (G : h.Ns mainGlobals mg) (hfa : mg ("law" : Str) = some (.ref f)) (cc : SaysK h K) :
    ∃ fd : FuncData, (∀ (s : Shared) (v : Value), BindsTo s fd ⟨[v], []⟩ [("script", v)]) ∧ ∀ base : Heap, K.In base → base.Ns mainGlobals mg → (∀ p ∈ csL K, LamX.TabB base mg p.1 p.2) → FnOk P w K mg base CX0 8 f fd ["script"] (spLawT K) := by
  have c := cc.d
  obtain ⟨gStart, dStart, FStart⟩ := def_at c X G 0 0 (x := "_law_start") (st := sStart) rfl rfl
  obtain ⟨gDraw, dDraw, FDraw⟩ := def_at c X G 1 1 (x := "_law_draw") (st := sDraw) rfl rfl
  obtain ⟨gPick, dPick, FPick⟩ := def_at c X G 2 2 (x := "_law_pick") (st := sPick) rfl rfl
  obtain ⟨gMixed, dMixed, FMixed⟩ := def_at c X G 3 3 (x := "_law_mixed") (st := sMixed) rfl rfl
  obtain ⟨gSame, dSame, FSame⟩ := def_at c X G 4 4 (x := "_law_same") (st := sSame) rfl rfl
  obtain ⟨gNameL, dNameL, FNameL⟩ := def_at c X G 5 5 (x := "_law_name") (st := sNameL) rfl rfl
  obtain ⟨gNamesL, dNamesL, FNamesL⟩ := def_at c X G 6 6 (x := "_law_names") (st := sNamesL) rfl rfl
  obtain ⟨gSpare, dSpare, FSpare⟩ := def_at c X G 7 7 (x := "_law_spare") (st := sSpare) rfl rfl
  obtain ⟨gSumsL, dSumsL, FSumsL⟩ := defB_at c X G 8 8 (x := "_law_s_sums") (st := sSumsL) rfl rfl
  obtain ⟨gHanded, dHanded, FHanded⟩ := def_at c X G 9 9 (x := "_law_s_handed") (st := sHanded) rfl rfl
  obtain ⟨gWorldL, dWorldL, FWorldL⟩ := defB_at c X G 10 10 (x := "_law_s_world") (st := sWorldL) rfl rfl
  obtain ⟨gAnswerL, dAnswerL, FAnswerL⟩ := def_at c X G 11 11 (x := "_law_s_answer") (st := sAnswerL) rfl rfl
  obtain ⟨gIsWorldL, dIsWorldL, FIsWorldL⟩ := def_at c X G 12 12 (x := "_law_s_is_world") (st := sIsWorldL) rfl rfl
  obtain ⟨gSharesL, dSharesL, FSharesL⟩ := def_at c X G 13 13 (x := "_law_s_shares") (st := sSharesL) rfl rfl
  obtain ⟨gNumber, dNumber, FNumber⟩ := def_at c X G 14 14 (x := "_law_s_number") (st := sNumber) rfl rfl
  obtain ⟨gOthers, dOthers, FOthers⟩ := def_at c X G 15 15 (x := "_law_s_others") (st := sOthers) rfl rfl
  obtain ⟨gShTold, dShTold, FShTold⟩ := def_at c X G 16 16 (x := "_law_s_shares_told") (st := sShTold) rfl rfl
  obtain ⟨gShMade, dShMade, FShMade⟩ := def_at c X G 17 17 (x := "_law_s_shares_made") (st := sShMade) rfl rfl
  obtain ⟨gLaw, dLaw, FLaw⟩ := def_at c X G 18 18 (x := "law") (st := sLaw) rfl rfl
  obtain ⟨gIsInt, dIsInt, FIsInt⟩ := def_at c X G 19 19 (x := "is_integer") (st := sIsInt) rfl rfl
  obtain ⟨gIsList, dIsList, FIsList⟩ := def_at c X G 20 20 (x := "is_list") (st := sIsList) rfl rfl
  obtain ⟨gIsPair, dIsPair, FIsPair⟩ := def_at c X G 21 21 (x := "is_pair") (st := sIsPair) rfl rfl
  obtain ⟨gIsName, dIsName, FIsName⟩ := def_at c X G 22 22 (x := "is_name") (st := sIsName) rfl rfl
  obtain ⟨gIsOne, dIsOne, FIsOne⟩ := def_at c X G 23 23 (x := "is_one_of") (st := sIsOne) rfl rfl
  obtain ⟨gHasJust, dHasJust, FHasJust⟩ := def_at c X G 24 24 (x := "has_just") (st := sHasJust) rfl rfl
  obtain ⟨gFirst, dFirst, FFirst⟩ := def_at c X G 25 25 (x := "first_bad") (st := sFirst) rfl rfl
  obtain ⟨gNoName, dNoName, FNoName⟩ := def_at c X G 26 26 (x := "first_no_name") (st := sNoName) rfl rfl
  obtain ⟨gCkK, dCkK, FCkK⟩ := def_at c X G 27 27 (x := "check_known") (st := sCkK) rfl rfl
  obtain ⟨gCkA, dCkA, FCkA⟩ := def_at c X G 28 28 (x := "check_asked") (st := sCkA) rfl rfl
  obtain ⟨gCkB, dCkB, FCkB⟩ := def_at c X G 29 29 (x := "check_both") (st := sCkB) rfl rfl
  obtain ⟨gCkLack, dCkLack, FCkLack⟩ := def_at c X G 30 30 (x := "check_lacking") (st := sCkLack) rfl rfl
  obtain ⟨gDot, dDot, FDot⟩ := def_at c X G 31 31 (x := "dot") (st := sDot) rfl rfl
  obtain ⟨gVec, dVec, FVec⟩ := def_at c X G 32 32 (x := "vector_of") (st := sVec) rfl rfl
  obtain ⟨gRem, dRem, FRem⟩ := def_at c X G 33 33 (x := "remainder") (st := sRem) rfl rfl
  obtain ⟨gIsSide, dIsSide, FIsSide⟩ := def_at c X G 34 34 (x := "_is_side") (st := sIsSide) rfl rfl
  obtain ⟨gIsRow, dIsRow, FIsRow⟩ := def_at c X G 35 35 (x := "is_row") (st := sIsRow) rfl rfl
  obtain ⟨gCkPrime, dCkPrime, FCkPrime⟩ := def_at c X G 36 36 (x := "_check_prime") (st := sCkPrime) rfl rfl
  obtain ⟨dInit, FInit⟩ := init_at c 37 (C := "Sums") (q := "Sums.__init__") (st := sInit) rfl
  obtain ⟨mEqM, dEqM, FEqM⟩ := cmeth_at c 59 38 (C := "Sums") (m := "__eq__") (q := "Sums.__eq__") (st := sEqM) rfl rfl
  obtain ⟨mQs, dQs, FQs⟩ := cmeth_at c 60 39 (C := "Sums") (m := "questions") (q := "Sums.questions") (st := sQs) rfl rfl
  obtain ⟨mHome, dHome, FHome⟩ := cmeth_at c 61 40 (C := "Sums") (m := "home") (q := "Sums.home") (st := sHome) rfl rfl
  obtain ⟨mAnswers, dAnswers, FAnswers⟩ := cmeth_at c 62 41 (C := "Sums") (m := "answers") (q := "Sums.answers") (st := sAnswers) rfl rfl
  obtain ⟨mUnk, dUnk, FUnk⟩ := cmeth_at c 63 42 (C := "Sums") (m := "unknowns") (q := "Sums.unknowns") (st := sUnk) rfl rfl
  obtain ⟨mRowM, dRowM, FRowM⟩ := cmeth_at c 64 43 (C := "Sums") (m := "row") (q := "Sums.row") (st := sRowM) rfl rfl
  obtain ⟨mIsWorld, dIsWorld, FIsWorld⟩ := cmeth_at c 65 44 (C := "Sums") (m := "_is_world") (q := "Sums._is_world") (st := sIsWorld) rfl rfl
  obtain ⟨dSInit, FSInit⟩ := init_at c 45 (C := "Shares") (q := "Shares.__init__") (st := sSInit) rfl
  obtain ⟨mSEq, dSEq, FSEq⟩ := cmeth_at c 70 46 (C := "Shares") (m := "__eq__") (q := "Shares.__eq__") (st := sSEq) rfl rfl
  obtain ⟨mSQs, dSQs, FSQs⟩ := cmeth_at c 71 47 (C := "Shares") (m := "questions") (q := "Shares.questions") (st := sSQs) rfl rfl
  obtain ⟨mSUnk, dSUnk, FSUnk⟩ := cmeth_at c 72 48 (C := "Shares") (m := "unknowns") (q := "Shares.unknowns") (st := sSUnk) rfl rfl
  obtain ⟨mSRow, dSRow, FSRow⟩ := cmeth_at c 73 49 (C := "Shares") (m := "row") (q := "Shares.row") (st := sSRow) rfl rfl
  have n_list : mg "list" = none := He.free_ok X G (c.fact 39 rfl)
  have n_len : mg "len" = none := He.free_ok X G (c.fact 40 rfl)
  have n_int : mg "int" = none := He.free_ok X G (c.fact 41 rfl)
  have n_range : mg "range" = none := He.free_ok X G (c.fact 42 rfl)
  have n_dict : mg "dict" = none := He.free_ok X G (c.fact 43 rfl)
  have n_tuple : mg "tuple" = none := He.free_ok X G (c.fact 44 rfl)
  have n_str : mg "str" = none := He.free_ok X G (c.fact 45 rfl)
  have n_bool : mg "bool" = none := He.free_ok X G (c.fact 46 rfl)
  have n_isinstance : mg "isinstance" = none := He.free_ok X G (c.fact 47 rfl)
  have n_all : mg "all" = none := He.free_ok X G (c.fact 48 rfl)
  have n_any : mg "any" = none := He.free_ok X G (c.fact 49 rfl)
  have n_enumerate : mg "enumerate" = none := He.free_ok X G (c.fact 50 rfl)
  have n_zip : mg "zip" = none := He.free_ok X G (c.fact 51 rfl)
  have n_sum : mg "sum" = none := He.free_ok X G (c.fact 52 rfl)
  have gC : mg "Sums" = some (.ref (He.ga K "Sums")) := He.glo_ok X G (c.fact 37 rfl)
  have gSh : mg "Shares" = some (.ref (He.ga K "Shares")) := He.glo_ok X G (c.fact 38 rfl)
  have gLo := He.int_ok X G (c.fact (f := .int "LONGEST" 40) 53 rfl)
  have gGP := He.int_ok X G (c.fact (f := .int "GREATEST_PRIME" 997) 54 rfl)
  have gSg := He.str_ok X G (c.fact (f := .str "SIGNS" "abcdefghijklmnopqrstuvwxyz0123456789.") 55 rfl)
  have S0 : SumC K (He.ga K "Sums") := ⟨He.cls_ok (c.fact 56 rfl), He.noat_ok (c.fact 57 rfl), He.noat_ok (c.fact 58 rfl)⟩
  have H0 : ShC K (He.ga K "Shares") := ⟨He.cls_ok (c.fact 66 rfl), He.noat_ok (c.fact 67 rfl), He.noat_ok (c.fact 68 rfl), He.noat_ok (c.fact 69 rfl)⟩
  have M : Sm mg := ⟨n_isinstance, n_list, n_tuple, n_int, n_bool, n_len, n_all, n_zip⟩
  have MkS := He.mkr_ok (c.fact (f := .mkr "Sums") 75 rfl)
  have MkH := He.mkr_ok (c.fact (f := .mkr "Shares") 77 rfl)
  obtain ⟨mo1, mo2⟩ := He.ba cc.mo
  obtain ⟨IC1, ne1, ob1, far1⟩ := own_ok S0.cl mo1
  obtain ⟨IC2, ne2, ob2, far2⟩ := own_ok H0.cl mo2
  have e := hfa.symm.trans gLaw
  cases e
  obtain ⟨oc, od, kV, doc, pm, an, cdv, ct, osl, rfl, lk, hcd⟩ := id FLaw.ex
  refine ⟨PySem.W.fnOf "law" "law" (defArgs sLaw) (defBody sLaw) (defScope sLaw) .none kV doc pm an cdv ct, fun s v => .of_eq rfl, fun base _ _ _ => ?_⟩
  have bDraw := FDraw.binds (ps := ["stream", "many"]) fun _ _ _ _ _ _ us hl => match us, hl with | [_, _], _ => rfl
  have bPick := FPick.binds (ps := ["stream", "some"]) fun _ _ _ _ _ _ us hl => match us, hl with | [_, _], _ => rfl
  have bMixed := FMixed.binds (ps := ["stream", "some"]) fun _ _ _ _ _ _ us hl => match us, hl with | [_, _], _ => rfl
  have bNamesL := FNamesL.binds (ps := ["stream", "many"]) fun _ _ _ _ _ _ us hl => match us, hl with | [_, _], _ => rfl
  have bSpare := FSpare.binds (ps := ["names"]) fun _ _ _ _ _ _ us hl => match us, hl with | [_], _ => rfl
  have bNumber := FNumber.binds (ps := ["stream", "far", "is_wide"]) fun _ _ _ _ _ _ us hl => match us, hl with | [_, _, _], _ => rfl
  have bHanded := FHanded.binds (ps := ["stream", "questions"]) fun _ _ _ _ _ _ us hl => match us, hl with | [_, _], _ => rfl
  have bSame := FSame.binds (ps := ["found", "due"]) fun _ _ _ _ _ _ us hl => match us, hl with | [_, _], _ => rfl
  have bAnswerL := FAnswerL.binds (ps := ["question", "world"]) fun _ _ _ _ _ _ us hl => match us, hl with | [_, _], _ => rfl
  have bIsWorldL := FIsWorldL.binds (ps := ["unknowns", "thing"]) fun _ _ _ _ _ _ us hl => match us, hl with | [_, _], _ => rfl
  have bOthers := FOthers.binds (ps := ["stream", "unknowns", "questions"]) fun _ _ _ _ _ _ us hl => match us, hl with | [_, _, _], _ => rfl
  have bShMade := FShMade.binds (ps := ["stream"]) fun _ _ _ _ _ _ us hl => match us, hl with | [_], _ => rfl
  have bSharesL := FSharesL.binds (ps := ["stream", "primes", "most"]) fun _ _ _ _ _ _ us hl => match us, hl with | [_, _, _], _ => rfl
  have bShTold := FShTold.binds (ps := ["field", "rows", "unknowns"]) fun _ _ _ _ _ _ us hl => match us, hl with | [_, _, _], _ => rfl
  have bQs := FQs.binds (ps := ["self"]) fun _ _ _ _ _ _ us hl => match us, hl with | [_], _ => rfl
  have bUnk := FUnk.binds (ps := ["self"]) fun _ _ _ _ _ _ us hl => match us, hl with | [_], _ => rfl
  have bHome := FHome.binds (ps := ["self"]) fun _ _ _ _ _ _ us hl => match us, hl with | [_], _ => rfl
  have bRowM := FRowM.binds (ps := ["self", "name"]) fun _ _ _ _ _ _ us hl => match us, hl with | [_, _], _ => rfl
  have bAnswers := FAnswers.binds (ps := ["self", "world"]) fun _ _ _ _ _ _ us hl => match us, hl with | [_, _], _ => rfl
  have bEqM := FEqM.binds (ps := ["self", "other"]) fun _ _ _ _ _ _ us hl => match us, hl with | [_, _], _ => rfl
  have bSEq := FSEq.binds (ps := ["self", "other"]) fun _ _ _ _ _ _ us hl => match us, hl with | [_, _], _ => rfl
  have bInit := FInit.binds (ps := ["self", "unknowns", "questions"]) fun _ _ _ _ _ _ us hl => match us, hl with | [_, _, _], _ => rfl
  have bSInit := FSInit.binds (ps := ["self", "prime", "unknowns", "questions"]) fun _ _ _ _ _ _ us hl => match us, hl with | [_, _, _, _], _ => rfl
  have bSumsL := bindsB (ps := ["stream", "moduli", "is_wide"]) FSumsL fun T kV doc pm an cdv ct us its h1 h2 => match us, its, h1, h2 with | [_, _, _], [_], _, _ => ⟨_, rfl, rfl⟩
  have bWorldL := bindsB (ps := ["stream", "unknowns", "is_wide"]) FWorldL fun T kV doc pm an cdv ct us its h1 h2 => match us, its, h1, h2 with | [_, _, _], [_], _, _ => ⟨_, rfl, rfl⟩
  have GDr : FnOk P w K mg base CX0 1 _ _ ["stream", "many"] spDraw := ok_draw FDraw n_int
  have GPi : FnOk P w K mg base CX0 2 _ _ ["stream", "some"] (spPick K) := ok_pick FPick FDraw gDraw n_int n_len
  have GNm := ok_names (P := P) (w := w) (base := base) FNamesL FNameL gNameL FPick gPick FDraw gDraw n_int n_len n_range
  have GMi := ok_mixed (P := P) (w := w) (base := base) FMixed FDraw gDraw n_int n_len n_list n_range
  have GNu := ok_number (P := P) (w := w) (base := base) FNumber FDraw gDraw n_int
  have GSp := ok_spare (P := P) (w := w) (mg := mg) (base := base) FSpare
  have GSm := ok_sumsL (P := P) (w := w) (base := base) FSumsL gDraw FDraw.kp GDr bDraw gPick FPick.kp GPi bPick gNamesL FNamesL.kp GNm bNamesL gMixed FMixed.kp GMi bMixed gNumber FNumber.kp GNu bNumber
  have GHa := ok_handed (P := P) (w := w) (base := base) FHanded gPick FPick.kp GPi bPick n_dict n_list
  have GSa : FnOk P w K mg base CX0 3 _ _ ["found", "due"] (spSameF 2) := ok_sameF FSame gSame M 2
  have GWo := ok_worldL (P := P) (w := w) (base := base) FWorldL gMixed FMixed.kp GMi bMixed gNumber FNumber.kp GNu bNumber n_dict
  have GAn := ok_answerL (P := P) (w := w) (base := base) FAnswerL n_sum
  have GIw := ok_isWorldL (P := P) (w := w) (base := base) FIsWorldL n_isinstance n_dict n_len n_all n_int n_bool
  have GOt := ok_others (P := P) (w := w) (base := base) FOthers gPick FPick.kp GPi bPick gSpare FSpare.kp GSp bSpare n_dict n_list n_len
  have GNa : FnOk P w K mg base CX0 1 _ _ ["thing"] spIsName := ok_isName FIsName n_isinstance n_str n_len n_all gLo gSg
  have GNo := ok_noName (P := P) (w := w) (base := base) FNoName FIsList gIsList FIsName gIsName GNa n_isinstance n_list n_tuple n_enumerate n_len
  have GIr := ok_isRow (P := P) (w := w) (base := base) FIsRow FIsOne gIsOne FIsInt gIsInt n_isinstance n_str n_dict n_int n_bool n_all
  have GIi : FnOk P w K mg base CX0 1 _ _ ["thing"] spIsInt := ok_isInt FIsInt n_isinstance n_int n_bool
  have GPa := ok_pairA (P := P) (w := w) (base := base) FIsPair FIsList gIsList n_isinstance n_list n_tuple n_len
  have GSi := ok_isSide (P := P) (w := w) (base := base) FIsSide FIsPair gIsPair GPa FIsRow gIsRow GIr FIsInt gIsInt GIi
  have GIn := ok_sumsInit (P := P) (w := w) (base := base) FInit S0 FNoName gNoName GNo FIsName gIsName GNa FIsSide gIsSide GSi FVec gVec n_isinstance n_dict n_len n_list
  have GCa := ok_ckAD (P := P) (w := w) (base := base) FCkA FIsOne gIsOne n_isinstance n_str
  have GRo := ok_sRow (P := P) (w := w) (base := base) FRowM S0 FCkA gCkA GCa n_zip
  have GWs := ok_isWorldS (P := P) (w := w) (base := base) FIsWorld S0 FHasJust gHasJust FIsInt gIsInt n_isinstance n_int n_bool n_dict n_len n_all
  have GAs := ok_sAns (P := P) (w := w) (base := base) FAnswers S0 FIsWorld mIsWorld GWs FVec gVec FDot gDot FRem gRem n_sum n_zip
  have GCp := ok_ckP (P := P) (w := w) (base := base) FCkPrime FIsInt gIsInt GIi gGP n_any n_range
  have GSIn := ok_shInit (P := P) (w := w) (base := base) FSInit H0 FCkPrime gCkPrime GCp FNoName gNoName GNo FIsName gIsName GNa FIsRow gIsRow GIr FVec gVec n_isinstance n_dict n_len n_list
  have GSRo := ok_shRow (P := P) (w := w) (base := base) FSRow H0 FCkA gCkA GCa n_zip
  have GTo := ok_shTold (P := P) (w := w) (base := base) FShTold H0 FSQs mSQs FSUnk mSUnk FSRow mSRow GSRo FSame gSame M n_list
  have GSl := ok_sharesL (P := P) (w := w) (base := base) FSharesL gDraw FDraw.kp GDr bDraw gPick FPick.kp GPi bPick gNamesL FNamesL.kp GNm bNamesL gMixed FMixed.kp GMi bMixed
  have O1 : OwnE P w K mg base (He.ga K "Sums") _ "Sums" (spSEq (He.ga K "Sums")) := { IC := IC1, gC := gC, made := MkS, ne := ne1, ob := ob1, eq := ⟨_, _, mEqM, bEqM, ok_sEq FEqM S0 IC1 gC n_isinstance n_list, ok_sEqO FEqM gC n_isinstance⟩, far := far1 }
  have O2 : OwnE P w K mg base (He.ga K "Shares") _ "Shares" (spShEq (He.ga K "Shares")) := { IC := IC2, gC := gSh, made := MkH, ne := ne2, ob := ob2, eq := ⟨_, _, mSEq, bSEq, ok_shEq FSEq H0 IC2 gSh n_isinstance n_list, ok_shEqO FSEq gSh n_isinstance⟩, far := far2 }
  have LM : MadeL P w K mg base (He.ga K "Shares") _ := { S := H0, O := O2, init := ⟨_, bSInit, GSIn⟩, shares := ⟨_, _, gSharesL, FSharesL.kp, bSharesL, GSl⟩, told := ⟨_, _, gShTold, FShTold.kp, bShTold, GTo⟩, pick := ⟨_, _, gPick, FPick.kp, bPick, GPi⟩, spare := ⟨_, _, gSpare, FSpare.kp, bSpare, GSp⟩, nD := n_dict, nL := n_list, nT := n_tuple, nY := n_any }
  have GMa := ok_shMade (P := P) (w := w) (base := base) FShMade LM
  exact ok_law FLaw { S := S0, O := O1, init := ⟨_, bInit, GIn⟩, start := ⟨_, _, gStart, FStart⟩, sums := ⟨_, _, gSumsL, FSumsL.kp, bSumsL, GSm⟩, handed := ⟨_, _, gHanded, FHanded.kp, bHanded, GHa⟩, same := ⟨_, _, gSame, FSame.kp, bSame, GSa⟩, world := ⟨_, _, gWorldL, FWorldL.kp, bWorldL, GWo⟩, ans := ⟨_, _, gAnswerL, FAnswerL.kp, bAnswerL, GAn⟩, isW := ⟨_, _, gIsWorldL, FIsWorldL.kp, bIsWorldL, GIw⟩, others := ⟨_, _, gOthers, FOthers.kp, bOthers, GOt⟩, made := ⟨_, _, gShMade, FShMade.kp, bShMade, GMa⟩, qs := ⟨_, _, mQs, bQs, ok_sQs FQs S0 n_list⟩, unk := ⟨_, _, mUnk, bUnk, ok_sUnk FUnk S0 n_list⟩, home := ⟨_, _, mHome, bHome, ok_sHome FHome S0⟩, row := ⟨_, _, mRowM, bRowM, GRo⟩, answers := ⟨_, _, mAnswers, bAnswers, GAs⟩, nD := n_dict, nL := n_list, nT := n_tuple, nI := n_isinstance, nY := n_any, nR := n_range }
end L2.TB
open PySem PySem.W PySem.Calls PyProof.Rows
set_option maxHeartbeats 0 in
theorem PySem.Challenge.cw_twoworlds_k14_sums_made_holds : PySem.Challenge.rw_twoworlds_k14_sums_made.Holds := by
  w_on; o_law
  refine HandSHeadRun.head_imp (r := L2.TB.HdR.R) (q := L2.TB.HdR.qv) (H := L2.TB.hookK) (ob := L2.TB.obT) (M := 16000) (loose := L2.TB.HdR.names)
    (d := HandSHeadRun.topDef L2.TB.HdR.R.prog 69) (kwd := []) L2.TB.obT_eq L2.TB.HdR.run
    (by kernel_rfl) (by kernel_rfl) (by kernel_rfl) (by rfl)
    (by first | assumption | decide +kernel) (by decide +kernel) ⟨rfl, rfl, rfl, rfl, rfl, by decide +kernel⟩ ?hw ?hc
  case hw => w_witness2
  case hc =>
    refine LamX.walk_ofTsE (l := PySem.Challenge.rw_twoworlds_k14_sums_made) (n := 63) (k := 8) (x := "script") (CX := fun _ => L2.CX0)
      rfl (by decide) (by kernel_rfl) ⟨rfl, by decide, by decide⟩ ?F (fun _ _ _ _ _ z => z)
    intro w mg fa h Y G hmg0
    obtain ⟨K, KX, c⟩ := Y
    have hmg : mg ("law" : PySem.Str) = some (.ref fa) := by
      have e : (HandSHeadRun.topDef L2.TB.HdR.R.prog 69).name = ("law" : PySem.Str) := by kernel_rfl
      rw [← e]; exact hmg0
    obtain ⟨fd, hb, hF⟩ := L2.TB.facts (P := PySem.Challenge.rw_twoworlds_k14_sums_made.prog) (w := w) KX G hmg c
    exact ⟨K, KX, fd, L2.TB.csL K, L2.TB.spLawT K, fun p hp => c.emptyC hp, fun p hp => c.outC hp, fun p hp => PySem.W.codeHd_of_K KX (c.hdC hp), hb, fun H a ns hl _ hT hS => ⟨a, ns, rfl, hS, by omega, fun _ => rfl⟩, hF⟩
