import PyProof.Rows.All
import Wide.All
import OpenK.AllK
import Wide.FinOn
import HandS.ForMost
import HandS.Exc
import HandS.ExcInit
import HandS.IsInst
import HandS.Defaults
import HandS.Wide
import HandS.Conv
import HandS.Dict
import HandS.DictTup
import HandS.DictComp
import HandS.Flow
import HandS.Style
import HandS.TupSets
import HandS.NoneIn
import HandS.ForExc
import HandS.TryMany
import HandS.ExcField
import HandS.WordsExc
import HandS.HeadHook1
import HandS.HeadHook2
import HandS.Head0
import HandS.Head1
import HandS.Head2
import HandS.HeadEnd
import HandS.HeadHook4
import HandS.Nested
import HandS.Lambda
import HandS.ExcOwn
import HandS.ExcCtx
import HandS.ExcBuiltin
import HandS.Star
import HandS.Iter
import KE.GoesEnum
import HandS.More
import HandS.Hot
import HandS.HotCalls
import HandS.ExcInitHot
import HandS.Finally
import KE.KEqNest
import HandS.Zip
import KE.GoesZip
import KE.GoesMore
import HandS.TupAny
import HandS.HeadWalk
import PySem.Challenge.RW_twoworlds_k07_live_files
set_option Elab.async false
set_option linter.all false
set_option maxRecDepth 100000
set_option maxHeartbeats 40000000
namespace L2.TB
open PySem PySem.Spec PyProof.Rows
def topS (i : Nat) : Stmt := PySem.Challenge.pw_twoworlds_k07_live_files.main.body.getD i (.Pass ⟨0, 0, 0, 0⟩)
abbrev sStart : Stmt := topS 38
abbrev sDraw : Stmt := topS 39
abbrev sPick : Stmt := topS 40
abbrev sNames : Stmt := topS 34
abbrev sRows : Stmt := topS 35
abbrev sKey : Stmt := topS 36
abbrev sTells : Stmt := topS 37
abbrev sSame : Stmt := topS 41
abbrev sTried : Stmt := topS 42
abbrev sStands : Stmt := topS 43
abbrev sDeed : Stmt := topS 44
abbrev sWork : Stmt := topS 45
abbrev sTrialR : Stmt := topS 46
abbrev sLaw : Stmt := topS 47
abbrev sIsInt : Stmt := topS 15
abbrev sIsList : Stmt := topS 16
abbrev sIsName : Stmt := topS 17
abbrev sIsOne : Stmt := topS 18
abbrev sHasJust : Stmt := topS 19
abbrev sFirst : Stmt := topS 20
abbrev sCkK : Stmt := topS 21
abbrev sCkA : Stmt := topS 22
abbrev sCkB : Stmt := topS 23
abbrev sToldBy : Stmt := topS 26
abbrev sBadRow : Stmt := topS 32
abbrev sTable : Stmt := topS 30
abbrev sFile : Stmt := topS 28
abbrev sFInit : Stmt := inClass sFile 0
abbrev sLearn : Stmt := inClass sFile 1
abbrev sForget : Stmt := inClass sFile 2
abbrev sKnown : Stmt := inClass sFile 3
abbrev sTold : Stmt := inClass sFile 4
abbrev sFTells : Stmt := inClass sFile 5
abbrev sUndo : Stmt := inClass sFile 6
abbrev sAgain : Stmt := inClass sFile 7
abbrev sCopy : Stmt := inClass sFile 8
abbrev sTrial : Stmt := inClass sFile 9
abbrev sDo : Stmt := inClass sFile 10
abbrev sInit : Stmt := inClass sTable 0
abbrev sQs : Stmt := inClass sTable 4
abbrev sIsTold : Stmt := inClass sTable 7
abbrev sPlaces : Stmt := inClass sTable 18
abbrev sParting : Stmt := inClass sTable 21
abbrev sINoQuestion : Stmt := inClass (topS 5) 0
abbrev sIKnown : Stmt := inClass (topS 8) 0
abbrev sINotKnown : Stmt := inClass (topS 9) 0
end L2.TB
/-! several except clauses, each with a name for the exception or without one -/
namespace TA
open PySem PySem.Spec PyProof.Rows L2
abbrev Cl := Value × Option Nat × (Addr → Value → Option Addr → TS)
/-- the ends of a suite whose name goes behind it -/
def goesE (i : Nat) (D : Ends) : Ends := { nx := fun σ H => D.nx (σ.set i none) H, rt := D.rt, bk := fun σ H => D.bk (σ.set i none) H, ct := fun σ H => D.ct (σ.set i none) H }
/-- what a clause does with the exception at a -/
def cl1 (k : Cl) (D : Ends) (a : Addr) (cls : Value) (d : Option Addr) (σ : L2.St) (H : Hp) : Prop := match k.2.1 with
  | none => k.2.2 a cls d D σ H
  | some i => k.2.2 a cls d (goesE i D) (σ.set i (some (.ref a))) H
def wCls (K : PySem.W.Frag) (Wout : WX) (D : Ends) : List Cl → WX
  | [] => Wout
  | k :: r => fun cls d σ H => ∃ b, PySem.W.exmOne K cls k.1 = some b ∧ (b = true → ∀ a, H a = none → cl1 k D a cls d σ H) ∧ (b = false → wCls K Wout D r cls d σ H)
/-- the name of a clause is a slot -/
def NamedAs (X : Cx) : Option Str → Option Nat → Prop
  | none, none => True
  | some n, some i => X.N[i]? = some n ∧ X.env.kindOf n = some .local
  | _, _ => False
inductive Cls (X : Cx) : List ExceptHandler → List Cl → Prop
  | nil : Cls X [] []
  | cons {x : Str} {on : Option Str} {k : Cl} {b₀ : Stmt} {suite : List Stmt} {np q : Pos} {hds : List ExceptHandler} {l : List Cl} (hn : NamedAs X on k.2.1) (hc : Names X x k.1)
      (hsu : ∀ (a : Addr) (oe : Obj) (cls : Value) (d : Option Addr) (pn : List (Addr × Obj)), Zc cls d oe → (∃ vs, oe.data = .fields vs) → PSs (X.suite a ((a, oe) :: pn)) (b₀ :: suite) (k.2.2 a cls d)) (r : Cls X hds l) :
      Cls X (.ExceptHandler (some (.Name x np)) on (b₀ :: suite) q :: hds) (k :: l)
section
variable {X : Cx} {body : List Stmt} {h₀ : ExceptHandler} {hds : List ExceptHandler} {l : List Cl} {pos : Pos} {tb : WX → TS} {Wout : WX}
theorem ps_try_cls (hs : X.stack = X.env :: X.outer) (hf : X.env.frame = some X.env.locals) (hN : X.N.Nodup) (tk : Takes X Wout)
    (hb : ∀ (W : WX) (pn : List (Addr × Obj)) (xe : Value → Shared → Prop), Takes (X.tr pn xe) W → PassesOwn (model X.prog X.w) X.A X.env xe → PSs (X.tr pn xe) body (tb W))
    (hh : Cls X (h₀ :: hds) l) : PS X (.Try body (h₀ :: hds) [] [] pos) (fun D σ H => tb (wCls X.K Wout D l) D σ H) := by
  refine ⟨fun pins s σ H D I reading => ?_⟩
  have okX := I.ok
  have frA : X.A.frames = some (X.env :: X.outer) := by rw [okX.frames, hs]
  refine wpAny_Try_except (wpAny_mono ((hb (wCls X.K Wout D l) (X.pn ++ pins) (fun e s1 => wpAny (model X.prog X.w) X.A (noteFrame e X.env)
    (fun _ s2 => wpAny (model X.prog X.w) X.A (setFlight e none) (fun _ s3 => wpAny (model X.prog X.w) X.A (handleBy e X.env (h₀ :: hds)) (SP X pins D) X.xe s3) X.xe s2) X.xe s1)
    (fun ev s1 caught => ?_) PassesOwn.looking).run [] s σ H D (I.toTry _) reading) (fun fl s1 done => ?_) (fun _ _ z => z))
  · obtain ⟨a, B, sI, pinsT, σ1, H1, cls, d, rfl, JT, nb, up1, sky, fresh, osE, bare, wish⟩ := caught
    have J : Inv X pins σ1 H1 sI := JT.ofTry okX
    show wpAny (model X.prog X.w) X.A (noteFrame (.ref a) X.env) _ _ _
    refine Sky.land Zc.steady frA hf (by rw [← hs]; exact sky) fun hL landed upL => ?_
    have JL : Inv X pins σ1 H1 { s1 with heap := hL } := J.landed nb landed.1 (up1.trans upL) osE bare
    obtain ⟨oL, vL, eL, zL, dL⟩ := landed.there
    have offFrames : a ∉ frs (X.env :: X.outer) := fun hm => by
      obtain ⟨_, o2, e2, no⟩ := landed.2.2.1.mem hm
      rw [eL] at e2
      cases e2
      exact no _ dL
    have offLocals : a ≠ X.env.locals := fun z => offFrames (List.mem_filterMap.mpr ⟨X.env, List.mem_cons_self, by rw [hf, z]⟩)
    have offFs : a ∉ X.fs := fun hm => by
      obtain ⟨e, he, q⟩ := List.mem_filterMap.mp hm
      exact offFrames (List.mem_filterMap.mpr ⟨e, List.mem_cons_of_mem _ he, q⟩)
    have SL := JL.suite eL dL fresh offLocals offFs
    have along : ∀ {hd2 : List ExceptHandler} {l2 : List Cl}, Cls X hd2 l2 → wCls X.K Wout D l2 cls d σ1 H1 → wpAny (model X.prog X.w) X.A (handleBy (.ref a) X.env hd2) (SP X pins D) X.xe { s1 with heap := hL } := by
      intro hd2 l2 hk
      induction hk with
      | nil =>
        intro w
        refine wpAny_handleBy_nil ?_
        obtain ⟨_, _, _, oe, vs, T, oT, _, he, _, hd, h1, _⟩ := id landed
        unfold PySem.passOn
        refine wpAny_bind (wpAny_field he hd h1 ?_)
        rw [if_neg (by simp)]
        have out : wpAny (model X.prog X.w) X.A (setFlight (.ref a) X.env.frame) (fun _ s4 => wpAny (model X.prog X.w) X.A (throw (.ref a) : Sem Flow) (SP X pins D) X.xe s4) X.xe { s1 with heap := hL } := by
          rw [hf]
          exact HandSPX.setFlight_upZ landed fun h4 up4 more => wpAny_throw (tk _ _ ⟨a, B, sI, pins, σ1, H1, cls, d, rfl, J, nb, (up1.trans upL).trans more, .inr (.inr (by rw [hs]; exact up4)), fresh, osE, bare, w⟩)
        first
          | exact wpAny_bind (wpAny_pure (wpAny_bind out))
          | exact wpAny_bind out
      | @cons x on k b₀ suite np q hds3 l3 hn hc hsu r ih =>
        intro w
        obtain ⟨b, isIt, yes, no⟩ := w
        refine wpAny_handleBy_cons (codeAny_handlers_test ?_) (fun z => by cases z)
        have seesClass : PySem.W.Looks (model X.prog X.w) hL (typeOf (.ref a)) cls := fun A Q E s2 kk go => wpAny_typeOf_ref (kk _ _ eL) (by rw [zL.1]; exact go)
        have matched := PySem.W.exm_one (M := model X.prog X.w) JL.kIn seesClass isIt
        have named : ∀ {Q E : Value → Shared → Prop}, Q k.1 { s1 with heap := hL } → wpAny (model X.prog X.w) (X.A.mark (some (.ref a))) (eval (.Name x np) X.env) Q E { s1 with heap := hL } := fun {Q E} go => by
          rcases hc with ⟨g1, g2, g3 | ⟨g3, g4, g5⟩⟩
          · exact ld_glob (X := X.suite a ((a, oL) :: (X.pn ++ pins))) SL g1 g3 go g2
          · exact ld_blt (X := X.suite a ((a, oL) :: (X.pn ++ pins))) SL g1 g3 g4 go g5 g2
        refine named (matched.here ?_)
        cases b with
        | false => exact ih (no rfl)
        | true =>
          obtain ⟨kc, oi, kt⟩ := k
          match on, oi, hn with
          | none, none, _ =>
            refine codeAny_handlers_suite (HandSPX.lands_againZ landed fun h4 l4 up4 => ?_)
            have J4 : Inv X pins σ1 H1 { s1 with heap := h4 } := J.landed nb l4.1 ((up1.trans upL).trans up4) osE bare
            obtain ⟨o4, v4, e4, z4, d4⟩ := l4.there
            have S4 := J4.suite e4 d4 fresh offLocals offFs
            refine wpAny_mono ((hsu a o4 cls d (X.pn ++ pins) z4 ⟨_, d4⟩).run [] _ σ1 H1 D S4 (yes rfl a fresh)) (fun f2 s6 hsp => ?_) (fun _ _ z => False.elim z)
            cases f2 with
            | ret u =>
              obtain ⟨v6, σ6, H6, S6, r6, q6⟩ := hsp
              exact ⟨v6, σ6, H6, S6.unsuite okX, r6, q6⟩
            | next => exact hsp.imp fun σ6 z => z.imp fun H6 z => ⟨z.1.unsuite okX, z.2⟩
            | brk => exact hsp.imp fun σ6 z => z.imp fun H6 z => ⟨z.1.unsuite okX, z.2⟩
            | cont => exact hsp.imp fun σ6 z => z.imp fun H6 z => ⟨z.1.unsuite okX, z.2⟩
          | some n, some i, hn =>
            refine codeAny_handlers_suite_as (HandSPX.lands_againZ landed fun h4 l4 up4 => ?_)
            have J4 : Inv X pins σ1 H1 { s1 with heap := h4 } := J.landed nb l4.1 ((up1.trans upL).trans up4) osE bare
            obtain ⟨o4, v4, e4, z4, d4⟩ := l4.there
            have S4 := J4.suite e4 d4 fresh offLocals offFs
            refine store_ok (X := X.suite a ((a, o4) :: (X.pn ++ pins))) (v := .ref a) S4 hN hn.1 (.inl hn.2) rfl (fun s5 S5 => ?_) (.inr hn.2)
            refine wpAny_mono ((hsu a o4 cls d (X.pn ++ pins) z4 ⟨_, d4⟩).run [] s5 _ H1 _ S5 (yes rfl a fresh)) (fun f2 s6 hsp => ?_) (fun _ _ z => False.elim z)
            have gone : ∀ {σ6 : L2.St} {H6 : Hp} {Q : Shared → Prop}, Inv (X.suite a ((a, o4) :: (X.pn ++ pins))) [] σ6 H6 s6 → (∀ s7, Inv X pins (σ6.set i none) H6 s7 → Q s7) →
                wpAny (model X.prog X.w) X.A (do bindName X.env n .none; unbindBehindTheSuite X.env n q) (fun _ s7 => Q s7) X.xe s6 := fun S6 go => gone_ok (S6.unsuite okX) hN hn.1 hn.2 go
            cases f2 with
            | ret u =>
              obtain ⟨v6, σ6, H6, S6, r6, q6⟩ := hsp
              exact gone S6 fun _ J7 => ⟨v6, _, H6, J7, r6, q6⟩
            | next => obtain ⟨σ6, H6, S6, q6⟩ := hsp; exact gone S6 fun _ J7 => ⟨_, H6, J7, q6⟩
            | brk => obtain ⟨σ6, H6, S6, q6⟩ := hsp; exact gone S6 fun _ J7 => ⟨_, H6, J7, q6⟩
            | cont => obtain ⟨σ6, H6, S6, q6⟩ := hsp; exact gone S6 fun _ J7 => ⟨_, H6, J7, q6⟩
    exact along hh wish
  · cases fl with
    | ret u =>
      obtain ⟨v, σ1, H1, J1, r, q⟩ := done
      exact ⟨v, σ1, H1, J1.ofTry okX, r, q⟩
    | next =>
      obtain ⟨σ1, H1, J1, q⟩ := done
      exact wpAny_execs_nil ⟨σ1, H1, J1.ofTry okX, q⟩
    | brk => exact done.imp fun σ1 z => z.imp fun H1 z => ⟨z.1.ofTry okX, z.2⟩
    | cont => exact done.imp fun σ1 z => z.imp fun H1 z => ⟨z.1.ofTry okX, z.2⟩
end
end TA
/-! classes of errors with an `__init__` of one parameter: what the top's end must say, how such an error is raised -/
namespace L2.TB
open PySem PySem.Spec PyProof.Rows
/-- the class at C: an error over ValueError whose own bases are classes -/
def ownB (K : PySem.W.Frag) (C : Addr) : Bool := match K.lookup C with
  | some ⟨.type "type", _, .cls cd, sl⟩ => (match cd.mro, sl.toList with
    | .ref C' :: bm, [_, _, _, _, some (.builtin n), _] => C' == C && (n == "ValueError.__new__" && (!cd.hasDel && (cd.hasDict && PySem.HandSPX.refsVE bm)))
    | _, _ => false)
  | _ => false
theorem ownB_ok {K : PySem.W.Frag} {C : Addr} (h : ownB K C = true) :
    ∃ nm q N bs bm sn sub ab col dd k0 k1 k2 k3 k5, K.lookup C = some (excClassObj nm q C N bs bm true sn sub ab col dd k0 k1 k2 k3 k5 "ValueError.__new__") ∧ PySem.HandSPX.refsVE bm = true := by
  unfold ownB at h
  split at h
  · rename_i dd cd sl lk
    split at h
    · rename_i C' bm k0 k1 k2 k3 n k5 em es
      simp only [Bool.and_eq_true, beq_iff_eq, Bool.not_eq_true'] at h
      obtain ⟨rfl, rfl, hd, hh, hr⟩ := h
      obtain ⟨nm, bs, mro, ns, qn, hdc, sn, sub, ab, col, del⟩ := cd
      dsimp only at em hd hh
      subst em hd hh
      have e : sl = #[k0, k1, k2, k3, some (.builtin "ValueError.__new__"), k5] := by
        obtain ⟨l⟩ := sl
        simp only at es
        rw [es]
      subst e
      exact ⟨nm, qn, ns, bs, bm, sn, sub, ab, col, dd, k0, k1, k2, k3, k5, lk, hr⟩
    · cases h
  · cases h
def errB (K : PySem.W.Frag) (x f : Str) : Bool := ownB K (He.ga K x) &&
  (He.eqO (PySem.W.findIn K (.ref (He.ga K x)) "__setattr__") (some (some (.builtin "object.__setattr__"))) &&
  (decide (PySem.W.subIn K (.ref (He.ga K x)) (.type "BaseException") = some true) && (decide (PySem.W.typeIn K (.ref (He.ga K x)) = some (.type "type")) && (PySem.W.keepIn K (.ref (He.ga K x)) &&
  (He.eqO (PySem.W.findIn K (.ref (He.ga K x)) f) (some none) && (He.eqO (PySem.W.findIn K (.ref (He.ga K x)) "__init__") (some (some (.ref (He.ma K (He.ga K x) "__init__")))) &&
  (decide (PySem.W.typeIn K (.ref (He.ma K (He.ga K x) "__init__")) = some (.type "function")) && xfB K (He.ga K x))))))))
/-- a class of errors at C, its `__init__` at fI, its one field fld -/
structure ErrC (K : PySem.W.Frag) (C fI : Addr) (fld : Str) : Prop where
  o : OexC K C
  no : PySem.W.findIn K (.ref C) fld = some none
  ini : PySem.W.findIn K (.ref C) "__init__" = some (some (.ref fI))
  fn : PySem.W.typeIn K (.ref fI) = some (.type "function")
  xf : XfC K C
theorem errB_ok {K : PySem.W.Frag} {x f : Str} (h : errB K x f = true) : ErrC K (He.ga K x) (He.ma K (He.ga K x) "__init__") f := by
  obtain ⟨h1, h⟩ := He.ba h
  obtain ⟨h2, h⟩ := He.ba h
  obtain ⟨h3, h⟩ := He.ba h
  obtain ⟨h4, h⟩ := He.ba h
  obtain ⟨h5, h⟩ := He.ba h
  obtain ⟨h6, h⟩ := He.ba h
  obtain ⟨h7, h⟩ := He.ba h
  obtain ⟨h8, h9⟩ := He.ba h
  exact ⟨⟨ownB_ok h1, He.eqO_ok h2, of_decide_eq_true h3, of_decide_eq_true h4, h5⟩, He.eqO_ok h6, He.eqO_ok h7, of_decide_eq_true h8, xfB_ok h9⟩
/-- self.fld = it -/
def spErr (K : PySem.W.Frag) (fld : Str) : Sp := fun vs H Q _ => ∃ (a C : Addr) (v : V), vs = [.ref a, v] ∧ OexC K C ∧ PySem.W.findIn K (.ref C) fld = some none ∧ H a = some (exo a C none) ∧
  ∀ dx, H dx = none → dx ≠ a → Q .non (upd (upd H dx (exd dx [(fld, v)])) a (exo a C (some dx)))
section
variable {P : Program} {w : World} {K : PySem.W.Frag} {mg : Str → Option Value} {base : Heap} {f : Addr} {fd : FuncData}
theorem ok_errInit {q y fld : Str} {st : Stmt} {p0 p1 p2 p3 : Pos} (F : Fun K "__init__" q st f fd) (S : FnScope ["self", y] ["self", y] (defScope st)) (hb : defBody st = [.Assign [.Attribute (.Name "self" p0) fld p1] (.Name y p2) p3])
    (hv0 : Vis (defScope st) "self") (hv1 : Vis (defScope st) y) (hdy : (y == ("__debug__" : Str)) = false) (hcy : (y == ("__classdict__" : Str)) = false) : FnOk P w K mg base CX0 1 f fd ["self", y] (spErr K fld) := by
  refine F.ok S (fun vs H Q E h => by obtain ⟨a, C, v, e, _⟩ := h; rw [e]; rfl) fun cdv A outer s H vs Q E hr hsp => ?_
  obtain ⟨a, C, v, rfl, T, no, ha, hq⟩ := hsp
  rw [hb]
  refine ⟨_, pss_one (ps_ost (pe_var (i := 0) rfl hv0 (by decide) (by decide)) (pe_var (i := 1) rfl hv1 hdy hcy) rfl), ?_⟩
  exact ⟨_, rfl, _, rfl, a, C, rfl, T, no, .inl ⟨ha, hq⟩⟩
end
/-- x(e), to be raised -/
theorem pmk_err {X : Cx} {x fld : Str} {C fI : Addr} {fd : FuncData} {y : Str} {e : Expr} {te : TE} {p pos : Pos} (E : ErrC X.K C fI fld) (F : FnOk X.prog X.w X.K X.mg X.base CX0 1 fI fd ["self", y] (spErr X.K fld)) (hb : Binds X.K fd ["self", y] [])
    (hr : Room 2 X.A) (hg : Gl X x) (hm : X.mg x = some (.ref C)) (he : PE X e te) (hdb : (x == ("__debug__" : Str)) = false := by decide) (hs : starEach [e] X.env = (false, eval e X.env) :: starEach [] X.env := by rfl) :
    PMk X (.Call (.Name x p) [e] [] pos) (tMkO C (spErr X.K fld) [] (tCons te tNil)) := pmk_oex (x := x) (es := []) (ta := tCons te tNil) (ds := []) (dvs := []) E.o E.ini E.fn F hr hb .nil pass0 hg hm (pa_cons he pa_nil (hs := hs)) hdb hs rfl
/-- what must hold where x(v) flies: d is its dict -/
theorem mk_rs {K : PySem.W.Frag} {fld : Str} {C fI : Addr} {v : V} {H1 : Hp} {Q : XK} (E : ErrC K C fI fld) (h : ∀ d, H1 d = none → Q (.ref C) (some d) (upd H1 d (.xd [(fld, v)]))) :
    [v].length ≤ 1000 ∧ ∀ a, H1 a = none → spErr K fld (.ref a :: ([v] ++ [])) (upd H1 a (exo a C none))
      (fun v H2 => v = .non ∧ ∃ (d : Addr) (fs : List (Str × V)), H2 a = some (exo a C (some d)) ∧ H2 d = some (exd d fs) ∧ H1 d = none ∧ Q (.ref C) (some d) (upd (del H2 a) d (.xd fs))) (fun _ _ _ => False) := by
  refine ⟨by show 1 ≤ 1000; omega, fun a ha => ⟨a, C, v, rfl, E.o, E.no, upd_same, fun dx hdx ne => ⟨rfl, dx, _, upd_same, by rw [upd_ne ne, upd_same], ?_, ?_⟩⟩⟩
  · rw [upd_ne ne] at hdx; exact hdx
  · have n1 : H1 dx = none := by rw [upd_ne ne] at hdx; exact hdx
    have e : upd (del (upd (upd (upd H1 a (exo a C none)) dx (exd dx [(fld, v)])) a (exo a C (some dx))) a) dx (.xd [(fld, v)]) = upd H1 dx (.xd [(fld, v)]) := by
      funext b
      by_cases h1 : b = dx
      · subst h1; rw [upd_same, upd_same]
      · rw [upd_ne h1, upd_ne h1]
        by_cases h2 : b = a
        · subst h2; rw [del_same, ha]
        · rw [del_ne h2, upd_ne h2, upd_ne h1, upd_ne h2]
    rw [e]
    exact h dx n1
/-- an error of the class at C flies from here, v in its field -/
def Flies (C : Addr) (fld : Str) (v : V) (H : Hp) (E : XK) : Prop := ∀ d H', Same H H' → H d = none → H' d = some (.xd [(fld, v)]) → E (.ref C) (some d) H'
theorem Flies.same {C : Addr} {fld : Str} {v : V} {H H' : Hp} {E : XK} (h : Flies C fld v H E) (s : Same H H') : Flies C fld v H' E := fun d H2 s2 n e => h d H2 (s.trans s2) (by
  cases q : H d with
  | none => rfl
  | some o => rw [s _ _ q] at n; cases n) e
theorem Flies.mk {K : PySem.W.Frag} {fld : Str} {C fI : Addr} {v : V} {H1 : Hp} {Q : XK} (E : ErrC K C fI fld) (h : Flies C fld v H1 Q) :
    [v].length ≤ 1000 ∧ ∀ a, H1 a = none → spErr K fld (.ref a :: ([v] ++ [])) (upd H1 a (exo a C none))
      (fun v H2 => v = .non ∧ ∃ (d : Addr) (fs : List (Str × V)), H2 a = some (exo a C (some d)) ∧ H2 d = some (exd d fs) ∧ H1 d = none ∧ Q (.ref C) (some d) (upd (del H2 a) d (.xd fs))) (fun _ _ _ => False) :=
  mk_rs E fun d n => h d _ (fun b o e => by rw [upd_ne (ne_of_none e n)]; exact e) n upd_same
end L2.TB
namespace L2.TB
open PySem PySem.Spec PyProof.Rows
/-! ### what the top leaves, by addresses -/
def asK : List Nat := ([3, 6, 4, 21, 31, 51, 70, 89, 108, 127, 146, 165, 184, 196, 205, 212, 217, 224, 229, 236, 243, 250, 257, 262, 267, 352, 507, 516, 521, 526, 531, 536, 543, 550, 557, 564, 569, 576, 581, 586] : List Nat) ++
  ([593, 600, 607, 20, 30, 50, 69, 88, 107, 126, 145, 164, 183, 195, 204, 211, 216, 223, 228, 235, 242, 249, 256, 261, 266, 351, 506, 515, 520, 525, 530, 535, 542, 549, 556, 563, 568, 575, 580, 585] : List Nat) ++
  ([592, 599, 606, 15, 16, 17, 18, 19, 29, 32, 48, 49, 67, 68, 86, 87, 105, 106, 124, 125, 143, 144, 162, 163, 181, 182, 194, 199, 200, 201, 202, 203, 206, 207, 208, 209, 210, 213, 214, 215] : List Nat) ++
  ([218, 219, 220, 221, 222, 225, 226, 227, 230, 231, 232, 233, 234, 237, 238, 239, 240, 241, 244, 245, 246, 247, 248, 251, 252, 253, 254, 255, 258, 259, 260, 263, 264, 265, 281, 288, 293, 300, 307, 314] : List Nat) ++
  ([321, 328, 335, 342, 349, 350, 353, 354, 368, 375, 382, 389, 396, 403, 408, 415, 422, 427, 432, 439, 446, 451, 458, 465, 472, 477, 482, 487, 494, 499, 504, 505, 508, 509, 512, 513, 514, 517, 518, 519] : List Nat) ++
  ([522, 523, 524, 527, 528, 529, 532, 533, 534, 537, 538, 539, 540, 541, 544, 545, 546, 547, 548, 551, 552, 553, 554, 555, 558, 559, 560, 561, 562, 565, 566, 567, 570, 571, 572, 573, 574, 577, 578, 579] : List Nat) ++
  ([582, 583, 584, 587, 588, 589, 590, 591, 594, 595, 596, 597, 598, 601, 602, 603, 604, 605, 47, 66, 85, 104, 123, 142, 161, 180, 280, 287, 292, 299, 306, 313, 320, 327, 334, 341, 348, 367, 374, 381] : List Nat) ++
  ([388, 395, 402, 407, 414, 421, 426, 431, 438, 445, 450, 457, 464, 471, 476, 481, 486, 493, 498, 503, 42, 43, 44, 45, 46, 61, 62, 63, 64, 65, 80, 81, 82, 83, 84, 99, 100, 101, 102, 103] : List Nat) ++
  ([118, 119, 120, 121, 122, 137, 138, 139, 140, 141, 156, 157, 158, 159, 160, 175, 176, 177, 178, 179, 275, 276, 277, 278, 279, 282, 283, 284, 285, 286, 289, 290, 291, 294, 295, 296, 297, 298, 301, 302] : List Nat) ++
  ([303, 304, 305, 308, 309, 310, 311, 312, 315, 316, 317, 318, 319, 322, 323, 324, 325, 326, 329, 330, 331, 332, 333, 336, 337, 338, 339, 340, 343, 344, 345, 346, 347, 364, 365, 366, 369, 370, 371, 372] : List Nat) ++
  ([373, 376, 377, 378, 379, 380, 383, 384, 385, 386, 387, 390, 391, 392, 393, 394, 397, 398, 399, 400, 401, 404, 405, 406, 409, 410, 411, 412, 413, 416, 417, 418, 419, 420, 423, 424, 425, 428, 429, 430] : List Nat) ++
  ([433, 434, 435, 436, 437, 440, 441, 442, 443, 444, 447, 448, 449, 452, 453, 454, 455, 456, 459, 460, 461, 462, 463, 466, 467, 468, 469, 470, 473, 474, 475, 478, 479, 480, 483, 484, 485, 488, 489, 490] : List Nat) ++
  ([491, 492, 495, 496, 497, 500, 501, 502] : List Nat)
def dfd (p : Str × Option Str) (x q : Str) (st : Stmt) (dv : List He.Dv) : He.DefD := { at_ := p, name := x, qual := q, params := defArgs st, body := defBody st, scope := defScope st, dfl := dv }
def fnT : List He.DefD := ([dfd ("_law_start", none) "_law_start" "_law_start" sStart [], dfd ("_law_draw", none) "_law_draw" "_law_draw" sDraw [], dfd ("_law_pick", none) "_law_pick" "_law_pick" sPick [], dfd ("_law_t_names", none) "_law_t_names" "_law_t_names" sNames [], dfd ("_law_t_rows", none) "_law_t_rows" "_law_t_rows" sRows [], dfd ("_law_t_key", none) "_law_t_key" "_law_t_key" sKey [], dfd ("_law_t_tells", none) "_law_t_tells" "_law_t_tells" sTells [], dfd ("_law_same", none) "_law_same" "_law_same" sSame []] : List He.DefD) ++
  ([dfd ("_law_tried", none) "_law_tried" "_law_tried" sTried [], dfd ("_law_stands", none) "_law_stands" "_law_stands" sStands [], dfd ("_law_deed", none) "_law_deed" "_law_deed" sDeed [], dfd ("_law_work", none) "_law_work" "_law_work" sWork [], dfd ("_law_trial_right", none) "_law_trial_right" "_law_trial_right" sTrialR [], dfd ("law", none) "law" "law" sLaw [], dfd ("is_integer", none) "is_integer" "is_integer" sIsInt [], dfd ("is_list", none) "is_list" "is_list" sIsList []] : List He.DefD) ++
  ([dfd ("is_name", none) "is_name" "is_name" sIsName [], dfd ("is_one_of", none) "is_one_of" "is_one_of" sIsOne [], dfd ("has_just", none) "has_just" "has_just" sHasJust [], dfd ("first_bad", none) "first_bad" "first_bad" sFirst [], dfd ("check_known", none) "check_known" "check_known" sCkK [], dfd ("check_asked", none) "check_asked" "check_asked" sCkA [], dfd ("check_both", none) "check_both" "check_both" sCkB [], dfd ("told_by", none) "told_by" "told_by" sToldBy []] : List He.DefD) ++
  ([dfd ("_first_bad_row", none) "_first_bad_row" "_first_bad_row" sBadRow [], dfd ("Table", some "__init__") "__init__" "Table.__init__" sInit [], dfd ("Table", some "questions") "questions" "Table.questions" sQs [], dfd ("Table", some "is_told") "is_told" "Table.is_told" sIsTold [], dfd ("Table", some "_places") "_places" "Table._places" sPlaces [], dfd ("Table", some "_parting_rows") "_parting_rows" "Table._parting_rows" sParting [], dfd ("File", some "__init__") "__init__" "File.__init__" sFInit [], dfd ("File", some "learn") "learn" "File.learn" sLearn []] : List He.DefD) ++
  ([dfd ("File", some "forget") "forget" "File.forget" sForget [], dfd ("File", some "known") "known" "File.known" sKnown [], dfd ("File", some "told") "told" "File.told" sTold [], dfd ("File", some "tells") "tells" "File.tells" sFTells [], dfd ("File", some "undo") "undo" "File.undo" sUndo [], dfd ("File", some "again") "again" "File.again" sAgain [], dfd ("File", some "copy") "copy" "File.copy" sCopy [], dfd ("File", some "trial") "trial" "File.trial" sTrial []] : List He.DefD) ++
  ([dfd ("File", some "_do") "_do" "File._do" sDo [], dfd ("NoQuestion", some "__init__") "__init__" "NoQuestion.__init__" sINoQuestion [], dfd ("Known", some "__init__") "__init__" "Known.__init__" sIKnown [], dfd ("NotKnown", some "__init__") "__init__" "NotKnown.__init__" sINotKnown []] : List He.DefD)
def faT : List He.Fa := ([.glo "_law_start", .glo "_law_draw", .glo "_law_pick", .glo "_law_t_names", .glo "_law_t_rows", .glo "_law_t_key", .glo "_law_t_tells", .glo "_law_same", .glo "_law_tried", .glo "_law_stands", .glo "_law_deed", .glo "_law_work", .glo "_law_trial_right", .glo "law", .glo "is_integer", .glo "is_list"] : List He.Fa) ++
  ([.glo "is_name", .glo "is_one_of", .glo "has_just", .glo "first_bad", .glo "check_known", .glo "check_asked", .glo "check_both", .glo "told_by", .glo "_first_bad_row", .glo "Table", .glo "File", .free "list", .free "len", .free "int", .free "range", .free "dict"] : List He.Fa) ++
  ([.free "tuple", .free "str", .free "bool", .free "isinstance", .free "all", .free "any", .free "enumerate", .free "zip", .free "sorted", .free "KeyError", .int "LONGEST" 40, .str "SIGNS" "abcdefghijklmnopqrstuvwxyz0123456789.", .cls "Table", .noat "Table" "_questions", .noat "Table" "_rows", .meth "Table" "questions"] : List He.Fa) ++
  ([.meth "Table" "is_told", .meth "Table" "_places", .meth "Table" "_parting_rows", .meth "Table" "__init__", .mkr "Table", .cls "File", .noat "File" "_field", .noat "File" "_now", .noat "File" "_past", .noat "File" "_future", .meth "File" "learn", .meth "File" "forget", .meth "File" "known", .meth "File" "told", .meth "File" "tells", .meth "File" "undo"] : List He.Fa) ++
  ([.meth "File" "again", .meth "File" "copy", .meth "File" "trial", .meth "File" "_do", .meth "File" "__init__", .mkr "File", .glo "NoQuestion", .glo "Known", .glo "NotKnown", .exm "NoQuestion" "NoQuestion" true, .exm "NoQuestion" "Known" false, .exm "NoQuestion" "NotKnown" false, .exm "Known" "NoQuestion" false, .exm "Known" "Known" true, .exm "Known" "NotKnown" false, .exm "NotKnown" "NoQuestion" false] : List He.Fa) ++
  ([.exm "NotKnown" "Known" false, .exm "NotKnown" "NotKnown" true] : List He.Fa)
/-- the defs that hold a def, a lambda -/
def tfT : List He.Defn := [("law", none), ("_law_deed", none), ("_law_work", none), ("_law_trial_right", none)]
/-- the classes of errors, each with its field -/
def erT : List (Str × Str) := [("NoQuestion", "name"), ("Known", "name"), ("NotKnown", "name")]
/-- of the class besides -/
def clsB (K : PySem.W.Frag) (C : Addr) : Bool := He.eqO (PySem.W.findIn K (.ref C) "__class__") (some (some (.builtin "object.__class__"))) && (He.eqO (PySem.W.specialIn K (.builtin "object.__class__") "__get__") (some (some (.builtin "getset_descriptor.__get__"))) &&
  (decide (PySem.W.takesIn K (.builtin "object.__class__") = some true) && decide (PySem.W.mroIn K C (.type "object") = some true)))
def farB (K : PySem.W.Frag) (C : Addr) (t : Value) : Bool := PySem.W.notFirst K C t && decide (PySem.W.kitOne K t (.ref C) = some false)
def keB (K : PySem.W.Frag) (x : Str) : Bool := decide (PySem.W.exmOne K (.type "KeyError") (.ref (He.ga K x)) = some false)
def moreT (K : PySem.W.Frag) : Bool := clsB K (He.ga K "Table") && (clsB K (He.ga K "File") && (keB K "NoQuestion" && (keB K "Known" && keB K "NotKnown")))
def csL (K : PySem.W.Frag) : List (Addr × Addr) := tfT.map (He.cT K)
def diffT (K : PySem.W.Frag) : Bool := decide ((tfT.map fun p => (He.cT K p).2).Nodup) && ((erT.all fun p => errB K p.1 p.2) && moreT K)
def obsK (g : Addr → Option Obj) : He.AlD × Bool := (He.obsD faT fnT (He.frT g asK), diffT (He.frT g asK) && He.tabsB g tfT (He.frT g asK))
structure SaysK (h : Heap) (K : PySem.W.Frag) : Prop where
  d : He.SaysD faT fnT K
  np : (tfT.map fun p => (He.cT K p).2).Nodup
  er : ∀ p ∈ erT, errB K p.1 p.2 = true
  mo : moreT K = true
  hd : ∀ p ∈ tfT, PySem.W.codeHdIn K (He.cT K p).1 (He.cT K p).2 = true
  out : ∀ p ∈ tfT, K.lookup (He.cT K p).2 = none
  empty : ∀ p ∈ tfT, h.get? (He.cT K p).2 = some { cls := .none, data := .fields #[] }
theorem saysK_of {h : Heap} (e : obsK h.get? = (He.valD fnT, true)) : SaysK h (He.frT h.get? asK) := by
  have e1 : He.obsD faT fnT (He.frT h.get? asK) = He.valD fnT := congrArg (fun z : He.AlD × Bool => z.1) e
  have e2 : (diffT (He.frT h.get? asK) && He.tabsB h.get? tfT (He.frT h.get? asK)) = true := congrArg (fun z : He.AlD × Bool => z.2) e
  obtain ⟨h1, h2⟩ := He.ba e2
  have key : ∀ p ∈ tfT, PySem.W.codeHdIn (He.frT h.get? asK) (He.cT (He.frT h.get? asK) p).1 (He.cT (He.frT h.get? asK) p).2 = true ∧ ∃ o, h.get? (He.cT (He.frT h.get? asK) p).2 = some o ∧ He.emptyTab o = true := fun p hp => by
    obtain ⟨h3, h4⟩ := He.ba (List.all_eq_true.mp h2 p hp)
    refine ⟨h3, ?_⟩
    cases q : h.get? (He.cT (He.frT h.get? asK) p).2 with
    | none => rw [q] at h4; cases h4
    | some o => rw [q] at h4; exact ⟨o, rfl, h4⟩
  obtain ⟨h5, h6⟩ := He.ba h1
  obtain ⟨h6, h7⟩ := He.ba h6
  exact ⟨e1, of_decide_eq_true h5, fun p hp => List.all_eq_true.mp h6 p hp, h7, fun p hp => (key p hp).1, (fun p hp => by
    obtain ⟨_, o, q, z⟩ := key p hp
    exact He.frT_none q z), (fun p hp => by
    obtain ⟨_, o, q, z⟩ := key p hp
    rw [q, He.emptyTab_eq z])⟩
section
variable {h : Heap} {K : PySem.W.Frag}
theorem SaysK.hdC (c : SaysK h K) {p : Addr × Addr} (hp : p ∈ csL K) : PySem.W.codeHdIn K p.1 p.2 = true := by
  obtain ⟨q, hq, e⟩ := List.mem_map.mp hp
  rw [← e]
  exact c.hd q hq
theorem SaysK.outC (c : SaysK h K) {p : Addr × Addr} (hp : p ∈ csL K) : K.lookup p.2 = none := by
  obtain ⟨q, hq, e⟩ := List.mem_map.mp hp
  rw [← e]
  exact c.out q hq
theorem SaysK.emptyC (c : SaysK h K) {p : Addr × Addr} (hp : p ∈ csL K) : h.get? p.2 = some { cls := .none, data := .fields #[] } := by
  obtain ⟨q, hq, e⟩ := List.mem_map.mp hp
  rw [← e]
  exact c.empty q hq
end
def hookK : PySem.W.Hook where
  α := He.AlD × Bool
  obs := fun s => obsK s.heap.get?
  val := fun _ => (He.valD fnT, true)
  says := fun _ h => ∃ K : PySem.W.Frag, K.In h ∧ SaysK h K
  of := fun _ _ e => ⟨_, He.frT_in, saysK_of e⟩
  keeps := fun _ _ _ ⟨K, hK, c⟩ k => ⟨K, PySem.W.Frag.In.keeps hK k, ⟨c.d, c.np, c.er, c.mo, c.hd, c.out, fun p hp => k _ _ (c.empty p hp)⟩⟩
def obT (s : PySem.W.SharedT) : He.AlD × Bool := obsK (HandSHeadRun.getT s)
theorem obT_eq (s : PySem.W.SharedT) : obT s = hookK.obs s.abs := by
  have e : HandSHeadRun.getT s = s.abs.heap.get? := funext fun a => HandSHeadRun.getT_eq s a
  unfold obT
  rw [e] <;> rfl
namespace HdR
open PySem PySem.W PySem.Calls PyProof.Rows
abbrev R : OpenRow := OpenLaw.row PySem.Challenge.rw_twoworlds_k07_live_files
abbrev qv : Program := view R.prog [47]
def names : List PySem.Str := (["_wall", "WorldError", "BadWorld", "BadKnown", "NoQuestion", "BadPlan", "BadAnswers", "Known", "NotKnown", "BadRow", "UnlikeQuestions", "is_integer", "is_list", "is_name", "is_one_of", "has_just", "first_bad", "check_known", "check_asked", "check_both", "check_lacking", "told_by", "File", "Table", "_are_integers", "_first_bad_row", "_law_t_names", "_law_t_rows", "_law_t_key", "_law_t_tells"] : List PySem.Str) ++
  (["_law_start", "_law_draw", "_law_pick", "_law_same", "_law_tried", "_law_stands", "_law_deed", "_law_work", "_law_trial_right", "SIGNS", "LONGEST"] : List PySem.Str)
set_option maxHeartbeats 0 in
theorem run (w : World) : HandSHeadRun.RunEq R qv L2.TB.hookK L2.TB.obT 16000 names w := by
  intro os
  kernel_rfl
end HdR
end L2.TB
/-! tables of code objects, one within another -/
namespace LM
open PySem PySem.Spec PySem.Calls PyProof.Rows L2 LamX
/-- the object at c is a code object of the name q, its own table at P -/
def CodeP (c : Addr) (q : Str) (P : Addr) : HO := .ext fun h => h.CodeRec (.ref c) q ∧ PySem.W.CodeHd h c P
theorem codeP_ne {c P : Addr} {q : Str} (ps : Array Value) : CodeP c q P ≠ .tbl ps := fun z => by
  unfold CodeP at z
  cases z
theorem codeP_at {Pr : Program} {w : World} {H : Hp} {h : Heap} {c P : Addr} {q : Str} (ok : HOk Pr w H h) (e : H c = some (CodeP c q P)) : h.CodeRec (.ref c) q ∧ PySem.W.CodeHd h c P := (ok c _ e).1
theorem codeP_ok {Pr : Program} {w : World} {H : Hp} {h : Heap} {c P : Addr} {q : Str} (r : h.CodeRec (.ref c) q) (k : PySem.W.CodeHd h c P) : ObjOk Pr w H h c (CodeP c q P) := by
  obtain ⟨c1, o, vs, t, e1, e2, e3, e4⟩ := id r
  cases e1
  refine ⟨⟨r, k⟩, ⟨o, e2⟩, fun h1 h2 z st => ⟨?_, ?_⟩⟩
  · obtain ⟨c1, o, vs, t, a1, a2, a3, a4⟩ := z.1
    cases a1
    exact ⟨_, o, vs, t, rfl, st _ a2, a3, a4⟩
  · obtain ⟨o, vs, b1, b2, b3, b4, b5, b6, b7, a, b⟩ := z.2
    exact ⟨o, vs, b1, b2, b3, b4, b5, b6, b7, st _ a, b⟩
/-- tables, each with the names of its code objects, of those in their tables, .. -/
abbrev Tau := List (Addr × List Str)
structure TabOk (τ : Tau) (H : Hp) : Prop where
  fn : ∀ p ∈ τ, ∀ p' ∈ τ, p.1 = p'.1 → p = p'
  ok : ∀ p ∈ τ, ∃ (ps : Array Value) (q : Str) (qs : List Str), p.2 = q :: qs ∧ H p.1 = some (.tbl ps) ∧ TriplesOk ps.toList ∧
    ∀ (pos : Pos) (cv : Value), codeAmong pos ps.toList = some cv → ∃ c P2, cv = .ref c ∧ H c = some (CodeP c q P2) ∧ (qs ≠ [] → (P2, qs) ∈ τ)
def TabT (T : Tau) (H : Hp) : Prop := ∃ τ : Tau, (∀ p ∈ T, p ∈ τ) ∧ TabOk τ H
theorem TabT.weak {T T' : Tau} {H : Hp} (h : TabT T' H) (s : ∀ p ∈ T, p ∈ T') : TabT T H := let ⟨τ, a, b⟩ := h; ⟨τ, fun p hp => a p (s p hp), b⟩
/-- tables and code objects stay -/
def Lits (H H' : Hp) : Prop := ∀ b o, H b = some o → ((∃ ps, o = .tbl ps) ∨ ∃ φ, o = .ext φ) → H' b = some o
theorem Lits.of {H H' : Hp} (s : Same H H') : Lits H H' := fun b o e _ => s b o e
theorem Lits.trans {H H1 H2 : Hp} (a : Lits H H1) (b : Lits H1 H2) : Lits H H2 := fun c o e k => b c o (a c o e k) k
theorem TabT.lits {T : Tau} {H H' : Hp} (h : TabT T H) (s : Lits H H') : TabT T H' := by
  obtain ⟨τ, a, b⟩ := h
  refine ⟨τ, a, b.fn, fun p hp => ?_⟩
  obtain ⟨ps, q, qs, e1, e2, e3, e4⟩ := b.ok p hp
  refine ⟨ps, q, qs, e1, s _ _ e2 (.inl ⟨_, rfl⟩), e3, fun pos cv hc => ?_⟩
  obtain ⟨c, P2, k1, k2, k3⟩ := e4 pos cv hc
  exact ⟨c, P2, k1, s _ _ k2 (.inr ⟨_, rfl⟩), k3⟩
theorem TabT.same {T : Tau} {H H' : Hp} (h : TabT T H) (s : Same H H') : TabT T H' := h.lits (.of s)
/-- what is written is neither a table nor a code object -/
theorem Lits.upd {H : Hp} {a : Addr} {o u : HO} (e : H a = some o) (n1 : ∀ ps, o ≠ .tbl ps) (n2 : ∀ φ, o ≠ .ext φ) : Lits H (upd H a u) := fun b v hb k => by
  have nb : b ≠ a := fun z => by
    rw [z, e] at hb
    cases hb
    rcases k with ⟨ps, k⟩ | ⟨φ, k⟩
    · exact n1 ps k
    · exact n2 φ k
  exact (upd_ne nb).trans hb
/-- empty tables -/
theorem tabT_nil {T : Tau} {H : Hp} (fn : ∀ p ∈ T, ∀ p' ∈ T, p.1 = p'.1 → p = p') (nn : ∀ p ∈ T, p.2 ≠ []) (h : ∀ p ∈ T, H p.1 = some (.tbl #[])) : TabT T H := by
  refine ⟨T, fun _ h => h, fn, fun p hp => ?_⟩
  obtain ⟨P, l⟩ := p
  cases l with
  | nil => exact absurd rfl (nn _ hp)
  | cons q qs => exact ⟨#[], q, qs, rfl, h _ hp, True.intro, fun pos cv hc => by
      have z : codeAmong pos [] = some cv := hc
      simp [codeAmong] at z⟩
section
variable {M : Model} {A : Around} {E : Value → Shared → Prop} {s : Shared} {nm q : Str} {pr : Arguments} {bd : Expr} {sc : Scope} {env : Env} {c P : Addr} {ps : Array Value} {pos : Pos} {ln : Nat} {mg : Str → Option Value} {clos : List (Str × Addr)} {Q : Value → Shared → Prop}
/-- a function made whose code is new: the code's own table is known, too -/
theorem made_new (cl : closureFor sc env = pure clos) (ge : env.globals = mainGlobals) (g : s.heap.Ns mainGlobals mg) (ec : env.code = .ref c) (C : PySem.W.CodeHd s.heap c P) (eP : s.heap.get? P = some (PySem.W.tabObj ps)) (t3 : TriplesOk ps.toList)
    (nf : codeAmong pos ps.toList = none) (nG : mainGlobals ≠ P) (bi : s.heap.BuiltinsAt mg P)
    (go : ∀ c2 P2 ctv h2 tk, Heap.ExtBut P s.heap h2 → s.heap.objs.size ≤ c2 → c2 < h2.objs.size → s.heap.objs.size ≤ P2 → h2.CodeRec (.ref c2) q → PySem.W.CodeHd h2 c2 P2 → h2.get? P2 = some (PySem.W.tabObj #[]) →
      h2.get? P = some (PySem.W.tabObj (ps ++ #[rawInt pos.line, rawInt pos.col, .ref c2])) → Q (.ref h2.objs.size) { s with heap := h2.push (PySem.W.kla_obj nm q pr bd sc clos ((mg "__name__").getD .none) c2 ctv), toks := tk }) :
    wpAny M A (makeFunction nm q pr (.expr bd) sc env [] [] [] pos ln) Q E s := by
  rw [makeFunction_eq]
  simp only [if_true, pure_bind, List.isEmpty_nil, List.filterMap_nil, List.zip_nil_right]
  unfold makeTail
  rw [cl, ge]
  refine wpAny_bind (wpAny_pure ?_)
  obtain ⟨bm, ob, e1, e2, _, e3, e4, e5, e6, e7⟩ := bi
  cases clos with
  | nil =>
    simp only [if_true, List.isEmpty_nil]
    refine wpAny_bind (wpAny_pure (wpAny_bind (wpAny_functionCodeX ec (C.code eP t3) (C.tab eP) nf fun c2 h2 tk x l1 l2 _ r1 r2 r3 => ?_)))
    obtain ⟨P2, l3, k1, k2⟩ := r3
    have g2 := g.extBut x nG
    exact wpAny_bind (wpAny_builtinsFor g2 e1 e2 (x _ _ e3 e4) e5 e6 e7 (wpAny_bind (wpAny_nsGet g2 (wpAny_bind (wpAny_pure (wpAny_newObj_type (go c2 P2 .none h2 tk x l1 l2 l3 r1 (.of k1 k2) k2.2 r2.2) (by size_fits)))))))
  | cons z r =>
    simp only [if_false, Bool.false_eq_true, List.isEmpty_cons]
    refine wpAny_bind (wpAny_newTextTuple ?_)
    have up : ∀ (oT : Obj) b o, s.heap.get? b = some o → (s.heap.push oT).get? b = some o := fun oT b o e => Heap.get?_push_of_some _ e
    refine wpAny_bind (wpAny_functionCodeX ec ((C.keeps (up _)).code (up _ _ _ eP) t3) ((C.keeps (up _)).tab (up _ _ _ eP)) nf fun c2 h2 tk x l1 l2 _ r1 r2 r3 => ?_)
    obtain ⟨P2, l3, k1, k2⟩ := r3
    have g2 := (g.push _).extBut x nG
    have big : ∀ oT : Obj, s.heap.objs.size ≤ (s.heap.push oT).objs.size := fun oT => by
      rw [Heap.size_push]
      omega
    exact wpAny_bind (wpAny_builtinsFor g2 e1 e2 (x _ _ e3 (up _ _ _ e4)) e5 e6 e7 (wpAny_bind (wpAny_nsGet g2 (wpAny_bind (wpAny_pure (wpAny_newObj_type
      (go c2 P2 _ h2 tk (fun b o nb e => x b o nb (up _ _ _ e)) (Nat.le_trans (big _) l1) l2 (Nat.le_trans (big _) l3) r1 (.of k1 k2) k2.2 r2.2) (by size_fits)))))))
end
section
variable {X : Cx} {pins : List (Addr × Obj)} {σ : L2.St} {H : Hp} {s : Shared}
/-- the table is written; the code object and its table are new and known from now on -/
theorem inv_code {P c P2 : Addr} {q : Str} {ps more : Array Value} {h' : Heap} {t' : Nat} (I : Inv X pins σ H s) (hP : H P = some (.tbl ps)) (k : ∀ b o, b ≠ P → s.heap.get? b = some o → h'.get? b = some o) (hm : h'.get? P = some { cls := .none, data := .fields (ps ++ more) })
    (hc : s.heap.objs.size ≤ c) (hc2 : s.heap.objs.size ≤ P2) (r : h'.CodeRec (.ref c) q) (kd : PySem.W.CodeHd h' c P2) (e2 : h'.get? P2 = some { cls := .none, data := .fields #[] }) : Inv X pins σ (upd (upd (upd H P (.tbl (ps ++ more))) c (CodeP c q P2)) P2 (.tbl #[])) { s with heap := h', toks := t' } := by
  have nC : H c = none := I.hok.fresh hc
  have n2 : H P2 = none := I.hok.fresh hc2
  have nPc : P ≠ c := ne_of_none hP nC
  have nP2 : P ≠ P2 := ne_of_none hP n2
  have ncP : c ≠ P2 := by
    obtain ⟨_, _, _, _, _, _, _, _, _, _, _, _, _, _, _, _, _, _, z⟩ := kd
    exact z
  have at_ : ∀ b, b ≠ P → b ≠ c → b ≠ P2 → upd (upd (upd H P (.tbl (ps ++ more))) c (CodeP c q P2)) P2 (.tbl #[]) b = H b := fun b h1 h2 h3 => by rw [upd_ne h3, upd_ne h2, upd_ne h1]
  have atP : upd (upd (upd H P (.tbl (ps ++ more))) c (CodeP c q P2)) P2 (.tbl #[]) P = some (.tbl (ps ++ more)) := by rw [upd_ne nP2, upd_ne nPc, upd_same]
  have atC : upd (upd (upd H P (.tbl (ps ++ more))) c (CodeP c q P2)) P2 (.tbl #[]) c = some (CodeP c q P2) := by rw [upd_ne ncP, upd_same]
  have nP : ∀ b u, H b = some u → (∀ q, u ≠ .tbl q) → b ≠ P := fun b u e z y => by
    rw [y, hP] at e
    exact z ps (Option.some.inj e).symm
  have nN : ∀ b, H b = none → b ≠ P := fun b e z => by rw [z, hP] at e; cases e
  have old : ∀ b o, s.heap.get? b = some o → b ≠ c ∧ b ≠ P2 := fun b o e => by
    have l := Heap.lt_size e
    exact ⟨Nat.ne_of_lt (Nat.lt_of_lt_of_le l hc), Nat.ne_of_lt (Nat.lt_of_lt_of_le l hc2)⟩
  have sm : ∀ b u, H b = some u → b ≠ c ∧ b ≠ P2 := fun b u e => ⟨ne_of_none e nC, ne_of_none e n2⟩
  have on_ : ∀ b u, H b = some u → (∀ q, u ≠ .tbl q) → upd (upd (upd H P (.tbl (ps ++ more))) c (CodeP c q P2)) P2 (.tbl #[]) b = some u := fun b u e z => (at_ b (nP b u e z) (sm b u e).1 (sm b u e).2).trans e
  refine I.step (g' := s.gens) (d' := s.drawn) (ch := []) (fun b z => absurd z (by simp)) (fun b o _ _ _ e n => k b o (nN b n) e) (fun b o _ _ _ e n => ⟨o.slots, k b o (nN b n) e⟩) (fun b o _ e n => (at_ b (nN b n) (old b o e).1 (old b o e).2).trans n)
    (fun b o _ e => ?_) (fun b xs e => on_ b _ e (fun q z => by cases z)) (fun b o u e => on_ b _ e (fun q z => by cases z)) (fun b qs e => ?_) (fun m hn => ?_) (fun b u e => ?_) I.bare
  · by_cases hb : b = P
    · exact ⟨_, hb ▸ hm⟩
    · exact ⟨o, k b o hb e⟩
  · by_cases hb : b = P
    · rw [hb, hP] at e
      cases e
      exact ⟨more, hb ▸ atP⟩
    · exact ⟨#[], by rw [at_ b hb (sm b _ e).1 (sm b _ e).2, e]; simp⟩
  · obtain ⟨ob, es, ep, ho, r⟩ := hn
    exact ⟨ob, es, ep, k _ ob (nN _ I.free) ho, r⟩
  · by_cases b1 : b = P2
    · rw [b1, upd_same] at e
      cases e
      rw [b1]
      exact e2
    by_cases b2 : b = c
    · rw [b2, atC] at e
      cases e
      rw [b2]
      exact codeP_ok r kd
    by_cases b3 : b = P
    · rw [b3, atP] at e
      cases e
      rw [b3]
      exact hm
    rw [at_ b b3 b2 b1] at e
    refine (I.hok b u e).stay (fun d v hd z => k d v ?_ z) (fun d z => on_ d _ z (fun q z => by cases z)) fun d xs z => on_ d _ z (fun q z => by cases z)
    rcases hd with y | y
    · rw [y]; exact b3
    · exact nP d _ y (fun q z => by cases z)
/-- where the running body's code object stands, and its table -/
def CodeAt (X : Cx) (H : Hp) (c P : Addr) : Prop := X.env.code = .ref c ∧ (PySem.W.CodeHd X.base c P ∨ ∃ q, H c = some (CodeP c q P))
/-- the lambda is made: its code object is new, or found in the table -/
theorem lam_made {T : Tau} {c P : Addr} {q : Str} {qs : List Str} {params : Arguments} {body : Expr} {scope : Scope} {pos : Pos} {E : Value → Shared → Prop} {Q : Value → Shared → Prop} (I : Inv X pins σ H s) (hcode : CodeAt X H c P) (hb0 : ∃ P0, X.base.BuiltinsAt X.mg P0)
    (hm : (P, q :: qs) ∈ T) (hq : X.env.qual ++ "<lambda>" = q) (hT : TabT T H) (hdef : defaultsOf params X.env = ([], [])) (hfree : ∀ y ∈ scope.names, y.2 = .free → ∃ c, X.env.cells.lookup y.1 = some c)
    (h : ∀ (f c' P2 : Addr) (pm ctv : Value) (H1 : Hp) (s' : Shared), Inv X pins σ H1 s' → ExtN H H1 → (qs ≠ [] → TabT ((P2, qs) :: T) H1) → TabT T H1 →
      s'.heap.get? f = some (PySem.W.kla_obj "<lambda>" q params body scope (cloFrom X.env.cells scope.names []) pm c' ctv) → H1 f = none → f ∉ frs X.stack → H1 c' = some (CodeP c' q P2) → Q (.ref f) s') :
    wpAny (model X.prog X.w) X.A (eval (.Lambda params body scope pos) X.env) Q E s := by
  obtain ⟨τ, sub, ok⟩ := hT
  obtain ⟨ps, q0, qs0, e0, hP, t3, ha⟩ := ok.ok _ (sub _ hm)
  obtain ⟨eq1, eq2⟩ := List.cons.inj e0
  subst eq1 eq2
  obtain ⟨hc, hcd⟩ := hcode
  have C : PySem.W.CodeHd s.heap c P := by
    rcases hcd with k | ⟨q, k⟩
    · exact k.keeps I.bk
    · exact (codeP_at I.hok k).2
  have nb : X.base.get? P = none := by
    cases z : X.base.get? P with
    | none => rfl
    | some o =>
      have y := (I.bs P o z).2
      rw [hP] at y
      cases y
  have bi : s.heap.BuiltinsAt X.mg P := by
    obtain ⟨P0, bm, ob, e1, e2, e3, _, e4, e5⟩ := hb0
    exact ⟨bm, ob, e1, e2, e3, fun z => (by rw [z, nb] at e4; cases e4), I.bk _ _ e4, e5⟩
  have nG : mainGlobals ≠ P := fun z => by
    obtain ⟨ob, es, ep, e, _⟩ := I.mod.glob
    rw [z, nb] at e
    cases e
  have gP : s.heap.get? P = some { cls := .none, data := .fields ps } := I.hok P _ hP
  have nofr : ∀ f, s.heap.objs.size ≤ f → f ∉ frs X.stack := fun f hf z => by
    rcases List.mem_cons.mp (I.stkSub _ z) with e | e
    · have l := I.lt
      rw [← e] at l
      exact Nat.lt_irrefl _ (Nat.lt_of_lt_of_le l hf)
    · exact I.nofs hf e
  have cl := closure_ok (env := X.env) (scope := scope) hfree
  refine PySem.W.kla_eval hdef ?_
  rw [hq]
  cases hca : codeAmong pos ps.toList with
  | some cv =>
    obtain ⟨c2, P2, rfl, hco, hk⟩ := ha pos cv hca
    refine PySem.W.kla_makeFunctionHit (mg := X.mg) (c := c) (P := P) (ps := ps) cl I.ok.glob (I.mod.glob.keeps I.bk) hc C gP t3 hca bi fun ctv h' tk hx hsz => ?_
    exact h h'.objs.size c2 P2 _ ctv H _ (I.kept fun b o e => Heap.get?_push_of_some _ (hx b o e)) (ExtN.refl H) (fun z => ⟨τ, fun p hp => (List.mem_cons.mp hp).elim (fun y => y ▸ hk z) (sub p), ok⟩) ⟨τ, sub, ok⟩ (Heap.get?_push_size _ rfl) (I.hok.fresh hsz) (nofr _ hsz) hco
  | none =>
    refine made_new (mg := X.mg) (c := c) (P := P) (ps := ps) cl I.ok.glob (I.mod.glob.keeps I.bk) hc C gP t3 hca nG bi fun c2 P2 ctv h' tk hx l1 l2 l3 r1 r2 r3 r4 => ?_
    have nC : H c2 = none := I.hok.fresh l1
    have n2 : H P2 = none := I.hok.fresh l3
    have ncP : c2 ≠ P2 := by
      obtain ⟨_, _, _, _, _, _, _, _, _, _, _, _, _, _, _, _, _, _, z⟩ := r2
      exact z
    have up : ∀ (oT : Obj) b o, h'.get? b = some o → (h'.push oT).get? b = some o := fun oT b o e => Heap.get?_push_of_some _ e
    have I1 := inv_code (t' := tk) (q := q) (more := #[rawInt pos.line, rawInt pos.col, .ref c2]) (h' := h'.push (PySem.W.kla_obj "<lambda>" q params body scope (cloFrom X.env.cells scope.names []) ((X.mg "__name__").getD .none) c2 ctv)) I hP
      (fun b o hb e => up _ _ _ (hx b o hb e)) (up _ _ _ r4) l1 l3 (r1.push _) (r2.keeps (up _)) (up _ _ _ r3)
    have eL : (ps ++ #[rawInt pos.line, rawInt pos.col, .ref c2]).toList = ps.toList ++ [rawInt pos.line, rawInt pos.col, .ref c2] := by simp
    have hE : ExtN H (upd (upd (upd H P (.tbl (ps ++ #[rawInt pos.line, rawInt pos.col, .ref c2]))) c2 (CodeP c2 q P2)) P2 (.tbl #[])) := fun b o e n => by
      rw [upd_ne (ne_of_none e n2), upd_ne (ne_of_none e nC), upd_ne (fun z => n ps (Option.some.inj (e.symm.trans (by rw [z]; exact hP))))]
      exact e
    have ok2 : TabOk (if qs = [] then τ else (P2, qs) :: τ) (upd (upd (upd H P (.tbl (ps ++ #[rawInt pos.line, rawInt pos.col, .ref c2]))) c2 (CodeP c2 q P2)) P2 (.tbl #[])) := by
      have news : ∀ p ∈ τ, p.1 ≠ P2 := fun p hp z => by
        obtain ⟨ps', _, _, _, e, _⟩ := ok.ok p hp
        rw [z, n2] at e
        cases e
      have ins : ∀ p ∈ τ, p ∈ (if qs = [] then τ else (P2, qs) :: τ) := fun p hp => by
        split
        · exact hp
        · exact List.mem_cons_of_mem _ hp
      have cases_ : ∀ p ∈ (if qs = [] then τ else (P2, qs) :: τ), p ∈ τ ∨ (p = (P2, qs) ∧ qs ≠ []) := fun p hp => by
        split at hp
        · exact .inl hp
        · rename_i nz
          exact (List.mem_cons.mp hp).elim (fun y => .inr ⟨y, nz⟩) .inl
      refine ⟨fun p hp p' hp' e => ?_, fun p hp => ?_⟩
      · rcases cases_ p hp with h1 | ⟨h1, _⟩ <;> rcases cases_ p' hp' with h2 | ⟨h2, _⟩
        · exact ok.fn p h1 p' h2 e
        · rw [h2] at e; exact absurd e (news p h1)
        · rw [h1] at e; exact absurd e.symm (news p' h2)
        · rw [h1, h2]
      · rcases cases_ p hp with h1 | ⟨rfl, nz⟩
        · obtain ⟨ps', q1, qs1, a1, a2, a3, a4⟩ := ok.ok p h1
          by_cases z : p.1 = P
          · have ep := ok.fn p h1 _ (sub _ hm) z
            rw [ep] at a1 a2
            obtain ⟨rfl, rfl⟩ := List.cons.inj a1
            have eps : ps' = ps := by
              have y := a2.symm.trans hP
              cases y
              rfl
            subst eps
            refine ⟨_, q, qs, by rw [ep], by rw [z, upd_ne (ne_of_none hP n2), upd_ne (ne_of_none hP nC), upd_same], by rw [eL]; exact PySem.TriplesOk_snoc _ _ _ _ t3, fun p' cv hcv => ?_⟩
            rw [eL] at hcv
            rcases among_app _ t3 hcv with y | y
            · obtain ⟨c0, P0, k1, k2, k3⟩ := ha p' cv y
              exact ⟨c0, P0, k1, hE _ _ k2 codeP_ne, fun nz => ins _ (k3 nz)⟩
            · exact ⟨c2, P2, y, by rw [upd_ne ncP, upd_same], fun nz => by rw [if_neg nz]; exact List.mem_cons_self⟩
          · refine ⟨ps', q1, qs1, a1, by rw [upd_ne (news p h1), upd_ne (ne_of_none a2 nC), upd_ne z]; exact a2, a3, fun p' cv hcv => ?_⟩
            obtain ⟨c0, P0, k1, k2, k3⟩ := a4 p' cv hcv
            exact ⟨c0, P0, k1, hE _ _ k2 codeP_ne, fun nz => ins _ (k3 nz)⟩
        · cases qs with
          | nil => exact absurd rfl nz
          | cons q1 qs1 => exact ⟨#[], q1, qs1, rfl, upd_same, True.intro, fun p' cv hcv => by
              have y : codeAmong p' [] = some cv := hcv
              simp [codeAmong] at y⟩
    have sub2 : ∀ p ∈ T, p ∈ (if qs = [] then τ else (P2, qs) :: τ) := fun p hp => by
      split
      · exact sub p hp
      · exact List.mem_cons_of_mem _ (sub p hp)
    have big : s.heap.objs.size ≤ h'.objs.size := Nat.le_trans l1 (Nat.le_of_lt l2)
    refine h h'.objs.size c2 P2 _ ctv _ _ I1 hE (fun nz => ⟨_, fun p hp => ?_, ok2⟩) ⟨_, sub2, ok2⟩ (Heap.get?_push_size _ rfl) ?_ (nofr _ big) (by rw [upd_ne ncP, upd_same])
    · rcases List.mem_cons.mp hp with y | y
      · rw [y, if_neg nz]; exact List.mem_cons_self
      · exact sub2 p y
    · have l4 : P2 < h'.objs.size := Heap.lt_size r3
      have l5 : P < h'.objs.size := Heap.lt_size r4
      rw [upd_ne (Nat.ne_of_gt l4), upd_ne (Nat.ne_of_gt l2), upd_ne (Nat.ne_of_gt l5)]
      exact I.hok.fresh big
end
end LM
/-! lambdas with or without a parameter, handed to a def or to a method that calls them -/
namespace LM
open PySem PySem.Spec PySem.Calls PyProof.Rows L2 LamX
/-- its parameters ps; captured names, globals; nothing else -/
structure LamP (sc scope : Scope) (ps : List Str) : Prop where
  kind : scope.kind = .function
  co : scope.isCoroutine = false
  gen : scope.isGenerator = false
  nd : ps.Nodup
  par : ∀ x ∈ ps, scope.names.lookup x = some .local
  nocell : ∀ y ∈ scope.names, y.2 ≠ .cell
  own : ∀ y ∈ scope.names, y.2 = .local → y.1 ∈ ps
  free : ∀ y ∈ scope.names, y.2 = .free → sc.names.lookup y.1 = some .cell ∨ sc.names.lookup y.1 = some .free
def lamPB (sc scope : Scope) (ps : List Str) : Bool :=
  decide (scope.kind = .function) && !scope.isCoroutine && !scope.isGenerator && decide ps.Nodup && (ps.all fun x => decide (scope.names.lookup x = some .local)) &&
    (scope.names.all fun y => !decide (y.2 = .cell)) && (scope.names.all fun y => !decide (y.2 = .local) || decide (y.1 ∈ ps)) && scope.names.all fun y => !decide (y.2 = .free) || decide (sc.names.lookup y.1 = some .cell) || decide (sc.names.lookup y.1 = some .free)
theorem lamP_by {sc scope : Scope} {ps : List Str} (h : lamPB sc scope ps = true) : LamP sc scope ps := by
  unfold lamPB at h
  simp only [Bool.and_eq_true, Bool.or_eq_true, Bool.not_eq_true', decide_eq_true_eq, decide_eq_false_iff_not, List.all_eq_true] at h
  obtain ⟨⟨⟨⟨⟨⟨⟨a1, a2⟩, a3⟩, a4⟩, a5⟩, a6⟩, a7⟩, a8⟩ := h
  refine ⟨a1, a2, a3, a4, a5, a6, fun y hy e => (a7 y hy).resolve_left fun z => z e, fun y hy e => ?_⟩
  rcases a8 y hy with (z | z) | z
  · exact absurd e z
  · exact .inl z
  · exact .inr z
theorem LamP.has {X : Cx} {scope : Scope} {ps : List Str} (L : LamP X.env.scope scope ps) (ok : X.Ok) : ∀ y ∈ scope.names, y.2 = .free → ∃ c, X.env.cells.lookup y.1 = some c := fun y hy e => (L.free y hy e).elim (fun k => ok.has _ (.inl k)) fun k => ok.has _ (.inr k)
abbrev lamEnvQ (X : Cx) (q : Str) (scope : Scope) (L f c : Addr) : Env := PySem.W.envX q scope L f (.ref c) (cloFrom X.env.cells scope.names [])
/-- the context of its body -/
def lamCxP (X : Cx) (Y : CXT) (A : Around) (outer : List Env) (s : Shared) (H : Hp) (E : XK) (scope : Scope) (f c : Addr) (q : Str) (ps : List Str) : Cx :=
  { prog := X.prog, w := X.w, K := X.K, mg := X.mg, base := X.base, A := A.deeper (lamEnvQ X q scope s.heap.objs.size f c), N := X.N ++ ps, s_0 := s, H_0 := H, env := lamEnvQ X q scope s.heap.objs.size f c, outer := outer, stack := lamEnvQ X q scope s.heap.objs.size f c :: outer,
    ex := [], fn := fun _ => false, calm := true, pn := [],
    xe := fun e s' => wpAny (model X.prog X.w) (A.deeper (lamEnvQ X q scope s.heap.objs.size f c)) (leaving (lamEnvQ X q scope s.heap.objs.size f c) e) (fun _ t => Y outer H s E e t) (fun e' t => Y outer H s E e' t) s' }
section
variable {X : Cx} {Y : CXT} {pins : List (Addr × Obj)} {σ : L2.St} {H HZ : Hp} {s s1 : Shared} {scope : Scope} {ps : List Str} {q : Str} {f c P2 : Addr} {E : XK}
theorem lam_startP {A : Around} {outer : List Env} {h₁ : Heap} {tk : Nat} {us : List Value} {vs : List V} (I : Inv X pins σ H s) (L : LamP X.env.scope scope ps) (nN : ∀ x ∈ ps, x ∉ X.N) (g0 : Env0 X.prog X.w X.K X.mg X.base A outer s1 HZ) (hd : A.handled = none)
    (un : Un (frs X.stack) [] H HZ s.heap s1.heap) (rv : Vals vs us) (hl : vs.length = ps.length) (hn : h₁.Ns s1.heap.objs.size fun y => (ps.zip us).reverse.lookup y) (kp : ∀ b o, s1.heap.get? b = some o → h₁.get? b = some o) :
    Inv (lamCxP X Y A outer s1 HZ E scope f c q ps) [] (σ ++ vs.map some) HZ { s1 with heap := h₁, toks := tk } := by
  have fr := L.has I.ok
  have down : ∀ {y c}, (cloFrom X.env.cells scope.names []).lookup y = some c → X.env.cells.lookup y = some c := fun {y c} e => by
    rcases cloFrom_mem (PySem.mem_of_lookup e) with k | ⟨k1, k2⟩
    · exact absurd k (by simp)
    · obtain ⟨c1, k3⟩ := fr _ k1 rfl
      rw [k2, k3]
      rfl
  have up : ∀ {y}, scope.names.lookup y = some .free → ∃ c, (cloFrom X.env.cells scope.names []).lookup y = some c := fun {y} k => mem_lookup (cloFrom_has (cells := X.env.cells) (acc := []) (show (y, NameKind.free) ∈ scope.names from PySem.mem_of_lookup k))
  have cell : ∀ {c : Addr} {v : Option Value}, H c = none → s.heap.IsCell c v → h₁.IsCell c v := fun {c v} n ⟨o, k1, k2⟩ => by
    obtain ⟨sl, z⟩ := un.any k1 n (by simp)
    exact ⟨_, kp _ _ z, k2⟩
  have nx : ∀ b : Addr, ¬ b ∈ (lamCxP X Y A outer s1 HZ E scope f c q ps).ex := fun b z => by
    have z : b ∈ ([] : List Addr) := z
    simp at z
  have ok : (lamCxP X Y A outer s1 HZ E scope f c q ps).Ok := {
    mod := g0.mod, kind := L.kind, glob := rfl, blt := rfl, above := Nat.le_refl _
    inj := fun y z c a b => I.ok.inj y z c (down a) (down b)
    has := fun y hy => by
      have hy : scope.names.lookup y = some .cell ∨ scope.names.lookup y = some .free := hy
      exact hy.elim (fun k => absurd rfl (L.nocell _ (PySem.mem_of_lookup k))) up
    cab := fun y c z _ => by
      have z : false = true := z
      cases z
    hd := fun _ => hd
    frames := Around.frames_deeper g0.frames
    stk := .inr ⟨rfl, rfl⟩
    exf := fun b z => absurd z (nx b)
    bs := g0.bs, bsz := g0.bsz, noex := fun b _ _ => nx b, exfs := fun b z => absurd z (nx b), funs := g0.funs, frf := g0.frf }
  refine { ok := ok, os := rfl, bare := g0.bare, base := Un.kept kp, loc := ⟨_, hn, fun i y v e1 e2 e3 => ?_⟩, cell := fun y c e => ?_, free := g0.hok.fresh (Nat.le_refl _), freeC := fun y c e => ?_, pin := fun p z => absurd (show p ∈ ([] : List (Addr × Obj)) from z) (by simp), hok := g0.hok.kept kp, len := ?_ }
  · have e1 : (X.N ++ ps)[i]? = some y := e1
    have e3 : Vis scope y := e3
    have len := I.len
    by_cases lt : i < X.N.length
    · rw [List.getElem?_append_left lt] at e1
      rw [List.getElem?_append_left (by rw [len]; exact lt)] at e2
      rcases e3 with k | k | k
      · exact absurd (List.mem_of_getElem? e1) (nN _ (L.own _ (PySem.mem_of_lookup k) rfl))
      · exact absurd rfl (L.nocell _ (PySem.mem_of_lookup k))
      · obtain ⟨m, _, at_⟩ := I.loc
        have vis : Vis X.env.scope y := .inr (L.free _ (PySem.mem_of_lookup k) rfl)
        obtain ⟨u, ru, lo⟩ := at_ i y v e1 e2 vis
        obtain ⟨c2, k2⟩ := up k
        refine ⟨u, ru, .inr ⟨.inr k, c2, k2, ?_⟩⟩
        have k3 := down k2
        rcases lo with ⟨k', _⟩ | ⟨_, c3, e', z⟩
        · have k' : X.env.scope.names.lookup y = some .local := k'
          have k4 := L.free _ (PySem.mem_of_lookup k) rfl
          rw [show X.env.scope.names.lookup (y, NameKind.free).1 = some .local from k'] at k4
          rcases k4 with z | z <;> cases z
        · rw [k3] at e'
          cases e'
          exact cell (I.freeC y _ k3) z
    · rw [List.getElem?_append_right (by omega)] at e1
      rw [List.getElem?_append_right (by omega), List.getElem?_map, len] at e2
      obtain ⟨v', a1, a2⟩ := Option.map_eq_some_iff.mp e2
      obtain rfl := Option.some.inj a2
      obtain ⟨u, hu, ru⟩ := rv.get a1
      exact ⟨u, ru, .inl ⟨L.par y (List.mem_of_getElem? e1), NdefX.zip_look L.nd e1 hu⟩⟩
  · obtain ⟨v, z⟩ := I.cell y c (down e)
    exact ⟨v, cell (I.freeC y c (down e)) z⟩
  · obtain ⟨v, o, k1, _⟩ := I.cell y c (down e)
    exact un.free c o k1 (I.freeC y c (down e)) (by simp)
  · show (σ ++ vs.map some).length = (X.N ++ ps).length
    rw [List.length_append, List.length_append, List.length_map, I.len, hl]
/-- the lambda runs -/
theorem run_lam {A : Around} {outer : List Env} {us : List Value} {vs : List V} {params : Arguments} {body : Expr} {pm ctv : Value} {k : Nat} {tb : TE} {Q : VK} (I : Inv X pins σ H s) (L : LamP X.env.scope scope ps) (nN : ∀ x ∈ ps, x ∉ X.N) (hr : Room (k + 1) A)
    (g0 : Env0 X.prog X.w X.K X.mg X.base A outer s1 HZ) (un : Un (frs X.stack) [] H HZ s.heap s1.heap) (of1 : s1.heap.get? f = some (PySem.W.kla_obj "<lambda>" q params body scope (cloFrom X.env.cells scope.names []) pm c ctv))
    (hbind : bindArgs (PySem.W.kla_fn "<lambda>" q params body scope (cloFrom X.env.cells scope.names []) pm (.ref c) ctv) ⟨us, []⟩ = pure (ps.zip us)) (hc : HZ c = some (CodeP c q P2))
    (hbody : Room k (A.deeper (lamEnvQ X q scope s1.heap.objs.size f c)) → PE (lamCxP X Y A outer s1 HZ E scope f c q ps) body tb) (rv : Vals vs us) (hl : vs.length = ps.length) (ht : tb (σ ++ vs.map some) HZ Q) :
    codeAny (model X.prog X.w) A (.call (.ref f) ⟨us, []⟩) (CR Y outer X.prog X.w HZ s1 Q E) s1 := by
  have lim : s1.heap.NoLimit := g0.mod.nolimit.keeps fun b o e => (g0.bs b o e).1
  refine PySem.W.kla_callFunE hr.depth of1 rfl L.co L.gen rfl (codeP_at g0.hok hc).1 ?_
  rw [hbind]
  refine wpAny_pure (wpAny_newFunctionEnv L.nocell (fun ⟨n, _⟩ hy => L.par n (List.of_mem_zip hy).1) (fun h₁ hn hsb => ⟨lim.fresh _ hsb, ?_⟩) L.kind)
  show codeAny _ _ (.expr body (lamEnvQ X q scope s1.heap.objs.size f c)) _ _
  have kp : ∀ b o, s1.heap.get? b = some o → h₁.get? b = some o := fun b o e => hsb.extBut b o (Nat.ne_of_lt (Heap.lt_size e)) (Heap.get?_push_of_some _ e)
  have J := lam_startP (Y := Y) (E := E) (f := f) (c := c) (q := q) (tk := s1.toks + (ps.zip us).length) I L nN g0 hr.hd un rv hl hn kp
  refine PySem.W.kla_codeExpr (wpAny_mono ((hbody (hr.deeper _)).run [] _ _ HZ Q J ht) (fun v s' z => ?_) fun _ _ z => z)
  obtain ⟨w', H', J', rw', z⟩ := z
  exact ⟨w', H', J'.os, J'.bare, J'.base, J'.hok, rw', z⟩
def argL (c P2 : Addr) (q : Str) (σ : L2.St) (tb : TE) (Q : VK) : List V → Hp → Prop := fun vs H => match vs with
  | [v] => H c = some (CodeP c q P2) ∧ tb (σ ++ [some v]) H Q
  | _ => False
theorem argL_one {c P2 : Addr} {q : Str} {σ : L2.St} {tb : TE} {Q : VK} {H : Hp} : ∀ {vs : List V}, argL c P2 q σ tb Q vs H → ∃ v, vs = [v] ∧ H c = some (CodeP c q P2) ∧ tb (σ ++ [some v]) H Q
  | [v], h => ⟨v, rfl, h⟩
theorem vals_one {x : V} : ∀ {us : List Value}, Vals [x] us → ∃ v, us = [v] ∧ L2.RelV x v
  | _, .cons r .nil => ⟨_, rfl, r⟩
theorem zn_fly {B : Heap} {l : List Env} {a : Addr} {cls : Value} {d : Option Addr} {h : Heap} (f : HandSPX.FlyingZ B l a (L2N.Zn cls d) h) : HandSPX.FlyingZ B l a (Zc cls d) h := by
  obtain ⟨k1, k2, k3, oe, vs, t, ot, ts, e1, e2, r⟩ := f
  exact ⟨k1, k2, k3, oe, vs, t, ot, ts, e1, e2.zc, r⟩
theorem cxn {P : Program} {w : World} {outer : List Env} {H : Hp} {s s' : Shared} {E : XK} {u : Value} (h : L2N.CX P w outer H s E u s') : L2.CX P w outer H s E u s' := by
  obtain ⟨a, B, H', cls, d, e, f, r⟩ := h
  exact ⟨a, B, H', cls, d, e, zn_fly f, r⟩
/-- the caller's context, within a try -/
abbrev zCx (CXg : CXT) (X : Cx) (Ng : List Str) (x : Str) (sg : Scope) (g : Addr) (cdg : Value) (s : Shared) (H : Hp) (Eg : XK) (pn : List (Addr × Obj)) (xe : Value → Shared → Prop) : Cx := (cxOf CXg X.prog X.w X.K X.mg X.base Ng x sg g cdg X.A X.stack s H Eg).tr pn xe
section
variable {CXg : CXT} {Eg : XK} {Ng : List Str} {x a : Str} {sg : Scope} {g : Addr} {cdg pm ctv : Value} {params : Arguments} {body : Expr} {k i : Nat} {pn : List (Addr × Obj)} {xe : Value → Shared → Prop} {W : WX} {tb te : TE} {p1 p2 : Pos} {e : Expr}
theorem act0 (I : Inv X pins σ H s) (L : LamP X.env.scope scope []) (hf : s.heap.get? f = some (PySem.W.kla_obj "<lambda>" q params body scope (cloFrom X.env.cells scope.names []) pm c ctv)) (hfn : H f = none) (hfr : f ∉ frs X.stack)
    (hbind : ∀ pm ctv, bindArgs (PySem.W.kla_fn "<lambda>" q params body scope (cloFrom X.env.cells scope.names []) pm (.ref c) ctv) ⟨[], []⟩ = pure []) (tk : Takes (zCx CXg X Ng x sg g cdg s H Eg pn xe) W) (hW : ∀ cls d σ' H', E cls d H' → W cls d σ' H') (hr : Room (k + 1) (X.A.deeper (envOfC x sg s.heap.objs.size g cdg)))
    (hbody : ∀ (A : Around) (outer : List Env) (s : Shared) (H : Hp), Room k (A.deeper (lamEnvQ X q scope s.heap.objs.size f c)) → PE (lamCxP X (L2.CX X.prog X.w) A outer s H E scope f c q []) body tb) (hN : Ng[i]? = some a) (hv : Vis sg a) (hd : (a == ("__debug__" : Str)) = false := by decide) (hcd : (a == ("__classdict__" : Str)) = false := by decide) :
    PE (zCx CXg X Ng x sg g cdg s H Eg pn xe) (.Call (.Name a p1) [] [] p2) (fun σZ HZ Q => σZ[i]? = some (some (.ref f)) ∧ HZ c = some (CodeP c q P2) ∧ tb σ HZ Q) := by
  refine ⟨fun pinsZ sZ σZ HZ Q IZ ⟨h1, h2, h3⟩ => ?_⟩
  refine wpAny_Call_Name_kw (thn ((pe_var (pos := p1) (i := i) hN hv hd hcd).run pinsZ sZ σZ HZ (fun v H1 => v = .ref f ∧ H1 = HZ) IZ ⟨.ref f, h1, rfl, rfl⟩) fun u s1 ⟨v, H1, I1, r1, z⟩ => ?_)
  obtain ⟨rfl, rfl⟩ := z
  obtain rfl : u = Value.ref f := r1
  have of1 : s1.heap.get? f = some (PySem.W.kla_obj "<lambda>" q params body scope (cloFrom X.env.cells scope.names []) pm c ctv) := I1.base.keep f _ hf hfn hfr (fun z => nomatch (show f ∈ ([] : List Addr) from z))
  refine PySem.W.callWith_F0 ⟨_, _, _, _, of1⟩ (wpAny_call (codeAny_mono (run_lam (X := X) (Y := L2.CX X.prog X.w) (E := E) (us := []) (vs := []) I L (by simp) hr I1.env0 I1.base of1 (hbind _ _) h2 (fun hr2 => hbody _ _ s1 H1 hr2) .nil rfl (by rw [List.map_nil, List.append_nil]; exact h3)) fun r s' z => ?_))
  cases r with
  | error e => exact passes_call tk hW pinsZ σZ H1 s1 e s' I1 z
  | ok fl =>
    cases fl with
    | ret u => exact I1.after z
    | next => exact z.elim
    | brk => exact z.elim
    | cont => exact z.elim
theorem act1 {y : Str} {tbE : XK → TE} (I : Inv X pins σ H s) (L : LamP X.env.scope scope [y]) (nN : y ∉ X.N) (hf : s.heap.get? f = some (PySem.W.kla_obj "<lambda>" q params body scope (cloFrom X.env.cells scope.names []) pm c ctv)) (hfn : H f = none) (hfr : f ∉ frs X.stack)
    (hbind : ∀ pm ctv u, bindArgs (PySem.W.kla_fn "<lambda>" q params body scope (cloFrom X.env.cells scope.names []) pm (.ref c) ctv) ⟨[u], []⟩ = pure [(y, u)]) (tk : L2N.Takes (zCx CXg X Ng x sg g cdg s H Eg pn xe) W) (hr : Room (k + 1) (X.A.deeper (envOfC x sg s.heap.objs.size g cdg)))
    (hbody : ∀ (A : Around) (outer : List Env) (s : Shared) (H : Hp) (E : XK), Room k (A.deeper (lamEnvQ X q scope s.heap.objs.size f c)) → PE (lamCxP X (L2N.CX X.prog X.w) A outer s H E scope f c q [y]) body (tbE E)) (hN : Ng[i]? = some a) (hv : Vis sg a) (ha : PE (zCx CXg X Ng x sg g cdg s H Eg pn xe) e te)
    (he : starEach [e] (zCx CXg X Ng x sg g cdg s H Eg pn xe).env = (false, eval e (zCx CXg X Ng x sg g cdg s H Eg pn xe).env) :: starEach [] (zCx CXg X Ng x sg g cdg s H Eg pn xe).env) (hd : (a == ("__debug__" : Str)) = false := by decide) (hcd : (a == ("__classdict__" : Str)) = false := by decide) :
    PE (zCx CXg X Ng x sg g cdg s H Eg pn xe) (.Call (.Name a p1) [e] [] p2) (fun σZ HZ Q => σZ[i]? = some (some (.ref f)) ∧ te σZ HZ fun v H1 => H1 c = some (CodeP c q P2) ∧ tbE (WE W σZ) (σ ++ [some v]) H1 Q) := by
  refine ⟨fun pinsZ sZ σZ HZ Q IZ ⟨h1, h3⟩ => ?_⟩
  refine wpAny_Call_Name_kw (thn ((pe_var (pos := p1) (i := i) hN hv hd hcd).run pinsZ sZ σZ HZ (fun v H1 => v = .ref f ∧ H1 = HZ) IZ ⟨.ref f, h1, rfl, rfl⟩) fun u s1 ⟨v, H1, I1, r1, z⟩ => ?_)
  obtain ⟨rfl, rfl⟩ := z
  obtain rfl : u = Value.ref f := r1
  have of_ : ∀ {σ' : L2.St} {H' : Hp} {s' : Shared}, Inv (zCx CXg X Ng x sg g cdg s H Eg pn xe) pinsZ σ' H' s' → s'.heap.get? f = some (PySem.W.kla_obj "<lambda>" q params body scope (cloFrom X.env.cells scope.names []) pm c ctv) :=
    fun J => J.base.keep f _ hf hfn hfr (fun z => nomatch (show f ∈ ([] : List Addr) from z))
  refine PySem.W.callWith_F (first := []) ⟨_, _, _, _, of_ I1⟩ (thn ((pa_cons ha pa_nil (hs := he)).run p2 pinsZ s1 σZ H1 (argL c P2 q σ (tbE (WE W σZ)) Q) I1 h3) fun us s2 ⟨vs, H2, I2, r, z⟩ => ⟨⟨_, _, _, _, of_ I2⟩, ?_⟩) he rfl
  obtain ⟨v, rfl, h2, h4⟩ := argL_one z
  obtain ⟨u, rfl, ru⟩ := vals_one r
  refine wpAny_call (codeAny_mono (run_lam (X := X) (Y := L2N.CX X.prog X.w) (E := WE W σZ) (us := [u]) (vs := [v]) I L (by simpa using nN) hr I2.env0 I2.base (of_ I2) (hbind _ _ _) h2 (fun hr2 => hbody _ _ s2 H2 _ hr2) (.cons ru .nil) rfl h4) fun r s' z => ?_)
  cases r with
  | error e => exact L2N.passAt tk σZ pinsZ H2 s2 e s' I2 z
  | ok fl =>
    cases fl with
    | ret u => exact I2.after z
    | next => exact z.elim
    | brk => exact z.elim
    | cont => exact z.elim
end
/-! ### who calls it -/
/-- the def g gets the lambda and calls it: TT tells what it makes of the lambda's reading -/
def Gives0 (X : Cx) (Ng : List Str) (x : Str) (sg : Scope) (g : Addr) (cdg : Value) (bg : List Stmt) (a : Str) (q : Str) (TT : (XK → Hp → VK → Prop) → Hp → VK → Prop) : Prop :=
  ∀ (f c P2 : Addr) (s : Shared) (H : Hp) (Q : VK) (tl : XK → Hp → VK → Prop),
    (∀ (W : WX) (pn : List (Addr × Obj)) (xe : Value → Shared → Prop) (E : XK) (p1 p2 : Pos), Takes (zCx C8.CX0 X Ng x sg g cdg s H C8.E0 pn xe) W → (∀ cls d σ' H', E cls d H' → W cls d σ' H') →
      PE (zCx C8.CX0 X Ng x sg g cdg s H C8.E0 pn xe) (.Call (.Name a p1) [] [] p2) (fun σZ HZ Q => σZ[0]? = some (some (.ref f)) ∧ HZ c = some (CodeP c q P2) ∧ tl E HZ Q)) →
    H c = some (CodeP c q P2) → TT tl H Q → ∃ t, PSs (cxOf C8.CX0 X.prog X.w X.K X.mg X.base Ng x sg g cdg X.A X.stack s H C8.E0).nox bg t ∧ t { nx := fun _ H' => Q .non H', rt := Q } (L2.start Ng [.ref f]) H
/-- the method g gets a thing and the lambda, which it calls with something -/
def Gives1 (X : Cx) (Ng : List Str) (x : Str) (sg : Scope) (g : Addr) (cdg : Value) (bg : List Stmt) (a : Str) (q : Str) (TT : (V → XK → Hp → VK → Prop) → V → Hp → VK → XK → Prop) : Prop :=
  ∀ (f c P2 : Addr) (s : Shared) (H : Hp) (Q : VK) (E : XK) (u : V) (tl : V → XK → Hp → VK → Prop),
    (∀ (W : WX) (pn : List (Addr × Obj)) (xe : Value → Shared → Prop) (p1 p2 : Pos) (e : Expr) (te : TE), L2N.Takes (zCx (L2N.CX X.prog X.w) X Ng x sg g cdg s H E pn xe) W → PE (zCx (L2N.CX X.prog X.w) X Ng x sg g cdg s H E pn xe) e te →
      starEach [e] (zCx (L2N.CX X.prog X.w) X Ng x sg g cdg s H E pn xe).env = (false, eval e (zCx (L2N.CX X.prog X.w) X Ng x sg g cdg s H E pn xe).env) :: starEach [] (zCx (L2N.CX X.prog X.w) X Ng x sg g cdg s H E pn xe).env →
      PE (zCx (L2N.CX X.prog X.w) X Ng x sg g cdg s H E pn xe) (.Call (.Name a p1) [e] [] p2) (fun σZ HZ Q => σZ[1]? = some (some (.ref f)) ∧ te σZ HZ fun v H1 => H1 c = some (CodeP c q P2) ∧ tl v (WE W σZ) H1 Q)) →
    H c = some (CodeP c q P2) → TT tl u H Q E → ∃ t, PSs (cxOf (L2N.CX X.prog X.w) X.prog X.w X.K X.mg X.base Ng x sg g cdg X.A X.stack s H E) bg t ∧ t { nx := fun _ H' => Q .non H', rt := Q } (L2.start Ng [u, .ref f]) H
/-- where a running body's code object stands, and its table -/
def CodeIn (base : Heap) (H : Hp) (c P : Addr) : Prop := PySem.W.CodeHd base c P ∨ ∃ q, H c = some (CodeP c q P)
/-- x(lambda: body) -/
def tLam0 (base : Heap) (c : Addr) (q : Str) (TT : (XK → Hp → VK → Prop) → Hp → VK → Prop) (t : Addr → Addr → XK → TE) : TE := fun σ H Q => ∃ (P : Addr) (qs : List Str) (T : Tau), (P, q :: qs) ∈ T ∧ TabT T H ∧ CodeIn base H c P ∧
  ∀ (c' P2 : Addr) (H1 : Hp), ExtN H H1 → TabT T H1 → (qs ≠ [] → TabT ((P2, qs) :: T) H1) → H1 c' = some (CodeP c' q P2) → TT (fun E H' Q' => t c' P2 E σ H' Q') H1 Q
/-- o.m(lambda y: body) -/
def tLam1 (base : Heap) (c : Addr) (q : Str) (C : Addr) (m : Str) (TT : (V → XK → Hp → VK → Prop) → V → Hp → VK → XK → Prop) (E : XK) (ta : TE) (t : Addr → Addr → XK → TE) : TE := fun σ H Q => ta σ H fun x H1 => ∃ (a dx : Addr) (fs : List (Str × V)), x = .ref a ∧ H1 a = some (.ins C dx fs) ∧ fs.lookup m = none ∧
  ∃ (P : Addr) (qs : List Str) (T : Tau), (P, q :: qs) ∈ T ∧ TabT T H1 ∧ CodeIn base H1 c P ∧
    ∀ (c' P2 : Addr) (H2 : Hp), ExtN H1 H2 → TabT T H2 → (qs ≠ [] → TabT ((P2, qs) :: T) H2) → H2 c' = some (CodeP c' q P2) → TT (fun v E' H' Q' => t c' P2 E' (σ ++ [some v]) H' Q') x H2 Q E
end
section
variable {X : Cx} {x a y q : Str} {g c C : Addr} {k : Nat} {pg : Arguments} {bg : List Stmt} {sg : Scope} {dV kV doc pm cdv ct oc : Value} {an od : Option Addr} {osl : Array (Option Value)} {Ng : List Str} {params : Arguments} {body : Expr} {scope : Scope} {t : Addr → Addr → XK → TE} {p lpos pos apos : Pos}
theorem pe_lam0 {TT : (XK → Hp → VK → Prop) → Hp → VK → Prop} (hg : Gl X x) (hm : X.mg x = some (.ref g)) (hk : PySem.W.keepIn X.K (.ref g) = true) (lk : X.K.lookup g = some ⟨oc, od, .func (PySem.W.fnOf x x pg bg sg dV kV doc pm an cdv ct), osl⟩) (hcg : PySem.W.codeIn X.K cdv x = true)
    (hb : L2.Binds X.K (PySem.W.fnOf x x pg bg sg dV kV doc pm an cdv ct) [a] []) (Sg : FnScope Ng [a] sg) (hNg : Ng[0]? = some a) (hva : Vis sg a) (hG : Gives0 X Ng x sg g cdv bg a q TT) (hcode : X.env.code = .ref c) (hb0 : ∃ P0, X.base.BuiltinsAt X.mg P0) (hq : X.env.qual ++ "<lambda>" = q) (hr : Room (k + 2) X.A)
    (L : LamP X.env.scope scope []) (hdef : defaultsOf params X.env = ([], [])) (hbind : ∀ (cl : List (Str × Addr)) (c : Addr) (pm ctv : Value), bindArgs (PySem.W.kla_fn "<lambda>" q params body scope cl pm (.ref c) ctv) ⟨[], []⟩ = pure [])
    (hbody : ∀ (A : Around) (outer : List Env) (s : Shared) (H : Hp) (E : XK) (f c' P2 : Addr), Room k (A.deeper (lamEnvQ X q scope s.heap.objs.size f c')) → PE (lamCxP X (L2.CX X.prog X.w) A outer s H E scope f c' q []) body (t c' P2 E))
    (hdb : (x == ("__debug__" : Str)) = false := by decide) (hd : (a == ("__debug__" : Str)) = false := by decide) (hcd : (a == ("__classdict__" : Str)) = false := by decide) :
    PE X (.Call (.Name x p) [.Lambda params body scope lpos] [] pos) (tLam0 X.base c q TT t) := by
  refine ⟨fun pins s σ H Q I ⟨P, qs, T, hmT, hT, hci, h⟩ => ?_⟩
  refine wpAny_Call_Name_kw (ld_glob I hg hm ?_ hdb)
  refine PySem.W.callWith_K (h₀ := X.base) I.ok.mod.kin hk ?_ (by rfl) (by rfl)
  show wpAny _ _ (spliced ((false, eval (.Lambda params body scope lpos) X.env) :: backTo pos (starEach [] X.env))) _ _ s
  refine Calls.spliced_cons (lam_made (T := T) I ⟨hcode, hci⟩ hb0 hmT hq hT hdef (L.has I.ok) fun f c' P2 pm' ctv H1 s1 I1 eN T2 T1 hf hfn hfr hco => Calls.spliced_nil ⟨I1.kIn, ?_⟩)
  have rc : codeAny (model X.prog X.w) X.A (.call (.ref g) ⟨[.ref f], []⟩) (CR C8.CX0 X.stack X.prog X.w H1 s1 Q C8.E0) s1 := by
    refine run_ofS (N := Ng) (ps := [a]) (us := [.ref f]) (vs := [.ref f]) lk hcg Sg hr I1.env0 (hb s1 [.ref f] I1.kIn rfl) (.cons rfl .nil) rfl fun hr' => ?_
    obtain ⟨t', ht', z⟩ := hG f c' P2 s1 H1 Q (fun E H' Q' => t c' P2 E σ H' Q') (fun W pn xe E p1 p2 tk hW => act0 (i := 0) I1 L hf hfn hfr (fun _ _ => hbind _ _ _ _) tk hW hr' (fun A outer s H hr2 => hbody A outer s H E f c' P2 hr2) hNg hva hd hcd) hco (h c' P2 H1 eN T1 T2 hco)
    exact ⟨t', ht'.nox, z⟩
  refine wpAny_call (codeAny_mono rc fun r s2 z => ?_)
  cases r with
  | error e => exact (show False from z).elim
  | ok fl =>
    cases fl with
    | ret u => exact I1.after z
    | next => exact z.elim
    | brk => exact z.elim
    | cont => exact z.elim
theorem pe_lam1 {n0 m xq : Str} {E : XK} {o : Expr} {ta : TE} {pl : Sem Bool} {TT : (V → XK → Hp → VK → Prop) → V → Hp → VK → XK → Prop} (he : PE X o ta) (cC : Cls X.K C) (hm : Meth X.K C m g) (lk : X.K.lookup g = some ⟨oc, od, .func (PySem.W.fnOf m xq pg bg sg dV kV doc pm an cdv ct), osl⟩) (hcg : PySem.W.codeIn X.K cdv xq = true)
    (hb : L2.Binds X.K (PySem.W.fnOf m xq pg bg sg dV kV doc pm an cdv ct) [n0, a] []) (Sg : FnScope Ng [n0, a] sg) (hNg : Ng[1]? = some a) (hva : Vis sg a) (hG : Gives1 X Ng xq sg g cdv bg a q TT) (hcode : X.env.code = .ref c) (hb0 : ∃ P0, X.base.BuiltinsAt X.mg P0) (hq : X.env.qual ++ "<lambda>" = q) (hr : Room (k + 2) X.A)
    (hx : Passes (L2.CX X.prog X.w) X E) (L : LamP X.env.scope scope [y]) (nN : y ∉ X.N) (hdef : defaultsOf params X.env = ([], [])) (hbind : ∀ (cl : List (Str × Addr)) (c : Addr) (pm ctv u : Value), bindArgs (PySem.W.kla_fn "<lambda>" q params body scope cl pm (.ref c) ctv) ⟨[u], []⟩ = pure [(y, u)])
    (hbody : ∀ (A : Around) (outer : List Env) (s : Shared) (H : Hp) (E : XK) (f c' P2 : Addr), Room k (A.deeper (lamEnvQ X q scope s.heap.objs.size f c')) → PE (lamCxP X (L2N.CX X.prog X.w) A outer s H E scope f c' q [y]) body (t c' P2 E))
    (hd : (a == ("__debug__" : Str)) = false := by decide) (hcd : (a == ("__classdict__" : Str)) = false := by decide)
    (ht : eval (.Call (.Attribute o m apos) [.Lambda params body scope lpos] [] pos) X.env = (do
      let ov ← eval o X.env
      standAt apos.atName
      let (f, first) ← holding [ov] (getMethod ov m pl)
      callWith pos f first (backTo pos (starEach [.Lambda params body scope lpos] X.env)) (backToKw pos (keywordEach [] X.env))) := by rfl) :
    PE X (.Call (.Attribute o m apos) [.Lambda params body scope lpos] [] pos) (tLam1 X.base c q C m TT E ta t) := by
  refine ⟨fun pins s σ H Q I h => ?_⟩
  refine PySem.W.methodCall_KW (pl := pl) (thn (he.run pins s σ H _ I h) fun u s1 ⟨v, H1, I1, rx, e, dx, fs, ex, ea, l, P, qs, T, hmT, hT, hci, z⟩ => ?_) ht
  subst ex
  obtain rfl : u = Value.ref e := rx
  refine getmeth_ok I1 ea cC hm l (PySem.W.callWith_K (first := [.ref e]) (h₀ := X.base) I1.ok.mod.kin hm.kp ?_ (by rfl) (by rfl))
  show wpAny _ _ (spliced ((false, eval (.Lambda params body scope lpos) X.env) :: backTo pos (starEach [] X.env))) _ _ s1
  refine Calls.spliced_cons (lam_made (T := T) I1 ⟨hcode, hci⟩ hb0 hmT hq hT hdef (L.has I1.ok) fun f c' P2 pm' ctv H2 s2 I2 eN T2 T1 hf hfn hfr hco => Calls.spliced_nil ⟨I2.kIn, ?_⟩)
  have rc : codeAny (model X.prog X.w) X.A (.call (.ref g) ⟨[.ref e, .ref f], []⟩) (CR (L2N.CX X.prog X.w) X.stack X.prog X.w H2 s2 Q E) s2 := by
    refine run_ofS (N := Ng) (ps := [n0, a]) (us := [.ref e, .ref f]) (vs := [.ref e, .ref f]) lk hcg Sg hr I2.env0 (hb s2 [.ref e, .ref f] I2.kIn rfl) (.cons rfl (.cons rfl .nil)) rfl fun hr' => ?_
    exact hG f c' P2 s2 H2 Q E (.ref e) (fun v E' H' Q' => t c' P2 E' (σ ++ [some v]) H' Q') (fun W pn xe p1 p2 e1 te tk ha hst => act1 (i := 1) I2 L nN hf hfn hfr (fun _ _ _ => hbind _ _ _ _ _) tk hr' (fun A outer s H E' hr2 => hbody A outer s H E' f c' P2 hr2) hNg hva ha hst hd hcd) hco (z c' P2 H2 eN T1 T2 hco)
  refine wpAny_call (codeAny_mono rc fun r s3 z => ?_)
  cases r with
  | error e => exact hx pins σ H2 s2 e s3 I2 (cxn z)
  | ok fl =>
    cases fl with
    | ret u => exact I2.after z
    | next => exact z.elim
    | brk => exact z.elim
    | cont => exact z.elim
end
end LM
/-! _law_tried: what is told, or what was raised, as data -/
namespace L2.TB
open PySem PySem.Spec PyProof.Rows
abbrev NTd : List Str := ["ask", "e"]
theorem scTd : FnScope NTd ["ask"] (defScope sTried) := ⟨rfl, rfl, rfl, by decide +kernel, rfl, by decide +kernel, by decide +kernel⟩
/-- the clauses: a class's name, the class, the word for it, its field -/
structure Clz where
  x : Str
  C : Addr
  tag : Str
  fld : Str
/-- the errors' classes -/
structure ErrA where
  CQ : Addr
  CK : Addr
  CN : Addr
/-- what _law_tried gives of what was raised -/
def EchT (cs : List Clz) (Q : VK) : XK := fun cls d H => (∃ (c : Clz) (dd : Addr) (fs : List (Str × V)) (v : V), c ∈ cs ∧ cls = .ref c.C ∧ d = some dd ∧ H dd = some (.xd fs) ∧ fs.lookup c.fld = some v ∧
  ∀ t, H t = none → Q (.ref t) (upd H t (.tup [.str c.tag, v]))) ∨ (cls = .type "KeyError" ∧ ∀ t, H t = none → Q (.ref t) (upd H t (.tup [.str "key", .non])))
/-- what it gives of what is told; nothing but one of cs and KeyError flies -/
def TTr (cs : List Clz) : (XK → Hp → VK → Prop) → Hp → VK → Prop := fun tl H Q => ∀ (E : XK), (∀ cls d H', EchT cs Q cls d H' → E cls d H') → tl E H fun v H' => [V.str "told", v].length ≤ sizeLine ∧ ∀ t, H' t = none → Q (.ref t) (upd H' t (.tup [.str "told", v]))
/-- the classes are told apart -/
structure ClzOk (K : PySem.W.Frag) (mg : Str → Option Value) (cs : List Clz) : Prop where
  g : ∀ c ∈ cs, mg c.x = some (.ref c.C)
  xf : ∀ c ∈ cs, XfC K c.C ∧ PySem.W.findIn K (.ref c.C) c.fld = some none
  exm : ∀ c ∈ cs, ∀ c' ∈ cs, PySem.W.exmOne K (.ref c.C) (.ref c'.C) = some (decide (c.x = c'.x))
  inj : ∀ c ∈ cs, ∀ c' ∈ cs, c.x = c'.x → c = c'
  gK : mg "KeyError" = none
  exK : ∀ c ∈ cs, PySem.W.exmOne K (.type "KeyError") (.ref c.C) = some false
abbrev clOf (tag fld : Str) (C : Addr) : TA.Cl := (.ref C, some 1, fun a cls d => tRet (tTup (tCons (tC (.str tag)) (tCons (tXf a cls d C fld (tVar 1)) tNil))))
abbrev clK : TA.Cl := (.type "KeyError", none, fun _ _ _ => tRet (tTup (tCons (tC (.str "key")) (tCons (tC .non) tNil))))
/-- this law's three -/
def clz3 (A : ErrA) : List Clz := [⟨"NoQuestion", A.CQ, "question", "name"⟩, ⟨"Known", A.CK, "known", "name"⟩, ⟨"NotKnown", A.CN, "not known", "name"⟩]
theorem cls_fit {K : PySem.W.Frag} {mg : Str → Option Value} {cs : List Clz} (O : ClzOk K mg cs) {Wout : WX} {D : Ends} {o0 o1 : Option V} {c : Clz} {dd : Addr} {fs : List (Str × V)} {v : V} {H : Hp} (hc : c ∈ cs) (hd : H dd = some (.xd fs)) (hl : fs.lookup c.fld = some v)
    (go : ∀ t, H t = none → D.rt (.ref t) (upd H t (.tup [.str c.tag, v]))) (r : List TA.Cl) :
    ∀ l : List Clz, (∀ c' ∈ l, c' ∈ cs) → c ∈ l → TA.wCls K Wout D ((l.map fun c => clOf c.tag c.fld c.C) ++ r) (.ref c.C) (some dd) [o0, o1] H
  | [], _, h => absurd h (by simp)
  | c' :: l, sub, h => by
    refine ⟨decide (c.x = c'.x), O.exm c hc c' (sub c' (by simp)), fun e a na => ?_, fun e => ?_⟩
    · obtain rfl := O.inj c hc c' (sub c' (by simp)) (of_decide_eq_true e)
      refine ⟨_, rfl, rfl, rfl, dd, fs, v, rfl, hd, hl, (by show 2 ≤ sizeLine; decide), fun t nt => ?_⟩
      exact go t nt
    · refine cls_fit O hc hd hl go r l (fun c2 h2 => sub c2 (List.mem_cons_of_mem _ h2)) ?_
      rcases List.mem_cons.mp h with z | z
      · rw [z] at e; simp at e
      · exact z
theorem clK_fit {K : PySem.W.Frag} {mg : Str → Option Value} {cs : List Clz} (O : ClzOk K mg cs) {Wout : WX} {D : Ends} {o0 o1 : Option V} {d : Option Addr} {H : Hp}
    (go : ∀ t, H t = none → D.rt (.ref t) (upd H t (.tup [.str "key", .non]))) :
    ∀ l : List Clz, (∀ c' ∈ l, c' ∈ cs) → TA.wCls K Wout D ((l.map fun c => clOf c.tag c.fld c.C) ++ [clK]) (.type "KeyError") d [o0, o1] H
  | [], _ => ⟨true, exm_KE, fun _ a na => ⟨(by show 2 ≤ sizeLine; decide), fun t nt => go t nt⟩, fun e => by cases e⟩
  | c' :: l, sub => ⟨false, O.exK c' (sub c' (by simp)), fun e => (by cases e), fun _ => clK_fit O go l (fun c2 h2 => sub c2 (List.mem_cons_of_mem _ h2))⟩
abbrev tdCx (X : Cx) (g : Addr) (cdg : Value) (s : Shared) (H : Hp) : Cx := (cxOf C8.CX0 X.prog X.w X.K X.mg X.base NTd "_law_tried" (defScope sTried) g cdg X.A X.stack s H C8.E0).nox
theorem cl_one {X : Cx} {g : Addr} {cdg : Value} {s : Shared} {H : Hp} {x tag fld : Str} {C : Addr} {np p p1 p2 p3 p4 q : Pos} {j kk : Nat} {hds : List ExceptHandler} {l : List TA.Cl} (gx : Gl (tdCx X g cdg s H) x) (hd : (x == ("__debug__" : Str)) = false) (hm : X.mg x = some (.ref C)) (xf : XfC X.K C)
    (no : PySem.W.findIn X.K (.ref C) fld = some none) (r : TA.Cls (tdCx X g cdg s H) hds l) :
    TA.Cls (tdCx X g cdg s H) (.ExceptHandler (some (.Name x np)) (some "e") [.Return (some (.Tuple [.Constant (.str tag) j p1, .Attribute (.Name "e" p2) fld p3] kk p)) p4] q :: hds) (clOf tag fld C :: l) :=
  .cons (k := clOf tag fld C) ⟨rfl, rfl⟩ ⟨gx, hd, .inl hm⟩ (fun a oe cls d pn hz hf => pss_one (ps_ret (pe_tup (pa_cons pe_str (pa_cons (pe_xf (X := tdCx X g cdg s H) xf no hz hf (pv 1)) pa_nil))))) r
abbrev mg1 (mg : Str → Option Value) (c : Clz) : Prop := mg c.x = some (.ref c.C)
section
variable {X : Cx} {g : Addr} {cdg : Value} {q : Str}
theorem tried_gives {A : ErrA} (O : ClzOk X.K X.mg (clz3 A)) : LM.Gives0 X NTd "_law_tried" (defScope sTried) g cdg (defBody sTried) "ask" q (TTr (clz3 A)) := by
  intro f c' P2 s H Q tl act hco h
  have nd := scTd.nd
  have mm : ∀ c, c ∈ clz3 A → mg1 X.mg c ∧ XfC X.K c.C ∧ PySem.W.findIn X.K (.ref c.C) c.fld = some none := fun c h => ⟨O.g c h, O.xf c h⟩
  have m1 := mm ⟨"NoQuestion", A.CQ, "question", "name"⟩ (by simp [clz3])
  have m2 := mm ⟨"Known", A.CK, "known", "name"⟩ (by simp [clz3])
  have m3 := mm ⟨"NotKnown", A.CN, "not known", "name"⟩ (by simp [clz3])
  refine ⟨_, pss_one (TA.ps_try_cls (Wout := fun _ _ _ _ => False) (l := [clOf "question" "name" A.CQ, clOf "known" "name" A.CK, clOf "not known" "name" A.CN, clK])
        (tb := fun W D σ H => σ[0]? = some (some (.ref f)) ∧ H c' = some (LM.CodeP c' q P2) ∧ tl (fun cls d H' => ∀ σ' : L2.St, σ'.length = 2 → W cls d σ' H') H fun v H' => [V.str "told", v].length ≤ sizeLine ∧ ∀ t, H' t = none → D.rt (.ref t) (upd H' t (.tup [.str "told", v])))
        rfl rfl nd LamX.takes0 (fun W pn xe tk _ => ?_)
        (cl_one rfl (by decide) m1.1 m1.2.1 m1.2.2 (cl_one rfl (by decide) m2.1 m2.2.1 m2.2.2 (cl_one rfl (by decide) m3.1 m3.2.1 m3.2.2
          (.cons (k := clK) trivial (names_blt rfl O.gK rfl) (fun a oe cls d pn hz hf => pss_one (ps_ret (pe_tup (pa_cons pe_str (pa_cons pe_non pa_nil))))) .nil))))), ?_⟩
  · have tk' : Takes ((tdCx X g cdg s H).tr pn xe) (fun cls d σ' H' => σ'.length = 2 → W cls d σ' H') := fun u s' ⟨a, B, sI, pins, σ, H, cls, d, e, I, nb, up, sky, na, os, ag, w⟩ => tk u s' ⟨a, B, sI, pins, σ, H, cls, d, e, I, nb, up, sky, na, os, ag, w I.len⟩
    have hp := fun p1 p2 => act (fun cls d σ' H' => σ'.length = 2 → W cls d σ' H') pn xe (fun cls d H' => ∀ σ' : L2.St, σ'.length = 2 → W cls d σ' H') p1 p2 tk' (fun cls d σ' H' e => e σ')
    exact pss_one (ps_ret (pe_tup (pa_cons pe_str (pa_cons (hp _ _) pa_nil)))) |> fun hq => ⟨fun pins s' σ H' D I h' => hq.run pins s' σ H' D I ⟨h'.1, h'.2.1, h'.2.2⟩⟩
  · refine ⟨rfl, hco, h _ fun cls d H' e σ' l2 => ?_⟩
    match σ', l2 with
    | [o0, o1], _ =>
      show TA.wCls X.K (fun _ _ _ _ => False) _ (((clz3 A).map fun c => clOf c.tag c.fld c.C) ++ [clK]) _ _ _ _
      rcases e with ⟨c, dd, fs, v, hc, rfl, rfl, hd, hl, hz⟩ | ⟨rfl, hz⟩
      · exact cls_fit O hc hd hl (fun t nt => hz t nt) [clK] (clz3 A) (fun _ z => z) hc
      · exact clK_fit O (fun t nt => hz t nt) (clz3 A) (fun _ z => z)
end
end L2.TB
/-! a file: its fields, _do -/
namespace L2.TB
open PySem PySem.Spec PyProof.Rows LamX
abbrev fF (fa tn tp tu : V) : List (Str × V) := [("_field", fa), ("_now", tn), ("_past", tp), ("_future", tu)]
structure FilC (K : PySem.W.Frag) (C : Addr) : Prop where
  cl : Cls K C
  nF : NoAttr K C "_field"
  nN : NoAttr K C "_now"
  nP : NoAttr K C "_past"
  nU : NoAttr K C "_future"
abbrev NDo : List Str := ["self", "now"]
theorem scDo : FnScope NDo NDo (defScope sDo) := ⟨rfl, rfl, rfl, by decide +kernel, rfl, by decide +kernel, by decide +kernel⟩
/-- what is now goes behind what was; nothing is to come -/
def spDo (K : PySem.W.Frag) (C : Addr) : Sp := fun vs H Q _ => ∃ (p dx tp : Addr) (fa tn tu now : V) (ps : List V), vs = [.ref p, now] ∧ H p = some (.ins C dx (fF fa tn (.ref tp) tu)) ∧ SqT K H tp ps ∧ tp ≠ p ∧ ps.length < 1000 ∧
  ∀ H' t1 t2, H t1 = none → H t2 = none → H' p = some (.ins C dx (fF fa now (.ref t1) (.ref t2))) → H' t1 = some (.tup (ps ++ [tn])) → H' t2 = some (.tup []) → (∀ b o, b ≠ p → H b = some o → H' b = some o) → Q .non H'
section
variable {P : Program} {w : World} {K : PySem.W.Frag} {mg : Str → Option Value} {base : Heap} {f C : Addr} {fd : FuncData}
theorem ok_do (F : Fun K "_do" "File._do" sDo f fd) (T : FilC K C) : FnOk P w K mg base CX0 1 f fd NDo (spDo K C) := by
  refine F.ok scDo (fun vs H Q E h => by obtain ⟨p, dx, tp, fa, tn, tu, now, ps, e, _⟩ := h; rw [e]; rfl) fun cdv A outer s H vs Q E hr hsp => ?_
  obtain ⟨p, dx, tp, fa, tn, tu, now, ps, rfl, hp, hs, npt, sh, hq⟩ := hsp
  refine ⟨_, pss_cons (ps_fld (pv 0) (pe_tup (StX.pa_star (pe_fld (pv 0) rfl) (pa_cons (pe_fld (pv 0) rfl) pa_nil))) rfl) (pss_cons (ps_fld (pv 0) (pv 1) rfl) (pss_one (ps_fld (pv 0) (pe_tup pa_nil) rfl))), ?_⟩
  refine ⟨_, rfl, p, C, dx, _, _, rfl, hp, T.cl, T.nP, rfl, tp, ps, rfl, .inl hs, ?_⟩
  refine ⟨_, rfl, p, C, dx, _, _, rfl, hp, T.cl, T.nN, rfl, ?_, fun t1 n1 => ?_⟩
  · show (ps ++ [tn]).length ≤ sizeLine
    rw [sizeLine_eq, List.length_append]
    show ps.length + 1 ≤ _
    omega
  have np1 : t1 ≠ p := (ne_of_none hp n1).symm
  refine ⟨_, rfl, p, C, dx, _, rfl, by rw [upd_ne np1.symm]; exact hp, T.cl, T.nP, (by show 4 < 1000; omega), ?_⟩
  refine ⟨_, rfl, _, rfl, p, C, dx, _, rfl, upd_same, T.cl, T.nN, (by show 4 < 1000; omega), ?_⟩
  refine ⟨(by show 0 ≤ sizeLine; omega), fun t2 n2 => ?_⟩
  have np2 : t2 ≠ p := fun z => by rw [z, upd_same] at n2; cases n2
  have n12 : t2 ≠ t1 := fun z => by rw [z, upd_ne np1, upd_ne np1, upd_same] at n2; cases n2
  have m2 : H t2 = none := by rw [upd_ne np2, upd_ne np2, upd_ne n12] at n2; exact n2
  refine ⟨_, rfl, p, C, dx, _, rfl, by rw [upd_ne np2.symm, upd_same], T.cl, T.nU, (by show 4 < 1000; omega), ?_⟩
  refine hq _ t1 t2 n1 m2 upd_same ?_ ?_ fun b o nb e => ?_
  · rw [upd_ne np1, upd_ne n12.symm, upd_ne np1, upd_ne np1, upd_same]
  · rw [upd_ne np2, upd_same]
  · rw [upd_ne nb, upd_ne (ne_of_none e m2), upd_ne nb, upd_ne nb, upd_ne (ne_of_none e n1)]; exact e
end
end L2.TB
/-! a file's undo and again: the two halves move alike -/
namespace L2.TB
open PySem PySem.Spec PyProof.Rows LamX
theorem cut_init (xs : List V) (v : V) : cutV (xs ++ [v]) none (some (-1)) = xs := by
  unfold cutV
  have e1 : HT.sIx (xs ++ [v]).length 0 none = 0 := rfl
  have e2 : HT.sIx (xs ++ [v]).length (xs ++ [v]).length (some (-1)) = xs.length := by
    show (if (-1 : Int) < 0 then ((-1 : Int) + ((xs ++ [v]).length : Int)).toNat else min (-1 : Int).toNat (xs ++ [v]).length) = _
    have l : (xs ++ [v]).length = xs.length + 1 := by simp
    rw [if_pos (by decide : (-1 : Int) < 0), l]
    omega
  rw [e1, e2]
  simp
abbrev NUn : List Str := ["self"]
theorem scUndo : FnScope NUn NUn (defScope sUndo) := ⟨rfl, rfl, rfl, by decide +kernel, rfl, by decide +kernel, by decide +kernel⟩
def spUndo (C : Addr) : Sp := fun vs H Q _ => ∃ (p dx tp tu : Addr) (fa tn : V) (ps us : List V), vs = [.ref p] ∧ H p = some (.ins C dx (fF fa tn (.ref tp) (.ref tu))) ∧ H tp = some (.tup ps) ∧ H tu = some (.tup us) ∧ us.length < 1000 ∧
  (ps = [] → Q (.bl false) H) ∧ (∀ qs v, ps = qs ++ [v] → ∀ H' t1 t2, H t1 = none → H t2 = none → H' p = some (.ins C dx (fF fa v (.ref t1) (.ref t2))) → H' t1 = some (.tup qs) → H' t2 = some (.tup (us ++ [tn])) → (∀ b o, b ≠ p → H b = some o → H' b = some o) → Q (.bl true) H')
section
variable {P : Program} {w : World} {K : PySem.W.Frag} {mg : Str → Option Value} {base : Heap} {f C : Addr} {fd : FuncData}
theorem ok_undo (F : Fun K "undo" "File.undo" sUndo f fd) (T : FilC K C) : FnOk P w K mg base CX0 1 f fd NUn (spUndo C) := by
  refine F.ok scUndo (fun vs H Q E h => by obtain ⟨p, dx, tp, tu, fa, tn, ps, us, e, _⟩ := h; rw [e]; rfl) fun cdv A outer s H vs Q E hr hsp => ?_
  obtain ⟨p, dx, tp, tu, fa, tn, ps, us, rfl, hp, h1, h2, sh, hn, hq⟩ := hsp
  refine ⟨_, pss_cons (ps_if (pt_not (pt_truth (pe_fld (pv 0) rfl) (fun _ => rfl))) (pss_one (ps_ret pe_bl)) pss_nil)
    (pss_cons (ps_fld (pv 0) (pe_tup (StX.pa_star (pe_fld (pv 0) rfl) (pa_cons (pe_fld (pv 0) rfl) pa_nil))) rfl)
    (pss_cons (ps_fld (pv 0) (pe_ix (r := rIxT K) ix_tup (pe_fld (pv 0) rfl) (pe_un un_neg pe_int) (fun _ _ => rfl)) rfl)
    (pss_cons (ps_fld (pv 0) (pe_slice sl_tup (pe_fld (pv 0) rfl) po_none (po_some (pe_un un_neg pe_int))) rfl) (pss_one (ps_ret pe_bl))))), ?_⟩
  refine ⟨_, rfl, p, C, dx, _, _, rfl, hp, T.cl, T.nP, rfl, !ps.isEmpty, .inr (.inl ⟨ps, SqT.of h1, rfl⟩), ?_⟩
  rcases List.eq_nil_or_concat ps with e | ⟨qs, v, e⟩
  · subst e
    exact iteT (hn rfl)
  · rw [List.concat_eq_append] at e
    subst e
    have ie : (!(!(qs ++ [v]).isEmpty)) = false := by simp
    rw [ie]
    refine iteF ?_
    refine ⟨_, rfl, p, C, dx, _, _, rfl, hp, T.cl, T.nU, rfl, tu, us, rfl, .inl (SqT.of h2), ?_⟩
    refine ⟨_, rfl, p, C, dx, _, _, rfl, hp, T.cl, T.nN, rfl, ?_, fun t2 n2 => ?_⟩
    · show (us ++ [tn]).length ≤ sizeLine
      rw [sizeLine_eq, List.length_append]
      show us.length + 1 ≤ _
      omega
    have np2 : t2 ≠ p := (ne_of_none hp n2).symm
    have ntp : tp ≠ p := fun z => by rw [z, hp] at h1; cases h1
    have tp2 : t2 ≠ tp := (ne_of_none h1 n2).symm
    refine ⟨_, rfl, p, C, dx, _, rfl, by rw [upd_ne np2.symm]; exact hp, T.cl, T.nU, (by show 4 < 1000; omega), ?_⟩
    refine ⟨_, rfl, p, C, dx, _, _, rfl, upd_same, T.cl, T.nP, rfl, 1, rfl, tp, qs ++ [v], -1, v, rfl, rfl, SqT.of ?_, atI_last _ _, ?_⟩
    · rw [upd_ne ntp, upd_ne tp2.symm]; exact h1
    refine ⟨_, rfl, p, C, dx, _, rfl, upd_same, T.cl, T.nN, (by show 4 < 1000; omega), ?_⟩
    refine ⟨_, rfl, p, C, dx, _, _, rfl, upd_same, T.cl, T.nP, rfl, ?_⟩
    refine ⟨1, rfl, -1, rfl, tp, qs ++ [v], rfl, SqT.of ?_, ?_, fun t1 n1 => ?_⟩
    · rw [upd_ne ntp, upd_ne ntp, upd_ne tp2.symm]; exact h1
    · rintro ⟨_, z⟩
      have l : (qs ++ [v]).length = qs.length + 1 := by simp
      have z' : (if (-1 : Int) < 0 then ((-1 : Int) + ((qs ++ [v]).length : Int)).toNat else min (-1 : Int).toNat (qs ++ [v]).length) = (qs ++ [v]).length := z
      rw [if_pos (by decide : (-1 : Int) < 0), l] at z'
      omega
    have np1 : t1 ≠ p := fun z => by rw [z, upd_same] at n1; cases n1
    have n12 : t1 ≠ t2 := fun z => by rw [z, upd_ne np2, upd_ne np2, upd_same] at n1; cases n1
    have m1 : H t1 = none := by rw [upd_ne np1, upd_ne np1, upd_ne n12] at n1; exact n1
    refine ⟨_, rfl, p, C, dx, _, rfl, by rw [upd_ne np1.symm, upd_same], T.cl, T.nP, (by show 4 < 1000; omega), ?_⟩
    refine hq qs v rfl _ t1 t2 m1 n2 upd_same ?_ ?_ fun b o nb e => ?_
    · rw [upd_ne np1, upd_same]; exact congrArg (fun x => some (HO.tup x)) (cut_init qs v)
    · rw [upd_ne np2, upd_ne n12.symm, upd_ne np2, upd_ne np2, upd_same]
    · rw [upd_ne nb, upd_ne (ne_of_none e m1), upd_ne nb, upd_ne nb, upd_ne (ne_of_none e n2)]; exact e
end
end L2.TB
/-! a file's again: undo's mirror -/
namespace L2.TB
open PySem PySem.Spec PyProof.Rows LamX
theorem scAgain : FnScope NUn NUn (defScope sAgain) := ⟨rfl, rfl, rfl, by decide +kernel, rfl, by decide +kernel, by decide +kernel⟩
def spAgain (C : Addr) : Sp := fun vs H Q _ => ∃ (p dx tp tu : Addr) (fa tn : V) (ps us : List V), vs = [.ref p] ∧ H p = some (.ins C dx (fF fa tn (.ref tu) (.ref tp))) ∧ H tp = some (.tup ps) ∧ H tu = some (.tup us) ∧ us.length < 1000 ∧
  (ps = [] → Q (.bl false) H) ∧ (∀ qs v, ps = qs ++ [v] → ∀ H' t1 t2, H t1 = none → H t2 = none → H' p = some (.ins C dx (fF fa v (.ref t2) (.ref t1))) → H' t1 = some (.tup qs) → H' t2 = some (.tup (us ++ [tn])) → (∀ b o, b ≠ p → H b = some o → H' b = some o) → Q (.bl true) H')
section
variable {P : Program} {w : World} {K : PySem.W.Frag} {mg : Str → Option Value} {base : Heap} {f C : Addr} {fd : FuncData}
theorem ok_again (F : Fun K "again" "File.again" sAgain f fd) (T : FilC K C) : FnOk P w K mg base CX0 1 f fd NUn (spAgain C) := by
  refine F.ok scAgain (fun vs H Q E h => by obtain ⟨p, dx, tp, tu, fa, tn, ps, us, e, _⟩ := h; rw [e]; rfl) fun cdv A outer s H vs Q E hr hsp => ?_
  obtain ⟨p, dx, tp, tu, fa, tn, ps, us, rfl, hp, h1, h2, sh, hn, hq⟩ := hsp
  refine ⟨_, pss_cons (ps_if (pt_not (pt_truth (pe_fld (pv 0) rfl) (fun _ => rfl))) (pss_one (ps_ret pe_bl)) pss_nil)
    (pss_cons (ps_fld (pv 0) (pe_tup (StX.pa_star (pe_fld (pv 0) rfl) (pa_cons (pe_fld (pv 0) rfl) pa_nil))) rfl)
    (pss_cons (ps_fld (pv 0) (pe_ix (r := rIxT K) ix_tup (pe_fld (pv 0) rfl) (pe_un un_neg pe_int) (fun _ _ => rfl)) rfl)
    (pss_cons (ps_fld (pv 0) (pe_slice sl_tup (pe_fld (pv 0) rfl) po_none (po_some (pe_un un_neg pe_int))) rfl) (pss_one (ps_ret pe_bl))))), ?_⟩
  refine ⟨_, rfl, p, C, dx, _, _, rfl, hp, T.cl, T.nU, rfl, !ps.isEmpty, .inr (.inl ⟨ps, SqT.of h1, rfl⟩), ?_⟩
  rcases List.eq_nil_or_concat ps with e | ⟨qs, v, e⟩
  · subst e
    exact iteT (hn rfl)
  · rw [List.concat_eq_append] at e
    subst e
    have ie : (!(!(qs ++ [v]).isEmpty)) = false := by simp
    rw [ie]
    refine iteF ?_
    refine ⟨_, rfl, p, C, dx, _, _, rfl, hp, T.cl, T.nP, rfl, tu, us, rfl, .inl (SqT.of h2), ?_⟩
    refine ⟨_, rfl, p, C, dx, _, _, rfl, hp, T.cl, T.nN, rfl, ?_, fun t2 n2 => ?_⟩
    · show (us ++ [tn]).length ≤ sizeLine
      rw [sizeLine_eq, List.length_append]
      show us.length + 1 ≤ _
      omega
    have np2 : t2 ≠ p := (ne_of_none hp n2).symm
    have ntp : tp ≠ p := fun z => by rw [z, hp] at h1; cases h1
    have tp2 : t2 ≠ tp := (ne_of_none h1 n2).symm
    refine ⟨_, rfl, p, C, dx, _, rfl, by rw [upd_ne np2.symm]; exact hp, T.cl, T.nP, (by show 4 < 1000; omega), ?_⟩
    refine ⟨_, rfl, p, C, dx, _, _, rfl, upd_same, T.cl, T.nU, rfl, 1, rfl, tp, qs ++ [v], -1, v, rfl, rfl, SqT.of ?_, atI_last _ _, ?_⟩
    · rw [upd_ne ntp, upd_ne tp2.symm]; exact h1
    refine ⟨_, rfl, p, C, dx, _, rfl, upd_same, T.cl, T.nN, (by show 4 < 1000; omega), ?_⟩
    refine ⟨_, rfl, p, C, dx, _, _, rfl, upd_same, T.cl, T.nU, rfl, ?_⟩
    refine ⟨1, rfl, -1, rfl, tp, qs ++ [v], rfl, SqT.of ?_, ?_, fun t1 n1 => ?_⟩
    · rw [upd_ne ntp, upd_ne ntp, upd_ne tp2.symm]; exact h1
    · rintro ⟨_, z⟩
      have l : (qs ++ [v]).length = qs.length + 1 := by simp
      have z' : (if (-1 : Int) < 0 then ((-1 : Int) + ((qs ++ [v]).length : Int)).toNat else min (-1 : Int).toNat (qs ++ [v]).length) = (qs ++ [v]).length := z
      rw [if_pos (by decide : (-1 : Int) < 0), l] at z'
      omega
    have np1 : t1 ≠ p := fun z => by rw [z, upd_same] at n1; cases n1
    have n12 : t1 ≠ t2 := fun z => by rw [z, upd_ne np2, upd_ne np2, upd_same] at n1; cases n1
    have m1 : H t1 = none := by rw [upd_ne np1, upd_ne np1, upd_ne n12] at n1; exact n1
    refine ⟨_, rfl, p, C, dx, _, rfl, by rw [upd_ne np1.symm, upd_same], T.cl, T.nU, (by show 4 < 1000; omega), ?_⟩
    refine hq qs v rfl _ t1 t2 m1 n2 upd_same ?_ ?_ fun b o nb e => ?_
    · rw [upd_ne np1, upd_same]; exact congrArg (fun x => some (HO.tup x)) (cut_init qs v)
    · rw [upd_ne np2, upd_ne n12.symm, upd_ne np2, upd_ne np2, upd_same]
    · rw [upd_ne nb, upd_ne (ne_of_none e m1), upd_ne nb, upd_ne nb, upd_ne (ne_of_none e n2)]; exact e
end
end L2.TB
/-! a file made; known -/
namespace L2.TB
open PySem PySem.Spec PyProof.Rows LamX
abbrev NFI : List Str := ["self", "field"]
theorem scFI : FnScope NFI NFI (defScope sFInit) := ⟨rfl, rfl, rfl, by decide +kernel, rfl, by decide +kernel, by decide +kernel⟩
def spFI (C : Addr) : Sp := fun vs H Q _ => ∃ (p dx : Addr) (fa : V), vs = [.ref p, fa] ∧ H p = some (.ins C dx []) ∧
  ∀ H' t0 t1 t2, H t0 = none → H t1 = none → H t2 = none → H' p = some (.ins C dx (fF fa (.ref t0) (.ref t1) (.ref t2))) → H' t0 = some (.tup []) → H' t1 = some (.tup []) → H' t2 = some (.tup []) → (∀ b o, b ≠ p → H b = some o → H' b = some o) → Q .non H'
theorem scKn : FnScope NUn NUn (defScope sKnown) := ⟨rfl, rfl, rfl, by decide +kernel, rfl, by decide +kernel, by decide +kernel⟩
def spKn (C : Addr) : Sp := fun vs H Q _ => ∃ (p dx tn : Addr) (fa tp tu : V) (xs : List V), vs = [.ref p] ∧ H p = some (.ins C dx (fF fa (.ref tn) tp tu)) ∧ H tn = some (.tup xs) ∧ xs.length < 1000 ∧ ∀ q, H q = none → Q (.ref q) (upd H q (.lst xs))
section
variable {P : Program} {w : World} {K : PySem.W.Frag} {mg : Str → Option Value} {base : Heap} {f C : Addr} {fd : FuncData}
theorem ok_fInit (F : Fun K "__init__" "File.__init__" sFInit f fd) (T : FilC K C) : FnOk P w K mg base CX0 1 f fd NFI (spFI C) := by
  refine F.ok scFI (fun vs H Q E h => by obtain ⟨p, dx, fa, e, _⟩ := h; rw [e]; rfl) fun cdv A outer s H vs Q E hr hsp => ?_
  obtain ⟨p, dx, fa, rfl, hp, hq⟩ := hsp
  refine ⟨_, pss_cons (ps_fld (pv 0) (pv 1) rfl) (pss_cons (ps_fld (pv 0) (pe_tup pa_nil) rfl) (pss_cons (ps_fld (pv 0) (pe_tup pa_nil) rfl) (pss_one (ps_fld (pv 0) (pe_tup pa_nil) rfl)))), ?_⟩
  refine ⟨_, rfl, _, rfl, p, C, dx, _, rfl, hp, T.cl, T.nF, (by show 0 < 1000; omega), ?_⟩
  refine ⟨(by show 0 ≤ sizeLine; omega), fun t0 n0 => ?_⟩
  have np0 : t0 ≠ p := fun z => by rw [z, upd_same] at n0; cases n0
  have m0 : H t0 = none := by rw [upd_ne np0] at n0; exact n0
  refine ⟨_, rfl, p, C, dx, _, rfl, by rw [upd_ne np0.symm, upd_same], T.cl, T.nN, (by show 1 < 1000; omega), ?_⟩
  refine ⟨(by show 0 ≤ sizeLine; omega), fun t1 n1 => ?_⟩
  have np1 : t1 ≠ p := fun z => by rw [z, upd_same] at n1; cases n1
  have n10 : t1 ≠ t0 := fun z => by rw [z, upd_ne np0, upd_same] at n1; cases n1
  have m1 : H t1 = none := by rw [upd_ne np1, upd_ne n10, upd_ne np1] at n1; exact n1
  refine ⟨_, rfl, p, C, dx, _, rfl, by rw [upd_ne np1.symm, upd_same], T.cl, T.nP, (by show 2 < 1000; omega), ?_⟩
  refine ⟨(by show 0 ≤ sizeLine; omega), fun t2 n2 => ?_⟩
  have np2 : t2 ≠ p := fun z => by rw [z, upd_same] at n2; cases n2
  have n21 : t2 ≠ t1 := fun z => by rw [z, upd_ne np1, upd_same] at n2; cases n2
  have n20 : t2 ≠ t0 := fun z => by rw [z, upd_ne np0, upd_ne n10.symm, upd_ne np0, upd_same] at n2; cases n2
  have m2 : H t2 = none := by rw [upd_ne np2, upd_ne n21, upd_ne np2, upd_ne n20, upd_ne np2] at n2; exact n2
  refine ⟨_, rfl, p, C, dx, _, rfl, by rw [upd_ne np2.symm, upd_same], T.cl, T.nU, (by show 3 < 1000; omega), ?_⟩
  refine hq _ t0 t1 t2 m0 m1 m2 upd_same ?_ ?_ ?_ fun b o nb e => ?_
  · rw [upd_ne np0, upd_ne n20.symm, upd_ne np0, upd_ne n10.symm, upd_ne np0, upd_same]
  · rw [upd_ne np1, upd_ne n21.symm, upd_ne np1, upd_same]
  · rw [upd_ne np2, upd_same]
  · rw [upd_ne nb, upd_ne (ne_of_none e m2), upd_ne nb, upd_ne (ne_of_none e m1), upd_ne nb, upd_ne (ne_of_none e m0), upd_ne nb]; exact e
end
end L2.TB
/-! a file's known -/
namespace L2.TB
open PySem PySem.Spec PyProof.Rows LamX
section
variable {P : Program} {w : World} {K : PySem.W.Frag} {mg : Str → Option Value} {base : Heap} {f C : Addr} {fd : FuncData}
theorem ok_kn (F : Fun K "known" "File.known" sKnown f fd) (T : FilC K C) (nL : mg "list" = none) : FnOk P w K mg base CX0 1 f fd NUn (spKn C) := by
  refine F.ok scKn (fun vs H Q E h => by obtain ⟨p, dx, tn, fa, tp, tu, xs, e, _⟩ := h; rw [e]; rfl) fun cdv A outer s H vs Q E hr hsp => ?_
  obtain ⟨p, dx, tn, fa, tp, tu, xs, rfl, hp, h1, sh, hq⟩ := hsp
  refine ⟨_, pss_one (ps_ret (pe_callTy call_list_of rfl nL rfl (pa_cons (pe_fld (pv 0) rfl) pa_nil))), ?_⟩
  exact ⟨_, rfl, p, C, dx, _, _, rfl, hp, T.cl, T.nN, rfl, tn, xs, rfl, .inr (SqT.of h1), fun l nl => hq l nl⟩
end
end L2.TB
namespace L2.TB
open PySem PySem.Spec PyProof.Rows
/-! ### the spring of draws -/
structure StrmAt (H : Hp) (l ls : Addr) (cs : List Int) (g k m N : Int) : Prop where
  o : H l = some (.lst [.ref ls, .int g, .int k, .int m])
  c : H ls = some (.lst (cs.map V.int))
  ne : ls ≠ l
  g0 : 0 ≤ g
  k0 : 0 ≤ k
  k1 : k ≤ N
  m0 : 0 ≤ m
  m1 : m < 2147483647
  sz : cs.length ≤ 100
def Strm (H : Hp) (l ls : Addr) (N : Int) : Prop := ∃ cs g k m, StrmAt H l ls cs g k m N
/-- all but the spring is as it was -/
def But (l ls : Addr) (H H' : Hp) : Prop := ∀ b o, b ≠ l → b ≠ ls → H b = some o → H' b = some o
theorem But.refl (l ls : Addr) (H : Hp) : But l ls H H := fun _ _ _ _ e => e
theorem But.trans {l ls : Addr} {H H1 H2 : Hp} (a : But l ls H H1) (b : But l ls H1 H2) : But l ls H H2 := fun c o h1 h2 e => b c o h1 h2 (a c o h1 h2 e)
theorem But.of {l ls : Addr} {H H' : Hp} (a : Same H H') : But l ls H H' := fun c o _ _ e => a c o e
theorem But.upd {l ls a : Addr} {H : Hp} {o : HO} (h : a = l ∨ a = ls) : But l ls H (upd H a o) := fun b u h1 h2 e => by
  have ne : b ≠ a := by rcases h with h | h <;> (subst h; assumption)
  rw [upd_ne ne]; exact e
theorem dp_ints {K : PySem.W.Frag} {H : Hp} : ∀ cs : List Int, DpAll K H (cs.map V.int) (cs.map PyData.int)
  | [] => .nil
  | c :: cs => .cons (.int c) (dp_ints cs)
def spDraw : Sp := fun vs H Q _ => ∃ (l ls : Addr) (many N : Int), vs = [.ref l, .int many] ∧ Strm H l ls N ∧ N ≤ 1000000 ∧ 0 < many ∧ many < 1000 ∧
  ∀ H' r, 0 ≤ r → r < many → Strm H' l ls (N + 1) → But l ls H H' → Q (.int r) H'
theorem scDraw : FnScope ["stream", "many", "cell", "digit", "mixed"] ["stream", "many"] (defScope sDraw) := ⟨rfl, rfl, rfl, by decide +kernel, rfl, by decide +kernel, by decide +kernel⟩
theorem pow_nn (a : Int) (h : 0 ≤ a) : 0 ≤ a ^ (Int.toNat 5) := Int.pow_nonneg h
theorem at0 {a b c d : V} : atI [a, b, c, d] 0 = some a := rfl
theorem at1 {a b c d : V} : atI [a, b, c, d] 1 = some b := rfl
theorem at2 {a b c d : V} : atI [a, b, c, d] 2 = some c := rfl
theorem at3 {a b c d : V} : atI [a, b, c, d] 3 = some d := rfl
theorem draw_end {A B C many : Int} (h : 0 < many) : 0 ≤ A % B % many ∧ A % B % many < many :=
  ⟨Int.emod_nonneg _ (by omega), Int.emod_lt_of_pos _ h⟩
section
variable {P : Program} {w : World} {K : PySem.W.Frag} {mg : Str → Option Value} {base : Heap} {f : Addr} {fd : FuncData}
theorem ok_draw (F : Fun K "_law_draw" "_law_draw" sDraw f fd) (gI : mg "int" = none) : FnOk P w K mg base CX0 1 f fd ["stream", "many"] spDraw := by
  refine F.ok scDraw (fun vs H Q E h => by obtain ⟨l, ls, many, N, e, _⟩ := h; rw [e]; rfl) fun cdv A outer s H vs Q E hr hsp => ?_
  obtain ⟨l, ls, many, N, rfl, ⟨cs, g, k, m, S⟩, hN, h0, h1, hq⟩ := hsp
  have nd := scDraw.nd
  have hu := hu_of hr
  have hu64 := hr.units
  obtain ⟨tl, ptl, htl⟩ : ∃ t, PSs (cxOf CX0 P w K mg base ["stream", "many", "cell", "digit", "mixed"] "_law_draw" (defScope sDraw) f cdv A outer s H E).nox ((defBody sDraw).drop 2) t ∧
      ∀ (H1 : Hp) (c : Option V) (cs : List Int) (g k m : Int), StrmAt H1 l ls cs g k m (N + 1) → But l ls H H1 →
        t { nx := fun _ H' => Q .non H', rt := Q } [some (.ref l), some (.int many), c, none, none] H1 := by
    refine ⟨_, pss_cons (ps_if (pt_cmpR op_gt (pe_ix ix_list (pv 0) pe_int (fun _ _ => rfl)) pe_int (nomark _))
      (pss_cons (ps_set (i := 3) nd rfl (Or.inl rfl) (pe_op op_mod (pe_callTy call_int1 rfl gI boot_int (pa_cons (pe_ix ix_list (pv 0) pe_int (fun _ _ => rfl)) pa_nil)) (pv 1)))
      (pss_cons (ps_asg (pe_op op_fdiv (pe_ix ix_list (pv 0) pe_int (fun _ _ => rfl)) (pv 1)) (pg_sub (pv 0) pe_int set_list))
      (pss_one (ps_ret (pv 3)))))
      pss_nil)
    (pss_cons (ps_set (i := 4) nd rfl (Or.inl rfl) (pe_op op_mod (pe_callTy call_int1 rfl gI boot_int (pa_cons (pe_op op_pow (pe_op op_add (pe_op op_add (pe_ix ix_list (pv 0) pe_int (fun _ _ => rfl)) (pe_op op_mul pe_int (pe_ix ix_list (pv 0) pe_int (fun _ _ => rfl)))) pe_int) pe_int) pa_nil)) pe_int))
    (pss_one (ps_ret (pe_op op_mod (pe_op op_mod (pe_callTy call_int1 rfl gI boot_int (pa_cons (pe_op op_pow (pe_op op_add (pe_op op_add (pe_op op_mul (pv 4) pe_int) (pe_op op_mul pe_int (pe_ix ix_list (pv 0) pe_int (fun _ _ => rfl)))) pe_int) pe_int) pa_nil)) pe_int) (pv 1))))), fun H1 c cs g k m S hB => ?_⟩
    refine ⟨_, rfl, _, _, _, _, rfl, rfl, SqL.of S.o, at1, _, _, rfl, rfl, _, rfl, ite2 (fun e => ?_) (fun e => ?_)⟩
    · refine ⟨_, rfl, _, _, _, _, rfl, rfl, SqL.of S.o, at1, .inl ⟨_, rfl, ?_⟩⟩
      refine ⟨_, rfl, _, _, rfl, rfl, h0, ?_⟩
      refine ⟨_, rfl, _, _, _, _, rfl, rfl, SqL.of S.o, at1, _, rfl, _, _, rfl, rfl, ⟨h0, by omega⟩, ?_⟩
      refine ⟨_, rfl, _, _, _, _, rfl, rfl, S.o, rfl, ?_⟩
      refine ⟨_, rfl, ?_⟩
      refine hq _ _ (Int.emod_nonneg _ (by omega)) (Int.emod_lt_of_pos _ h0) ⟨cs, g / many, k, m, ⟨upd_same, ?_, S.ne, Int.ediv_nonneg S.g0 (by omega), S.k0, S.k1, S.m0, S.m1, S.sz⟩⟩ (hB.trans (But.upd (.inl rfl)))
      rw [upd_ne S.ne]; exact S.c
    · have hk := S.k1
      have hk0 := S.k0
      have hm := S.m0
      have hm1 := S.m1
      refine ⟨_, rfl, _, _, _, _, rfl, rfl, SqL.of S.o, at3, _, rfl, _, _, _, _, rfl, rfl, SqL.of S.o, at2, _, _, rfl, rfl, .inl ⟨by decide, by decide⟩, _, _, rfl, rfl, _, _, rfl, rfl, _, _, rfl, rfl, ⟨by decide, by decide, ?_⟩, ?_⟩
      · omega
      refine .inl ⟨_, rfl, _, _, rfl, rfl, (by show (0 : Int) < 2147483629; decide), ?_⟩
      have e1 := Int.emod_nonneg ((m + 7919 * k + 104729) ^ Int.toNat 5) (show (2147483629 : Int) ≠ 0 by decide)
      have e2 := Int.emod_lt_of_pos ((m + 7919 * k + 104729) ^ Int.toNat 5) (show (0 : Int) < 2147483629 by decide)
      generalize (m + 7919 * k + 104729) ^ Int.toNat 5 % 2147483629 = z at e1 e2 ⊢
      refine ⟨_, rfl, _, _, rfl, rfl, .inr ⟨by decide, by decide⟩, _, rfl, _, _, _, _, rfl, rfl, SqL.of S.o, at2, _, _, rfl, rfl, .inl ⟨by decide, by decide⟩, _, _, rfl, rfl, _, _, rfl, rfl, _, _, rfl, rfl, ⟨by decide, by decide, ?_⟩, ?_⟩
      · omega
      refine .inl ⟨_, rfl, _, _, rfl, rfl, (by show (0 : Int) < 1000000007; decide), _, rfl, _, _, rfl, rfl, h0, ?_⟩
      exact hq _ _ (Int.emod_nonneg _ (by omega)) (Int.emod_lt_of_pos _ h0) ⟨cs, g, k, m, S⟩ hB
  refine ⟨_, pss_cons (ps_asg (pe_op op_add (pe_ix ix_list (pv 0) pe_int (fun _ _ => rfl)) pe_int) (pg_sub (pv 0) pe_int set_list))
    (pss_cons (ps_if (PW.pt (pw_and (pt_cmpR op_eq (pe_ix ix_list (pv 0) pe_int (fun _ _ => rfl)) pe_int (nomark _))
        (pw_and1 (pt_cmpR (op_neD hu64) (pe_ix ix_list (pv 0) pe_int (fun _ _ => rfl)) (pe_lst pa_nil) (nomark _)))))
      (pss_cons (ps_set (i := 2) nd rfl (Or.inl rfl) (pe_bm PySem.F.plainAttrs_list PySem.F.slot_list_pop PySem.F.type_list_pop mt_popAt (pe_ix ix_list (pv 0) pe_int (fun _ _ => rfl)) (pa_cons pe_int pa_nil)))
      (pss_cons (ps_asg (pe_op op_mod (pe_callTy call_int1 rfl gI boot_int (pa_cons (pe_op op_add (pe_op op_add (pe_op op_mul (pe_ix ix_list (pv 0) pe_int (fun _ _ => rfl)) pe_int) (pv 2)) pe_int) pa_nil)) pe_int) (pg_sub (pv 0) pe_int set_list))
      (pss_one (ps_asg (pe_ifExp (pt_cmpR op_ge (pv 2) (pe_op op_pow pe_int pe_int) (nomark _)) (pv 2) pe_int) (pg_sub (pv 0) pe_int set_list)))))
      pss_nil) ptl), ?_⟩
  refine ⟨_, rfl, _, _, _, _, rfl, rfl, SqL.of S.o, at2, _, _, rfl, rfl, _, rfl, _, _, _, _, rfl, rfl, S.o, rfl, ?_⟩
  have S1 : StrmAt (upd H l (.lst [.ref ls, .int g, .int (k + 1), .int m])) l ls cs g (k + 1) m (N + 1) :=
    ⟨upd_same, by rw [upd_ne S.ne]; exact S.c, S.ne, S.g0, by have := S.k0; omega, by have := S.k1; omega, S.m0, S.m1, S.sz⟩
  have B1 : But l ls H (upd H l (.lst [.ref ls, .int g, .int (k + 1), .int m])) := But.upd (.inl rfl)
  refine ⟨_, rfl, _, _, _, _, rfl, rfl, SqL.of S1.o, at1, rfl, _, rfl, ite2 (fun e => ?_) (fun e => ?_)⟩
  · refine ⟨_, rfl, _, _, _, _, rfl, rfl, SqL.of S1.o, at0, Nat.zero_le _, fun q nq => ?_⟩
    have ql : q ≠ l := by
      intro z; rw [z, upd_same] at nq; cases nq
    have qs : q ≠ ls := by
      intro z; rw [z, upd_ne S.ne] at nq; rw [S.c] at nq; cases nq
    have S2 : StrmAt (upd (upd H l (.lst [.ref ls, .int g, .int (k + 1), .int m])) q (.lst [])) l ls cs g (k + 1) m (N + 1) :=
      ⟨by rw [upd_ne (Ne.symm ql)]; exact S1.o, by rw [upd_ne (Ne.symm qs)]; exact S1.c, S.ne, S1.g0, S1.k0, S1.k1, S1.m0, S1.m1, S1.sz⟩
    have B2 : But l ls H (upd (upd H l (.lst [.ref ls, .int g, .int (k + 1), .int m])) q (.lst [])) := B1.trans (But.of fun b o eb => by
      rw [upd_ne (ne_of_none eb nq)]; exact eb)
    refine ⟨.list (cs.map .int), .list [], .lst (SqL.of S2.c) (dp_ints cs), .lst (SqL.of upd_same) .nil, PySem.W.shaped_ints cs, by decide, ?_⟩
    cases cs with
    | nil =>
      refine ⟨_, rfl, iteF ?_⟩
      exact htl _ none [] g (k + 1) m S2 B2
    | cons c cs =>
      refine ⟨_, rfl, iteT ?_⟩
      refine ⟨_, rfl, _, _, _, _, rfl, rfl, SqL.of S2.o, at0, .inl ⟨rfl, _, SqL.of S2.c⟩, ?_⟩
      have ix0 : ixN ((c :: cs).map V.int).length 0 = some 0 := by
        simp [ixN]
      refine ⟨ls, _, 0, 0, .int c, rfl, rfl, S2.c, by decide, by decide, (ixN_seq ix0).1, rfl, ?_⟩
      have S3 : StrmAt (upd (upd (upd H l (.lst [.ref ls, .int g, .int (k + 1), .int m])) q (.lst [])) ls (.lst (cs.map V.int))) l ls cs g (k + 1) m (N + 1) :=
        ⟨by rw [upd_ne (Ne.symm S.ne)]; exact S2.o, upd_same, S.ne, S2.g0, S2.k0, S2.k1, S2.m0, S2.m1, by have := S2.sz; simp only [List.length_cons] at this; omega⟩
      have B3 := B2.trans (But.upd (l := l) (ls := ls) (a := ls) (H := upd (upd H l (.lst [.ref ls, .int g, .int (k + 1), .int m])) q (.lst [])) (o := .lst (cs.map V.int)) (.inr rfl))
      have hm0 := S.m0
      have hm1 := S.m1
      refine ⟨_, rfl, _, _, _, _, rfl, rfl, SqL.of S3.o, at3, _, _, rfl, rfl, .inl ⟨by omega, by omega⟩, _, rfl, _, _, rfl, rfl, _, _, rfl, rfl, .inl ⟨_, rfl, _, _, rfl, rfl, (by show (0 : Int) < 2147483647; decide), ?_⟩⟩
      refine ⟨_, rfl, _, _, _, _, rfl, rfl, S3.o, rfl, ?_⟩
      have S4 : StrmAt (upd (upd (upd (upd H l (.lst [.ref ls, .int g, .int (k + 1), .int m])) q (.lst [])) ls (.lst (cs.map V.int))) l (.lst [.ref ls, .int g, .int (k + 1), .int ((m * 8191 + c + 3) % 2147483647)])) l ls cs g (k + 1) ((m * 8191 + c + 3) % 2147483647) (N + 1) :=
        ⟨upd_same, by rw [upd_ne S.ne]; exact S3.c, S.ne, S3.g0, S3.k0, S3.k1, Int.emod_nonneg _ (by decide), Int.emod_lt_of_pos _ (by decide), S3.sz⟩
      have B4 := B3.trans (But.upd (l := l) (ls := ls) (a := l) (o := .lst [.ref ls, .int g, .int (k + 1), .int ((m * 8191 + c + 3) % 2147483647)]) (.inl rfl))
      refine ⟨_, rfl, _, _, rfl, rfl, ⟨by decide, by decide, by decide⟩, _, _, rfl, rfl, _, rfl, ite2 (fun e4 => ?_) (fun e4 => ?_)⟩
      · refine ⟨_, rfl, _, rfl, _, _, _, _, rfl, rfl, S4.o, rfl, ?_⟩
        have hc : (0 : Int) ≤ c := by
          have z := of_decide_eq_true e4
          have z2 : (0 : Int) ≤ 10 ^ (Int.toNat 18) := Int.pow_nonneg (by decide)
          omega
        exact htl _ (some (.int c)) cs c (k + 1) ((m * 8191 + c + 3) % 2147483647)
          ⟨upd_same, by rw [upd_ne S.ne]; exact S4.c, S.ne, hc, S4.k0, S4.k1, S4.m0, S4.m1, S4.sz⟩ (B4.trans (But.upd (.inl rfl)))
      · refine ⟨_, rfl, _, _, _, _, rfl, rfl, S4.o, rfl, ?_⟩
        exact htl _ (some (.int c)) cs 0 (k + 1) ((m * 8191 + c + 3) % 2147483647)
          ⟨upd_same, by rw [upd_ne S.ne]; exact S4.c, S.ne, by decide, S4.k0, S4.k1, S4.m0, S4.m1, S4.sz⟩ (B4.trans (But.upd (.inl rfl)))
  · refine iteF ?_
    exact htl _ none cs g (k + 1) m S1 B1
def spStart (K : PySem.W.Frag) : Sp := fun vs H Q _ => ∃ (a : Addr) (ns : List Int), vs = [.ref a] ∧ SqL K H a (ns.map V.int) ∧ ns.length ≤ 100 ∧
  ∀ H' l ls, H l = none → Same H H' → Strm H' l ls 0 → H ls = none → Q (.ref l) H'
theorem scStart : FnScope ["script"] ["script"] (defScope sStart) := ⟨rfl, rfl, rfl, by decide +kernel, rfl, by decide +kernel, by decide +kernel⟩
theorem ok_start (F : Fun K "_law_start" "_law_start" sStart f fd) (gL : mg "list" = none) : FnOk P w K mg base CX0 1 f fd ["script"] (spStart K) := by
  refine F.ok scStart (fun vs H Q E h => by obtain ⟨a, ns, e, _⟩ := h; rw [e]; rfl) fun cdv A outer s H vs Q E hr hsp => ?_
  obtain ⟨a, ns, rfl, hS, hn, hq⟩ := hsp
  refine ⟨_, pss_one (ps_ret (pe_lst (pa_cons (pe_callTy call_list_of rfl gL (by decide +kernel) (pa_cons (pv 0) pa_nil)) (pa_cons pe_int (pa_cons pe_int (pa_cons pe_int pa_nil)))))), ?_⟩
  refine ⟨_, rfl, _, _, rfl, .inl hS, fun ls hls => ⟨by rw [sizeLine_eq]; show 4 ≤ _; omega, fun l hl => ?_⟩⟩
  have ne : ls ≠ l := by
    intro z; rw [← z, upd_same] at hl; cases hl
  have hl2 : H l = none := by rw [upd_ne (Ne.symm ne)] at hl; exact hl
  exact hq _ l ls hl2 (fun b o e => by rw [upd_ne (ne_of_none e hl2), upd_ne (ne_of_none e hls)]; exact e)
    ⟨ns, 0, 0, 11, ⟨upd_same, by rw [upd_ne ne, upd_same], ne, by decide, by decide, by decide, by decide, by decide, hn⟩⟩ hls
def spPick (K : PySem.W.Frag) : Sp := fun vs H Q _ => ∃ (l ls c : Addr) (xs : List V) (N : Int), vs = [.ref l, .ref c] ∧ Strm H l ls N ∧ N ≤ 1000000 ∧
  c ≠ l ∧ c ≠ ls ∧ H c = some (.lst xs) ∧ 0 < xs.length ∧ xs.length < 1000 ∧
  ∀ H' x, x ∈ xs → Strm H' l ls (N + 1) → But l ls H H' → Q x H'
theorem scPick : FnScope ["stream", "some"] ["stream", "some"] (defScope sPick) := ⟨rfl, rfl, rfl, by decide +kernel, rfl, by decide +kernel, by decide +kernel⟩
theorem ok_pick {fD : Addr} {fdD : FuncData} (F : Fun K "_law_pick" "_law_pick" sPick f fd) (FD : Fun K "_law_draw" "_law_draw" sDraw fD fdD)
    (gD : mg "_law_draw" = some (.ref fD)) (gI : mg "int" = none) (gN : mg "len" = none) : FnOk P w K mg base CX0 2 f fd ["stream", "some"] (spPick K) := by
  have G : FnOk P w K mg base CX0 1 fD fdD ["stream", "many"] spDraw := ok_draw FD gI
  have b := FD.binds (ps := ["stream", "many"]) fun _ _ _ _ _ _ us hl => match us, hl with | [_, _], _ => rfl
  refine F.ok scPick (fun vs H Q E h => by obtain ⟨l, ls, c, xs, N, e, _⟩ := h; rw [e]; rfl) fun cdv A outer s H vs Q E hr hsp => ?_
  obtain ⟨l, ls, c, xs, N, rfl, hS, hN, n1, n2, hc, h0, h1, hq⟩ := hsp
  refine ⟨_, pss_one (ps_ret (pe_ix ix_list (pv 1) (pe_call G hr rfl gD FD.kp b .nil pass0 (pa_cons (pv 0) (pa_cons (pe_callB call_len rfl gN boot_len (pa_cons (pv 1) pa_nil)) pa_nil))) (fun _ _ => rfl))), ?_⟩
  refine ⟨_, rfl, _, rfl, _, rfl, _, xs.length, rfl, .inl ⟨_, SqL.of hc, rfl⟩, ?_⟩
  refine ⟨l, ls, _, N, rfl, hS, hN, by omega, by omega, fun H' r r0 r1 S' B' => ?_⟩
  have hr2 : r.toNat < xs.length := by omega
  refine ⟨_, _, _, xs[r.toNat], rfl, rfl, SqL.of (B' c _ n1 n2 hc), ?_, hq H' _ (List.getElem_mem _) S' B'⟩
  have e : ((r.toNat : Nat) : Int) = r := by omega
  have z := atI_nat (xs := xs) (j := r.toNat) (v := xs[r.toNat]) (by simp)
  rw [e] at z
  exact z
end
end L2.TB
namespace L2.TB
open PySem PySem.Spec PyProof.Rows
theorem same_new {H : Hp} {p : Addr} {o : HO} (n : H p = none) : Same H (upd H p o) := fun c u z => by rw [upd_ne (ne_of_none z n)]; exact z
theorem Strm.same {H H' : Hp} {l ls : Addr} {N : Int} (h : Strm H l ls N) (s : Same H H') : Strm H' l ls N := by
  obtain ⟨cs, g, k, m, S⟩ := h
  exact ⟨cs, g, k, m, s _ _ S.o, s _ _ S.c, S.ne, S.g0, S.k0, S.k1, S.m0, S.m1, S.sz⟩
theorem Strm.some {H : Hp} {l ls : Addr} {N : Int} (h : Strm H l ls N) : (∃ o, H l = some o) ∧ ∃ o, H ls = some o := by
  obtain ⟨cs, g, k, m, S⟩ := h
  exact ⟨⟨_, S.o⟩, ⟨_, S.c⟩⟩
/-- what was not there is not the spring -/
theorem Strm.apart {H H' : Hp} {l ls p : Addr} {N : Int} (h : Strm H l ls N) (s : Same H H') (n : H' p = none) : p ≠ l ∧ p ≠ ls := by
  obtain ⟨⟨o, e⟩, ⟨o', e'⟩⟩ := h.some
  exact ⟨(fun z => by rw [z, s _ _ e] at n; cases n), (fun z => by rw [z, s _ _ e'] at n; cases n)⟩
def spPickS : Sp := fun vs H Q _ => ∃ (l ls : Addr) (x : Str) (N : Int), vs = [.ref l, .str x] ∧ Strm H l ls N ∧ N ≤ 1000000 ∧ 0 < x.cps.size ∧ x.cps.size < 1000 ∧
  ∀ H' c, c ∈ x.cps.toList → Strm H' l ls (N + 1) → But l ls H H' → Q (.str ⟨#[c]⟩) H'
theorem pop_perm : ∀ (l : List V) (k : Nat) (y : V), l[k]? = some y → (y :: l.eraseIdx k).Perm l
  | [], k, y, h => by simp at h
  | a :: l, 0, y, h => by
    obtain rfl : a = y := by simpa using h
    exact List.Perm.refl _
  | a :: l, k + 1, y, h => by
    have z := pop_perm l k y (by simpa using h)
    exact (List.Perm.swap a y _).trans (z.cons a)
section
variable {P : Program} {w : World} {K : PySem.W.Frag} {mg : Str → Option Value} {base : Heap} {f fD fP fM : Addr} {fd fdD fdP fdM : FuncData}
theorem ok_pickS (F : Fun K "_law_pick" "_law_pick" sPick f fd) (FD : Fun K "_law_draw" "_law_draw" sDraw fD fdD)
    (gD : mg "_law_draw" = some (.ref fD)) (gI : mg "int" = none) (gN : mg "len" = none) : FnOk P w K mg base CX0 2 f fd ["stream", "some"] spPickS := by
  have G : FnOk P w K mg base CX0 1 fD fdD ["stream", "many"] spDraw := ok_draw FD gI
  have b := FD.binds (ps := ["stream", "many"]) fun _ _ _ _ _ _ us hl => match us, hl with | [_, _], _ => rfl
  refine F.ok scPick (fun vs H Q E h => by obtain ⟨l, ls, x, N, e, _⟩ := h; rw [e]; rfl) fun cdv A outer s H vs Q E hr hsp => ?_
  obtain ⟨l, ls, x, N, rfl, hS, hN, h0, h1, hq⟩ := hsp
  refine ⟨_, pss_one (ps_ret (pe_ix ix_str (pv 1) (pe_call G hr rfl gD FD.kp b .nil pass0 (pa_cons (pv 0) (pa_cons (pe_callB call_len rfl gN boot_len (pa_cons (pv 1) pa_nil)) pa_nil))) (fun _ _ => rfl))), ?_⟩
  have hz : x.length ≤ sizeLine := by rw [sizeLine_eq]; show x.cps.size ≤ _; omega
  have hl : ((x.length : Nat) : Int) = (x.cps.size : Int) := rfl
  refine ⟨_, rfl, _, rfl, _, rfl, _, x.length, rfl, ⟨hz, rfl⟩, ?_⟩
  refine ⟨l, ls, _, N, rfl, hS, hN, by omega, by omega, fun H' r r0 r1 S' B' => ?_⟩
  have hr2 : r.toNat < x.cps.toList.length := by rw [Array.length_toList]; omega
  refine ⟨x, r, x.cps.toList[r.toNat], rfl, rfl, hz, ?_, hq H' _ (List.getElem_mem _) S' B'⟩
  have e : ((r.toNat : Nat) : Int) = r := by omega
  have z := atI_nat (xs := x.cps.toList) (j := r.toNat) (v := x.cps.toList[r.toNat]) (by simp)
  rw [e] at z
  exact z
end
end L2.TB
namespace L2.TB
open PySem PySem.Spec PyProof.Rows
theorem Strm.mono {H : Hp} {l ls : Addr} {N M : Int} (h : Strm H l ls N) (le : N ≤ M) : Strm H l ls M := by
  obtain ⟨cs, g, k, m, S⟩ := h
  exact ⟨cs, g, k, m, S.o, S.c, S.ne, S.g0, S.k0, by have := S.k1; omega, S.m0, S.m1, S.sz⟩
theorem cut_to (xs : List V) (r : Int) (h0 : 0 ≤ r) (h1 : r < xs.length + 1) : cutV xs none (some r) = xs.take r.toNat := by
  have e1 : HT.sIx xs.length 0 none = 0 := rfl
  have e2 : HT.sIx xs.length xs.length (some r) = r.toNat := by
    unfold HT.sIx
    simp only []
    rw [if_neg (show ¬ r < 0 by omega)]
    omega
  unfold cutV
  rw [e1, e2]; simp
end L2.TB
namespace L2.TB
open PySem PySem.Spec PyProof.Rows
def signsL : List Nat := (Str.ofString "abcdefghijklmnopqrstuvwxyz0123456789.").cps.toList
/-- a name that is_name lets pass -/
def NmOk (x : Str) : Prop := 1 ≤ x.cps.toList.length ∧ x.cps.toList.length ≤ 40 ∧ ∀ c ∈ x.cps.toList, c ∈ signsL
def wordL : List Nat := (Str.ofString "abcxyz019").cps.toList
def letL : List Nat := (Str.ofString "abcdefghijklmnopqrstuvwxyz").cps.toList
theorem word_sub : ∀ c ∈ wordL, c ∈ signsL := by decide +kernel
theorem let_sub : ∀ c ∈ letL, c ∈ signsL := by decide +kernel
theorem join_flat : ∀ cs : List Nat, TL.joinL [] (cs.map fun c => [c]) = cs
  | [] => rfl
  | [c] => rfl
  | c :: d :: r => by
    show [c] ++ ([] ++ TL.joinL [] ((d :: r).map fun c => [c])) = _
    rw [join_flat (d :: r)]; rfl
theorem join_cps (cs : List Nat) : (Txt.join (Str.ofString "") (cs.map fun c => (⟨#[c]⟩ : Str))).cps.toList = cs := by
  rw [TL.join_eq]
  have e := TL.tl_join (Str.ofString "") (cs.map fun c => (⟨#[c]⟩ : Str))
  have e2 : (cs.map fun c => (⟨#[c]⟩ : Str)).map TL.tl = cs.map fun c => [c] := by rw [List.map_map]; rfl
  have e3 : TL.tl (Str.ofString "") = [] := by decide +kernel
  rw [e2, e3, join_flat] at e
  exact e
/-- the spare names: a letter and q -/
def spare (c : Nat) : Str := (⟨#[c]⟩ : Str) ++ Str.ofString "q"
theorem spare_ok : ∀ c ∈ letL, NmOk (spare c) := by
  unfold NmOk
  decide +kernel
theorem spare_nd : (letL.map spare).Nodup := by decide +kernel
theorem str_inj (a b : Str) : eqV (.str a) (.str b) = decide (a = b) := by
  show (a == b) = _
  by_cases h : a = b
  · subst h; simp
  · rw [decide_eq_false h]; simpa using h
theorem inV_strs (x : Str) : ∀ xs : List Str, inV (.str x) (xs.map V.str) = decide (x ∈ xs)
  | [] => by simp [inV]
  | a :: xs => by
    have e := inV_strs x xs
    unfold inV at e ⊢
    rw [List.map_cons, List.any_cons, e, str_inj]
    by_cases h : a = x
    · subst h; simp
    · by_cases h2 : x ∈ xs
      · simp [h2]
      · simp [h, h2, Ne.symm h]
theorem flat_strs (xs : List Str) : (xs.map V.str).all flatV = true := by
  rw [List.all_map]; exact List.all_eq_true.mpr fun _ _ => rfl
/-- some spare name is not among the found ones -/
theorem spare_left (w : Str) (found : List Str) (h : found.length < 26) : ((w :: letL.map spare).filter fun x => decide (x ∉ found)) ≠ [] := by
  intro e
  have sub : ∀ x ∈ letL.map spare, x ∈ found := fun x hx => by
    by_cases h2 : x ∈ found
    · exact h2
    · have z : x ∈ (w :: letL.map spare).filter fun x => decide (x ∉ found) := List.mem_filter.mpr ⟨List.mem_cons_of_mem _ hx, by simp [h2]⟩
      rw [e] at z; cases z
  have le := List.Nodup.length_le_of_subset spare_nd (fun x hx => sub x hx)
  have e26 : (letL.map spare).length = 26 := by decide +kernel
  omega
def spNames : Sp := fun vs H Q _ => ∃ (l ls : Addr) (many N : Int), vs = [.ref l, .int many] ∧ Strm H l ls N ∧ N ≤ 900000 ∧ 0 ≤ many ∧ many ≤ 20 ∧
  ∀ H' q (ns : List Str), (ns.length : Int) = many → ns.Nodup → (∀ x ∈ ns, NmOk x) → H q = none → H' q = some (.lst (ns.map V.str)) → Strm H' l ls (N + 5 * many) → But l ls H H' → Q (.ref q) H'
abbrev NN : List Str := ["stream", "many", "found", "k", "word", "spares", "sign", "letter", "one"]
theorem scNames : FnScope NN ["stream", "many"] (defScope sNames) := ⟨rfl, rfl, rfl, by decide +kernel, rfl, by decide +kernel, by decide +kernel⟩
section
variable {P : Program} {w : World} {K : PySem.W.Frag} {mg : Str → Option Value} {base : Heap} {f fD fP fM : Addr} {fd fdD fdP fdM : FuncData}
theorem ok_names (F : Fun K "_law_t_names" "_law_t_names" sNames f fd) (FP : Fun K "_law_pick" "_law_pick" sPick fP fdP) (gP : mg "_law_pick" = some (.ref fP)) (FD : Fun K "_law_draw" "_law_draw" sDraw fD fdD)
    (gD : mg "_law_draw" = some (.ref fD)) (gI : mg "int" = none) (gN : mg "len" = none) (gR : mg "range" = none) : FnOk P w K mg base CX0 3 f fd ["stream", "many"] spNames := by
  have G : FnOk P w K mg base CX0 1 fD fdD ["stream", "many"] spDraw := ok_draw FD gI
  have b := FD.binds (ps := ["stream", "many"]) fun _ _ _ _ _ _ us hl => match us, hl with | [_, _], _ => rfl
  have GP : FnOk P w K mg base CX0 2 fP fdP ["stream", "some"] spPickS := ok_pickS FP FD gD gI gN
  have bP := FP.binds (ps := ["stream", "some"]) fun _ _ _ _ _ _ us hl => match us, hl with | [_, _], _ => rfl
  refine F.ok scNames (fun vs H Q E h => by obtain ⟨l, ls, many, N, e, _⟩ := h; rw [e]; rfl) fun cdv A outer s H vs Q E hr hsp => ?_
  obtain ⟨l, ls, many, N, rfl, hS, hN, h0, h1, hq⟩ := hsp
  have nd := scNames.nd
  refine ⟨_, pss_cons (ps_set (i := 2) nd rfl (Or.inr rfl) (pe_lst pa_nil))
    (pss_cons (ps_for PassesOwn.never rfl (pi_range1 rfl gR (pa_cons (pv 1) pa_nil)) (pg_name (i := 3) nd rfl (Or.inl rfl))
      (pss_cons (ps_set (i := 4) nd rfl (Or.inl rfl) (pe_join pe_str (pe_lc (own := [("sign", 6)]) (tt := tYes) rfl nd (pi_range1 rfl gR (pa_cons (pe_op op_add pe_int (pe_call G (hr.mono (by decide)) rfl gD FD.kp b .nil pass0 (pa_cons (pv 0) (pa_cons pe_int pa_nil)))) pa_nil))
          (blkOk_by (N := NN) (sc := defScope sNames) (by decide +kernel)) (fun _ _ _ _ _ => pg_name (i := 6) nd rfl (Or.inl rfl)) (fun _ _ _ _ _ => pts_nil) (fun _ _ _ _ _ => pe_call GP hr rfl gP FP.kp bP .nil pass0 (pa_cons (pv 0) (pa_cons pe_str pa_nil))))))
      (pss_cons (ps_set (i := 5) nd rfl (Or.inl rfl) (pe_op op_cat (pe_lst (pa_cons (pv 4) pa_nil)) (pe_lc (own := [("letter", 7)]) (tt := tYes) rfl nd (pi_str pe_str) (blkOk_by (N := NN) (sc := defScope sNames) (by decide +kernel))
          (fun _ _ _ _ _ => pg_name (i := 7) nd rfl (Or.inl rfl)) (fun _ _ _ _ _ => pts_nil) (fun _ _ _ _ _ => pe_op op_add_str (pv 7) pe_str))))
      (pss_one (ps_expr (pe_bm PySem.F.plainAttrs_list PySem.F.slot_list_append PySem.F.type_list_append mt_append (pv 2) (pa_cons (pe_ix ix_list (pe_lc (own := [("one", 8)]) (tt := tTest (tOp (rIn K true) (tVar 8) (tVar 2))) rfl nd (pi_list (pv 5)) (blkOk_by (N := NN) (sc := defScope sNames) (by decide +kernel))
          (fun _ _ _ _ _ => pg_name (i := 8) nd rfl (Or.inl rfl)) (fun _ _ _ _ _ => pts_one (pt_cmpR op_notIn_seq (pv 8) (pv 2) rfl)) (fun _ _ _ _ _ => pv 8)) pe_int (fun _ _ => rfl)) pa_nil)))))))
    (pss_one (ps_ret (pv 2)))), ?_⟩
  refine ⟨Nat.zero_le _, fun q nq => ?_⟩
  have aq := hS.apart (Same.refl _) nq
  refine ⟨_, rfl, many, rfl, by omega, by omega, for_range (n := many.toNat) (fun i σ H' => ∃ ns : List Str, H' q = some (.lst (ns.map V.str)) ∧ ns.length = i ∧ ns.Nodup ∧ (∀ x ∈ ns, NmOk x) ∧ Strm H' l ls (N + 5 * i) ∧ But l ls H H' ∧
    ∃ s3 s4 s5 s6 s7 s8, σ = [some (.ref l), some (.int many), some (.ref q), s3, s4, s5, s6, s7, s8])
    ⟨[], upd_same, rfl, .nil, fun x hx => by simp at hx, by simpa using hS.same (same_new nq), But.of (same_new nq), _, _, _, _, _, _, rfl⟩ ?_ ?_⟩
  · rintro i σ H1 hi ⟨ns, oq, ln, nn, nok, S1, B1, s3, s4, s5, s6, s7, s8, rfl⟩
    have hi2 : (i : Int) < 20 := by omega
    -- the word
    refine ⟨⟨_, rfl⟩, _, rfl, l, ls, 3, _, rfl, S1, by omega, by decide, by decide, fun H2 r r0 r1 S2 B2 => ?_⟩
    refine ⟨_, _, rfl, rfl, 1 + r, rfl, by omega, by omega, fun D nD => ?_⟩
    have aD := S2.apart (Same.refl _) nD
    refine lc_range (n := (1 + r).toNat) (fun j H' => ∃ cs : List Nat, H' D = some (.lst (cs.map fun c => V.str ⟨#[c]⟩)) ∧ cs.length = j ∧ (∀ c ∈ cs, c ∈ wordL) ∧ Strm H' l ls (N + 5 * i + 1 + j) ∧ But l ls H2 H')
      ⟨[], upd_same, rfl, fun c hc => by simp at hc, by simpa using S2.same (same_new nD), But.of (same_new nD)⟩ ?_ ?_
    · rintro j H3 hj ⟨cs, oD, lc, cok, S3, B3⟩
      refine ⟨rfl, ?_⟩
      refine ⟨_, rfl, l, ls, _, _, rfl, S3, by omega, by decide +kernel, by decide +kernel, fun H4 c hc S4 B4 => ?_⟩
      have oD4 := B4 _ _ aD.1 aD.2 oD
      refine ⟨_, oD4, (by rw [sizeLine_eq, List.length_map]; omega), cs ++ [c], by rw [upd_same]; simp, by simp [lc], ?_, ?_, ?_⟩
      · intro d hd
        rcases List.mem_append.mp hd with h | h
        · exact cok d h
        · obtain rfl : d = c := by simpa using h
          exact hc
      · obtain ⟨cs', g, k, m, S⟩ := S4
        exact Strm.mono ⟨cs', g, k, m, by rw [upd_ne (Ne.symm aD.1)]; exact S.o, by rw [upd_ne (Ne.symm aD.2)]; exact S.c, S.ne, S.g0, S.k0, S.k1, S.m0, S.m1, S.sz⟩ (by omega)
      · intro b o h1 h2 e
        have nb : b ≠ D := ne_of_none e nD
        rw [upd_ne nb]
        exact B4 _ _ h1 h2 (B3 _ _ h1 h2 e)
    · rintro H3 ⟨cs, oD, lc, cok, S3, B3⟩
      have lc3 : 1 ≤ cs.length ∧ cs.length ≤ 3 := by omega
      have em : (cs.map fun c => V.str ⟨#[c]⟩) = (cs.map fun c => (⟨#[c]⟩ : Str)).map V.str := by rw [List.map_map]; rfl
      rw [em] at oD
      have sums : ∀ l : List Nat, ((l.map fun c => (⟨#[c]⟩ : Str)).map (·.length)).sum = l.length := fun l => by
        induction l with
        | nil => rfl
        | cons a l ih => rw [List.map_cons, List.map_cons, List.sum_cons, ih, List.length_cons]; show 1 + _ = _; omega
      refine ⟨_, D, _, rfl, rfl, .inl (SqL.of oD), ?_, ?_⟩
      · rw [sums, List.length_map]; show cs.length + cs.length * 0 ≤ _; omega
      have hw : (Txt.join (Str.ofString "") (cs.map fun c => (⟨#[c]⟩ : Str))).cps.toList = cs := join_cps cs
      generalize Txt.join (Str.ofString "") (cs.map fun c => (⟨#[c]⟩ : Str)) = wd at hw
      have wok : NmOk wd := by
        unfold NmOk
        rw [hw]
        exact ⟨lc3.1, by omega, fun c hc => word_sub c (cok c hc)⟩
      have B13 := B2.trans B3
      have oq3 := B13 _ _ aq.1 aq.2 oq
      -- the spare names
      refine ⟨_, rfl, (by rw [sizeLine_eq]; show 1 ≤ _; omega), fun a1 n1 => ?_⟩
      have k1 := same_new (o := .lst [.str wd]) n1
      have e26 : (Str.ofString "abcdefghijklmnopqrstuvwxyz").cps.size = 26 := by decide +kernel
      have l26 : letL.length = 26 := by decide +kernel
      refine ⟨_, rfl, fun D2 nD2 => ⟨fun j m H' => m = 26 - j ∧ j ≤ 26 ∧ H' D2 = some (.lst ((letL.take j).map fun c => V.str (spare c))) ∧ Same (upd H3 a1 (.lst [.str wd])) H',
        ⟨26, rfl, by decide, upd_same, same_new nD2⟩, ?_⟩⟩
      rintro j m H4 ⟨rfl, hj, oD2, sm4⟩
      by_cases lt : j < 26
      · refine .inr ⟨(by show j < _; rw [e26]; exact lt), fun H' => H' D2 = some (.lst ((letL.take (j + 1)).map fun c => V.str (spare c))) ∧ Same (upd H3 a1 (.lst [.str wd])) H', fun H' h => ⟨26 - (j + 1), by omega, rfl, lt, h⟩, ?_⟩
        rintro v H' ⟨rfl, c, hc, rfl⟩
        have hc2 : letL[j]? = some c := by
          unfold letL
          rw [Array.getElem?_toList]; exact hc
        refine ⟨rfl, ?_⟩
        refine ⟨_, rfl, _, _, rfl, rfl, (by rw [sizeLine_eq]; show 1 + 1 ≤ _; omega), _, oD2, (by rw [sizeLine_eq, List.length_map, List.length_take]; omega), ?_, fun b o e => by rw [upd_ne (ne_of_none e nD2)]; exact sm4 b o e⟩
        rw [upd_same, List.take_succ, hc2]
        simp [spare]
      · have j26 : j = 26 := by omega
        refine .inl ⟨(by show _ ≤ j; rw [e26]; omega), ?_⟩
        have et : letL.take j = letL := List.take_of_length_le (by omega)
        rw [et] at oD2
        refine ⟨a1, D2, _, _, rfl, rfl, sm4 _ _ upd_same, oD2, (by rw [sizeLine_eq, List.length_map, l26]; show 1 + 26 ≤ _; omega), fun p np => ?_⟩
        have esp : [V.str wd] ++ letL.map (fun c => V.str (spare c)) = (wd :: letL.map spare).map V.str := by simp [List.map_map]
        rw [esp]
        have spl : (wd :: letL.map spare).length = 27 := by rw [List.length_cons, List.length_map, l26]
        have spok : ∀ x ∈ (wd :: letL.map spare), NmOk x := fun x hx => by
          rcases List.mem_cons.mp hx with h | h
          · rw [h]; exact wok
          · obtain ⟨c, hc, rfl⟩ := List.mem_map.mp h
            exact spare_ok c hc
        have hne := spare_left wd ns (by omega)
        generalize wd :: letL.map spare = sp at spl spok hne
        have k5 := same_new (o := .lst (sp.map V.str)) np
        have k35 := (k1.trans sm4).trans k5
        refine ⟨_, rfl, .inl ⟨rfl, _, SqL.of (k35 _ _ oq3)⟩, _, rfl, p, rfl, ⟨_, SqL.of upd_same⟩, fun D3 nD3 => ?_⟩
        refine lc_list (xs := sp.map V.str) (fun j H' => H' D3 = some (.lst (((sp.take j).filter fun x => decide (x ∉ ns)).map V.str)) ∧ Same (upd H4 p (.lst (sp.map V.str))) H')
          ⟨by rw [upd_same]; rfl, same_new nD3⟩ (fun j H' _ h => SqL.of (h.2 _ _ upd_same)) ?_ ?_
        · rintro j v H6 ev ⟨oD3, sm6⟩
          rw [List.getElem?_map] at ev
          obtain ⟨x, ex, rfl⟩ := Option.map_eq_some_iff.mp ev
          have et2 : sp.take (j + 1) = sp.take j ++ [x] := by rw [List.take_succ, ex]; rfl
          refine ⟨rfl, ?_⟩
          refine ⟨_, rfl, _, rfl, q, ns.map V.str, rfl, .inl (SqL.of (sm6 _ _ (k35 _ _ oq3))), rfl, flat_strs ns, _, rfl, ?_⟩
          rw [inV_strs]
          by_cases hx : x ∈ ns
          · rw [decide_eq_true hx]
            refine iteF ?_
            refine ⟨?_, sm6⟩
            rw [et2, List.filter_append]
            simpa [hx] using oD3
          · rw [decide_eq_false hx]
            refine iteT ?_
            refine ⟨_, rfl, _, oD3, ?_, ?_, fun b o e => by rw [upd_ne (ne_of_none e nD3)]; exact sm6 b o e⟩
            · have z := List.length_filter_le (fun x => decide (x ∉ ns)) (sp.take j)
              rw [List.length_take] at z
              rw [sizeLine_eq, List.length_map]; omega
            · rw [upd_same, et2, List.filter_append]
              simp [hx]
        · rintro H6 ⟨oD3, sm6⟩
          have ef : sp.take (sp.map V.str).length = sp := List.take_of_length_le (by rw [List.length_map]; omega)
          rw [ef] at oD3
          have oq6 := sm6 _ _ (k35 _ _ oq3)
          cases efl : sp.filter fun x => decide (x ∉ ns) with
          | nil => exact absurd efl hne
          | cons y rest =>
            rw [efl] at oD3
            have hy : y ∈ sp.filter fun x => decide (x ∉ ns) := by rw [efl]; exact List.mem_cons_self
            obtain ⟨hy1, hy2⟩ := List.mem_filter.mp hy
            have hy3 : y ∉ ns := by simpa using hy2
            refine ⟨D3, _, 0, .str y, rfl, rfl, SqL.of oD3, atI_nat (j := 0) (by simp), ?_⟩
            refine ⟨q, ns.map V.str, .str y, rfl, rfl, oq6, (by rw [sizeLine_eq, List.length_map]; omega), ns ++ [y], by rw [upd_same]; simp, by simp [ln], ?_, ?_, ?_, ?_, _, _, _, _, _, _, rfl⟩
            · rw [List.nodup_append]
              exact ⟨nn, by simp, fun a ha b hb => by
                obtain rfl : b = y := by simpa using hb
                exact fun z => hy3 (z ▸ ha)⟩
            · intro x hx
              rcases List.mem_append.mp hx with h | h
              · exact nok x h
              · obtain rfl : x = y := by simpa using h
                exact spok _ hy1
            · obtain ⟨cs', g, k, m, S⟩ := (S3.same k35).same sm6
              exact Strm.mono ⟨cs', g, k, m, by rw [upd_ne (Ne.symm aq.1)]; exact S.o, by rw [upd_ne (Ne.symm aq.2)]; exact S.c, S.ne, S.g0, S.k0, S.k1, S.m0, S.m1, S.sz⟩ (by omega)
            · intro b o h1 h2 e
              have nb : b ≠ q := ne_of_none e nq
              rw [upd_ne nb]
              exact sm6 _ _ (k35 _ _ (B13 _ _ h1 h2 (B1 _ _ h1 h2 e)))
  · rintro σ H1 ⟨ns, oq, ln, nn, nok, S1, B1, s3, s4, s5, s6, s7, s8, rfl⟩
    have em : ((many.toNat : Nat) : Int) = many := by omega
    rw [em] at S1
    exact ⟨_, rfl, hq H1 q ns (by omega) nn nok nq oq S1 B1⟩
end
end L2.TB
namespace L2.TB
open PySem PySem.Spec PyProof.Rows
theorem paired_snoc {α β : Type} {F : α → β → Prop} {x : α} {y : β} (h : F x y) : ∀ {xs : List α} {ys : List β}, Paired F xs ys → Paired F (xs ++ [x]) (ys ++ [y])
  | _, _, .nil => .cons h .nil
  | _, _, .cons r t => .cons r (paired_snoc h t)
theorem paired_map {α β γ : Type} {F : α → γ → Prop} {g : β → γ} : ∀ {xs : List α} {ys : List β}, Paired (fun x y => F x (g y)) xs ys → Paired F xs (ys.map g)
  | _, _, .nil => .nil
  | _, _, .cons r t => .cons r (paired_map t)
/-- the pairs of a row: names and ints -/
def dk (ns : List Str) (vs : List Int) : List (Key × V) := (ns.zip vs).map fun p => (Sum.inr p.1, V.int p.2)
theorem merge_new : ∀ (more acc : List (Key × V)), ((acc ++ more).map (·.1)).Nodup → mergeK acc more = acc ++ more
  | [], acc, _ => by simp [mergeK]
  | p :: more, acc, h => by
    have hn : valV acc p.1 = none := by
      cases e : valV acc p.1 with
      | none => rfl
      | some v =>
        exfalso
        have z : (valV acc p.1).isSome = true := by rw [e]; rfl
        rw [← valV_any, List.any_eq_true] at z
        obtain ⟨q, hq, hq2⟩ := z
        have hq3 : q.1 = p.1 := of_decide_eq_true hq2
        rw [List.map_append, List.nodup_append] at h
        exact h.2.2 q.1 (List.mem_map_of_mem hq) p.1 (List.mem_map_of_mem List.mem_cons_self) hq3
    show mergeK (putK acc p.1 p.2) more = _
    rw [putK_new p.2 hn, merge_new more _ (by rw [List.append_assoc]; exact h), List.append_assoc]
    rfl
theorem merge_nd {kvs : List (Key × V)} (h : (kvs.map (·.1)).Nodup) : mergeK [] kvs = kvs := by
  rw [merge_new kvs [] (by simpa using h), List.nil_append]
theorem dk_keys {ns : List Str} {vs : List Int} (h : ns.length = vs.length) : (dk ns vs).map (·.1) = ns.map Sum.inr := by
  unfold dk
  rw [List.map_map]
  have e : ((fun x => x.1) ∘ fun p : Str × Int => ((Sum.inr p.1 : Key), V.int p.2)) = (fun p : Str × Int => (Sum.inr p.1 : Key)) := rfl
  rw [e]
  have e2 : (ns.zip vs).map (fun p : Str × Int => (Sum.inr p.1 : Key)) = ((ns.zip vs).map Prod.fst).map Sum.inr := by rw [List.map_map]; rfl
  rw [e2, List.map_fst_zip (by omega)]
theorem dk_nd {ns : List Str} {vs : List Int} (h : ns.length = vs.length) (nd : ns.Nodup) : ((dk ns vs).map (·.1)).Nodup := by
  rw [dk_keys h]
  exact List.Pairwise.map Sum.inr (fun a b h e => h (Sum.inr.inj e)) nd
/-- rows as they are drawn: at as dicts with the names ns and the ints of tbl -/
def RowsAt (H : Hp) (l ls : Addr) (ns : List Str) : List Addr → List (List Int) → Prop :=
  Paired fun a vs => H a = some (.dK (dk ns vs)) ∧ vs.length = ns.length ∧ a ≠ l ∧ a ≠ ls
theorem RowsAt.but {H H' : Hp} {l ls : Addr} {ns : List Str} {as : List Addr} {tbl : List (List Int)} (r : RowsAt H l ls ns as tbl) (b : But l ls H H') : RowsAt H' l ls ns as tbl :=
  Paired.mapP r fun a vs h => ⟨b _ _ h.2.2.1 h.2.2.2 h.1, h.2⟩
def spRows : Sp := fun vs H Q _ => ∃ (l ls : Addr) (many rows values N : Int), vs = [.ref l, .int many, .int rows, .int values] ∧ Strm H l ls N ∧ N ≤ 500000 ∧ 0 < many ∧ many ≤ 10 ∧ 0 < rows ∧ rows ≤ 20 ∧ 0 < values ∧ values ≤ 100 ∧
  ∀ H' q as ns tbl, ((ns : List Str).length : Int) ≤ many → ns ≠ [] → ns.Nodup → (∀ x ∈ ns, NmOk x) → (tbl : List (List Int)).length ≤ 20 → tbl ≠ [] → H q = none → q ≠ l → q ≠ ls → H' q = some (.lst (as.map V.ref)) → RowsAt H' l ls ns as tbl →
    Strm H' l ls (N + 1000) → But l ls H H' → Q (.ref q) H'
abbrev NR : List Str := ["stream", "many", "rows", "values", "names", "found", "k", "name"]
theorem scRows : FnScope NR ["stream", "many", "rows", "values"] (defScope sRows) := ⟨rfl, rfl, rfl, by decide +kernel, rfl, by decide +kernel, by decide +kernel⟩
section
variable {P : Program} {w : World} {K : PySem.W.Frag} {mg : Str → Option Value} {base : Heap} {f fD fP fN : Addr} {fd fdD fdP fdN : FuncData}
theorem ok_rows (F : Fun K "_law_t_rows" "_law_t_rows" sRows f fd) (FN : Fun K "_law_t_names" "_law_t_names" sNames fN fdN) (gNm : mg "_law_t_names" = some (.ref fN)) (FP : Fun K "_law_pick" "_law_pick" sPick fP fdP) (gP : mg "_law_pick" = some (.ref fP)) (FD : Fun K "_law_draw" "_law_draw" sDraw fD fdD)
    (gD : mg "_law_draw" = some (.ref fD)) (gI : mg "int" = none) (gN : mg "len" = none) (gR : mg "range" = none) (gDi : mg "dict" = none) : FnOk P w K mg base CX0 4 f fd ["stream", "many", "rows", "values"] spRows := by
  have G : FnOk P w K mg base CX0 1 fD fdD ["stream", "many"] spDraw := ok_draw FD gI
  have b := FD.binds (ps := ["stream", "many"]) fun _ _ _ _ _ _ us hl => match us, hl with | [_, _], _ => rfl
  have GN : FnOk P w K mg base CX0 3 fN fdN ["stream", "many"] spNames := ok_names FN FP gP FD gD gI gN gR
  have bN := FN.binds (ps := ["stream", "many"]) fun _ _ _ _ _ _ us hl => match us, hl with | [_, _], _ => rfl
  refine F.ok scRows (fun vs H Q E h => by obtain ⟨l, ls, a, b, c, N, e, _⟩ := h; rw [e]; rfl) fun cdv A outer s H vs Q E hr hsp => ?_
  obtain ⟨l, ls, many, rws, vals, N, rfl, hS, hN, m0, m1, w0, w1, v0, v1, hq⟩ := hsp
  have nd := scRows.nd
  refine ⟨_, pss_cons (ps_par (i := 4) (j := 5) rfl nd rfl rfl (by decide) rfl rfl (pa_cons (pe_call GN hr rfl gNm FN.kp bN .nil pass0 (pa_cons (pv 0) (pa_cons (pe_op op_add pe_int (pe_call G (hr.mono (by decide)) rfl gD FD.kp b .nil pass0 (pa_cons (pv 0) (pa_cons (pv 1) pa_nil)))) pa_nil))) (pa_cons (pe_lst pa_nil) pa_nil)) (by rfl))
    (pss_cons (ps_for PassesOwn.never rfl (pi_range1 rfl gR (pa_cons (pe_op op_add pe_int (pe_call G (hr.mono (by decide)) rfl gD FD.kp b .nil pass0 (pa_cons (pv 0) (pa_cons (pv 2) pa_nil)))) pa_nil)) (pg_name (i := 6) nd rfl (Or.inl rfl))
      (pss_one (ps_expr (pe_bm PySem.F.plainAttrs_list PySem.F.slot_list_append PySem.F.type_list_append mt_append (pv 5) (pa_cons (pe_callTy (call_dictP rfl) rfl gDi (by decide +kernel) (pa_cons (pe_lc (own := [("name", 7)]) (tt := tYes) rfl nd (pi_list (pv 4)) (blkOk_by (N := NR) (sc := defScope sRows) (by decide +kernel))
        (fun _ _ _ _ _ => pg_name (i := 7) nd rfl (Or.inl rfl)) (fun _ _ _ _ _ => pts_nil) (fun _ _ _ _ _ => pe_tup (pa_cons (pv 7) (pa_cons (pe_op op_sub (pe_call G (hr.mono (by decide)) rfl gD FD.kp b .nil pass0 (pa_cons (pv 0) (pa_cons (pv 3) pa_nil))) pe_int) pa_nil)))) pa_nil)) pa_nil)))))
    (pss_one (ps_ret (pv 5)))), ?_⟩
  refine ⟨_, rfl, _, rfl, _, rfl, l, ls, many, N, rfl, hS, by omega, by omega, by omega, fun H1 r r0 r1 S1 B1 => ?_⟩
  refine ⟨_, _, rfl, rfl, l, ls, 1 + r, N + 1, rfl, S1, by omega, by omega, by omega, fun H2 c ns lns nds oks nc oc S2 B2 => ?_⟩
  have ac := S1.apart (Same.refl _) nc
  have nl : 1 ≤ ns.length ∧ ns.length ≤ 10 := by omega
  refine ⟨Nat.zero_le _, fun q nq => ?_⟩
  have aq := S2.apart (Same.refl _) nq
  have S2' : Strm H2 l ls (N + 60) := S2.mono (by omega)
  have B12 := B1.trans B2
  have cq : c ≠ q := fun z => by rw [z, nq] at oc; cases oc
  refine ⟨_, _, rfl, ?_⟩
  refine ⟨_, rfl, _, rfl, l, ls, rws, _, rfl, S2'.same (same_new nq), by omega, w0, by omega, fun H3 r' r0' r1' S3 B3 => ?_⟩
  have oc3 := B3 _ _ ac.1 ac.2 (same_new nq _ _ oc)
  have oq3 := B3 _ _ aq.1 aq.2 (upd_same (H := H2) (a := q) (o := .lst []))
  have B03 : But l ls H H3 := (B12.trans (But.of (same_new nq))).trans B3
  refine ⟨_, _, rfl, rfl, 1 + r', rfl, by omega, by omega, for_range (n := (1 + r').toNat) (fun i σ H' => (∃ as tbl, H' q = some (.lst ((as : List Addr).map V.ref)) ∧ RowsAt H' l ls ns as tbl ∧ tbl.length = i) ∧ H' c = some (.lst (ns.map V.str)) ∧ Strm H' l ls (N + 70 + 12 * i) ∧ But l ls H H' ∧
    ∃ s6 s7, σ = [some (.ref l), some (.int many), some (.int rws), some (.int vals), some (.ref c), some (.ref q), s6, s7]) ⟨⟨[], [], oq3, .nil, rfl⟩, oc3, S3.mono (by omega), B03, _, _, rfl⟩ ?_ ?_⟩
  · rintro i σ H4 hi ⟨⟨as, tbl, oq4, R4, lt4⟩, oc4, S4, B4, s6, s7, rfl⟩
    have hi2 : (i : Int) < 20 := by omega
    refine ⟨_, rfl, .inl ⟨rfl, _, SqL.of oq4⟩, _, rfl, c, rfl, ⟨_, SqL.of oc4⟩, fun D nD => ?_⟩
    have aD := S4.apart (Same.refl _) nD
    have Dq : D ≠ q := fun z => by rw [z, oq4] at nD; cases nD
    refine lc_list (xs := ns.map V.str) (fun j H' => ∃ ps vs, H' D = some (.lst ((ps : List Addr).map V.ref)) ∧ Paired (fun p (kv : Str × Int) => H' p = some (.tup [.str kv.1, .int kv.2]) ∧ p ≠ l ∧ p ≠ ls) ps ((ns.take j).zip vs) ∧ vs.length = j ∧
      Strm H' l ls (N + 70 + 12 * i + j) ∧ But l ls H4 H') ⟨[], [], upd_same, .nil, rfl, by simpa using S4.same (same_new nD), But.of (same_new nD)⟩ (fun j H' _ h => SqL.of (h.choose_spec.choose_spec.2.2.2.2 _ _ ac.1 ac.2 oc4)) ?_ ?_
    · rintro j v H5 ev ⟨ps, vs, oD, pr, lv, S5, B5⟩
      rw [List.getElem?_map] at ev
      obtain ⟨x, ex, rfl⟩ := Option.map_eq_some_iff.mp ev
      have hj : j < ns.length := (List.getElem?_eq_some_iff.mp ex).1
      have et : ns.take (j + 1) = ns.take j ++ [x] := by rw [List.take_succ, ex]; rfl
      refine ⟨rfl, ?_⟩
      refine ⟨_, rfl, _, rfl, _, rfl, l, ls, vals, _, rfl, S5, by omega, v0, by omega, fun H6 z z0 z1 S6 B6 => ?_⟩
      refine ⟨_, _, rfl, rfl, (by rw [sizeLine_eq]; show 2 ≤ _; omega), fun p np => ?_⟩
      have ap := S6.apart (Same.refl _) np
      have k6 := same_new (o := .tup [.str x, .int (z - 1)]) np
      have oD6 := B6 _ _ aD.1 aD.2 oD
      have pD : p ≠ D := fun y => by rw [y, oD6] at np; cases np
      have lps : ps.length = j := by
        have e := Paired.length pr
        rw [List.length_zip, List.length_take] at e
        omega
      refine ⟨_, k6 _ _ oD6, (by rw [sizeLine_eq, List.length_map]; omega), ps ++ [p], vs ++ [z - 1], by rw [upd_same]; simp, ?_, by simp [lv], ?_, ?_⟩
      · rw [et, List.zip_append (by rw [List.length_take]; omega)]
        refine paired_snoc ⟨by rw [upd_ne pD, upd_same], ap⟩ (Paired.mapP pr fun a kv h => ⟨?_, h.2⟩)
        have na : a ≠ D := fun y => by rw [y, oD] at h; cases h.1
        rw [upd_ne na]
        exact k6 _ _ (B6 _ _ h.2.1 h.2.2 h.1)
      · obtain ⟨cs', g, k, m, S⟩ := S6.same k6
        exact Strm.mono ⟨cs', g, k, m, by rw [upd_ne (Ne.symm aD.1)]; exact S.o, by rw [upd_ne (Ne.symm aD.2)]; exact S.c, S.ne, S.g0, S.k0, S.k1, S.m0, S.m1, S.sz⟩ (by omega)
      · intro b' o h1 h2 e
        have nb : b' ≠ D := ne_of_none e nD
        rw [upd_ne nb]
        exact k6 _ _ (B6 _ _ h1 h2 (B5 _ _ h1 h2 e))
    · rintro H5 ⟨ps, vs, oD, pr, lv, S5, B5⟩
      have etk : ns.take (ns.map V.str).length = ns := List.take_of_length_le (by rw [List.length_map]; omega)
      rw [etk] at pr
      have lv2 : vs.length = ns.length := by rw [lv, List.length_map]
      refine ⟨D, ps, dk ns vs, rfl, SqL.of oD, paired_map (Paired.mapP pr fun p kv h => SqT.of h.1), fun p np => ?_⟩
      rw [merge_nd (dk_nd lv2.symm nds)]
      have ap := S5.apart (Same.refl _) np
      have k5 := same_new (o := .dK (dk ns vs)) np
      have oq5 := k5 _ _ (B5 _ _ aq.1 aq.2 oq4)
      have las : as.length = i := by rw [Paired.length R4, lt4]
      have pq : p ≠ q := fun y => by rw [y, B5 _ _ aq.1 aq.2 oq4] at np; cases np
      have B6 : But l ls (upd H5 p (.dK (dk ns vs))) (upd (upd H5 p (.dK (dk ns vs))) q (.lst (as.map V.ref ++ [.ref p]))) → True := fun _ => trivial
      refine ⟨q, as.map V.ref, .ref p, rfl, rfl, oq5, (by rw [sizeLine_eq, List.length_map]; omega), ⟨as ++ [p], tbl ++ [vs], by rw [upd_same]; simp, ?_, by simp [lt4]⟩, ?_, ?_, ?_, _, _, rfl⟩
      · refine paired_snoc ⟨by rw [upd_ne pq, upd_same], lv2, ap⟩ (Paired.mapP R4 fun a vs' h => ⟨?_, h.2⟩)
        have na : a ≠ q := fun y => by rw [y, oq4] at h; cases h.1
        rw [upd_ne na]
        exact k5 _ _ (B5 _ _ h.2.2.1 h.2.2.2 h.1)
      · rw [upd_ne cq]
        exact k5 _ _ (B5 _ _ ac.1 ac.2 oc4)
      · obtain ⟨cs', g, k, m, S⟩ := S5.same k5
        have lx : (ns.map V.str).length ≤ 10 := by rw [List.length_map]; omega
        exact Strm.mono ⟨cs', g, k, m, by rw [upd_ne (Ne.symm aq.1)]; exact S.o, by rw [upd_ne (Ne.symm aq.2)]; exact S.c, S.ne, S.g0, S.k0, S.k1, S.m0, S.m1, S.sz⟩ (by omega)
      · intro b' o h1 h2 e
        have nb : b' ≠ q := fun y => by
          have z := B12 _ _ h1 h2 e
          rw [y, nq] at z; cases z
        rw [upd_ne nb]
        exact k5 _ _ (B5 _ _ h1 h2 (B4 _ _ h1 h2 e))
  · rintro σ H4 ⟨⟨as, tbl, oq4, R4, lt4⟩, oc4, S4, B4, s6, s7, rfl⟩
    have nq0 : H q = none := by
      cases e : H q with
      | none => rfl
      | some o => have z := B12 _ _ aq.1 aq.2 e; rw [nq] at z; cases z
    have nn : ns ≠ [] := fun z => by rw [z] at nl; simp at nl
    have tn : tbl ≠ [] := fun z => by rw [z] at lt4; simp at lt4; omega
    exact ⟨_, rfl, hq H4 q as ns tbl (by omega) nn nds oks (by omega) tn nq0 aq.1 aq.2 oq4 R4 (S4.mono (by omega)) B4⟩
end
end L2.TB
namespace L2.TB
open PySem
open PySem.Spec PyProof.Rows
/-! for i, x in enumerate(thing), thing a list or a tuple -/
abbrev tupIter (t : Addr) : Obj := { cls := .type "tuple_iterator", data := .fields #[.ref t, .int 0 0] }
abbrev enumRec (q : Addr) : Obj := { cls := .type "enumerate", data := .fields #[.none, .bool false, .ref q, rawInt 0, .none, .none] }
section
variable {P : Program} {w : World}
/-- what enumerate's maker does with a tuple -/
theorem made_enum (t : Addr) (ys : Array Value) : Meets (Builtin.«enumerate.__new__» ⟨[.type "enumerate", .ref t], []⟩) fun _ done z =>
    z.heap.IsTuple t ys ∧ done (.ok (.ret (.ref (z.heap.push (tupIter t)).objs.size))) { z with heap := (z.heap.push (tupIter t)).push (enumRec z.heap.objs.size) } :=
  .of_wp fun _ _ _ _ z hz => by
    obtain ⟨h0, gs, ds, tk, os⟩ := z
    obtain ⟨isT, fin⟩ := hz
    have sub := sub_enumerate
    have step : ∀ {A' : Around} {E' : Value → Shared → Prop} {Q' : Value → Shared → Prop} {P' : Program} {w' : World}, Q' (.ref h0.objs.size) ⟨h0.push (tupIter t), gs, ds, tk, os⟩ → wpAny (model P' w') A' (pyIter (.ref t)) Q' E' ⟨h0, gs, ds, tk, os⟩ :=
      fun more => wpAny_pyIter_tuple (s := ⟨h0, gs, ds, tk, os⟩) isT more
    wp_walk using step
    refine wpAny_stack_any (fun _ => wpAny_pure ?_)
    split
    · rename_i c _ _ _ _ _
      rcases (c == Value.type "enumerate") with _ | _ <;> (wp_walk using step; exact ⟨_, rfl, fin⟩)
    · wp_walk using step
      exact ⟨_, rfl, fin⟩
/-- the call -/
theorem enum_of_tuple {A : Around} {z : Shared} {E Q : Value → Shared → Prop} {t : Addr} {ys : Array Value} (isT : z.heap.IsTuple t ys)
    (more : IsEnum ((z.heap.push (tupIter t)).push (enumRec z.heap.objs.size)) (z.heap.objs.size + 1) z.heap.objs.size 0 .none →
      Q (.ref (z.heap.objs.size + 1)) { z with heap := (z.heap.push (tupIter t)).push (enumRec z.heap.objs.size) }) : wpAny (model P w) A (call (.type "enumerate") [.ref t]) Q E z := by
  refine callType_new F.called_enumerate (by decide) (F.typeCall_enumerate_1 _) (F.newCall_enumerate_1 _) (fun b => F.args_object_init_2 b _) F.entry_enumerate_new (made_enum t ys) ⟨isT, ?_⟩
  have size1 : (z.heap.push (tupIter t)).objs.size = z.heap.objs.size + 1 := Heap.size_push ..
  have rec1 := Heap.get?_push_size (z.heap.push (tupIter t)) (o := enumRec z.heap.objs.size) rfl
  rw [size1] at rec1
  show _ ∧ _
  rw [size1]
  exact ⟨⟨_, rec1, rfl⟩, more rec1⟩
end
/-- the items of the tuple at t, each in a new pair with its number -/
def IteT (K : PySem.W.Frag) (t : Addr) : It where
  go i H := ∃ (ys : List V) (y : V), SqT K H t ys ∧ ys[i]? = some y
  yld i H v H' := ∃ T y, v = .ref T ∧ H T = none ∧ H' = upd H T (.tup [.int (i : Nat), y]) ∧ ∀ ys, SqT K H t ys → ys[i]? = some y
  stop i H := ∃ ys : List V, SqT K H t ys ∧ ys.length ≤ i
/-- three records of three classes stand at three places -/
theorem three {h : Heap} {t q r : Addr} {ys : Array Value} {i : Nat} {c : Int} {old : Value} (isT : h.IsTuple t ys) (isQ : h.IsTupleIter q t i) (isR : IsEnum h r q c old) : t ≠ q ∧ r ≠ t := by
  obtain ⟨ot, gt, ct, _⟩ := isT
  obtain ⟨oq, gq, cq, _⟩ := isQ
  have ct : ot.cls = Value.type "tuple" := ct
  have cq : oq.cls = Value.type "tuple_iterator" := cq
  constructor
  · rintro rfl
    rw [gt] at gq
    injection gq with same
    rw [← same, ct] at cq
    exact absurd cq (by decide)
  · rintro rfl
    have gr := isR
    unfold IsEnum at gr
    rw [gt] at gr
    injection gr with same
    rw [same] at ct
    exact absurd (show Value.type "enumerate" = Value.type "tuple" from ct) (by decide)
theorem two_of {b r q : Addr} {p : Addr → Prop} (hr : p r) (hq : p q) (hb : b ∈ [r, q]) : p b := by
  rcases List.mem_cons.mp hb with rfl | hb
  · exact hr
  · obtain rfl := List.mem_singleton.mp hb
    exact hq
theorem turn_enumT {P : Program} {w : World} {K : PySem.W.Frag} {elts : List Expr} {kk : Nat} {tpos : Pos} (t r q : Addr) :
    Turn P w K (.Tuple elts kk tpos) (IteT K t) [r, q] r (fun i h => r ≠ q ∧ h.IsTupleIter q t i ∧ ∃ old, IsEnum h r q ((i : Nat) : Int) old) := by
  refine ⟨List.mem_cons_self, fun i h st b hb => ?_, fun i h h' st same => ?_, ?_, ?_, fun A i z Q E st more => ?_⟩
  · obtain ⟨_, ⟨oq, gq, _, dq⟩, old, gr⟩ := st
    exact two_of (p := fun b => ∃ o, h.get? b = some o ∧ ∀ v, o.data ≠ .cell v) ⟨_, gr, fun _ e => nomatch e⟩ ⟨oq, gq, fun _ e => by rw [dq] at e; exact nomatch e⟩ hb
  · obtain ⟨ne, gq, old, gr⟩ := st
    exact ⟨ne, gq.at fun o e => same q (List.mem_cons_of_mem _ List.mem_cons_self) o e, old, same r List.mem_cons_self _ gr⟩
  · rintro X rfl rfl rfl calm i pins z σ H E I room ⟨ne, gq, old, gr⟩ ⟨ys, y, isY, nth⟩
    obtain ⟨vs, rel, isT, _⟩ := I.tuple isY
    obtain ⟨v, nthV, relV⟩ := rel.get nth
    have isT : z.heap.IsTuple t vs.toArray := isT
    obtain ⟨tq, rt⟩ := three isT gq gr
    have lr : r < z.heap.objs.size := Heap.lt_size gr
    have lq : q < z.heap.objs.size := gq.elim fun _ e => Heap.lt_size e.1
    have inside : i < vs.toArray.size := by
      have := (List.getElem?_eq_some_iff.mp nthV).1
      simpa using this
    have draws := Draws.tuple (prog := X.prog) (w := X.w) (A := X.A.in1) (I.ok.hd calm) q t tq vs.toArray
    refine wpAny_pyNext_enum_itemC draws gr ⟨gq, isT⟩ inside ne (fun m => two_of (p := fun b => r = b → False) ne rt m rfl) fun v' h1 tk hv out stQ newT _ kept1 => ?_
    obtain rfl : v' = v := by
      have hv : vs.toArray[i]? = some v' := hv
      rw [List.getElem?_toArray, nthV] at hv
      exact (Option.some.inj hv).symm
    refine ⟨_, rfl, wpAny_letOwnedTupleGo_enum (s := { z with heap := h1, toks := tk + 1 }) out fun h2 back same2 => ?_⟩
    have at2 : ∀ b o, b ∉ [r, q] → z.heap.get? b = some o → h2.get? b = some o := fun b o away e =>
      (same2.2 b fun k => away (k ▸ List.mem_cons_self)).trans (kept1 b o (fun k => away (k ▸ List.mem_cons_self)) (fun k => away (k ▸ List.mem_cons_of_mem _ List.mem_cons_self)) e)
    have pair : ObjOk X.prog X.w (upd H z.heap.objs.size (.tup [.int (i : Nat), y])) h2 z.heap.objs.size (.tup [.int (i : Nat), y]) :=
      ⟨show 2 ≤ sizeLine by decide, [.int i tk, v'], .cons ⟨tk, rfl⟩ (.cons relV .nil), _, (same2.2 _ (Nat.ne_of_gt lr)).trans newT, rfl, _, rfl⟩
    refine ⟨.ref z.heap.objs.size, _, I.turnedNew (t' := tk + 1) at2 room (Nat.le_refl _) pair, rfl, ⟨_, y, rfl, I.hok.fresh (Nat.le_refl _), rfl, fun ys' is' => ?_⟩, ⟨ne, ?_, v', ?_⟩, fun b hb => ?_⟩
    · rw [I.tuple_inj is' isY]; exact nth
    · exact stQ.1.at fun o e => (same2.2 q ne.symm).trans e
    · rw [show ((i + 1 : Nat) : Int) = (i : Int) + 1 from by omega]; exact back
    · have lb : b < z.heap.objs.size := two_of (p := fun b => b < z.heap.objs.size) lr lq hb
      rw [upd_ne (Nat.ne_of_lt lb)]
      exact (room b hb).1
  · rintro X rfl rfl rfl calm i pins z σ H E I room ⟨ne, gq, old, gr⟩ ⟨ys, isY, past⟩
    obtain ⟨vs, rel, isT, _⟩ := I.tuple isY
    have isT : z.heap.IsTuple t vs.toArray := isT
    obtain ⟨k0, k1, k2, k3, k4, k5⟩ := room q (List.mem_cons_of_mem _ List.mem_cons_self)
    have isE : z.TypeIs (.ref r) "enumerate" := ⟨_, gr, rfl⟩
    have len := rel.length
    have past : vs.toArray[i]? = none := by rw [List.getElem?_toArray, List.getElem?_eq_none_iff]; omega
    unfold pyNext
    refine wpAny_bind (wpAny_attempt (wpAny_callSpecial?_slot (name := Str.ofString "__next__") isE F.slot_enumerate_next (wpAny_call_entry F.slot_enumerate_next isE F.entry_enumerate_next ?_ (F.args_enumerate_next_1 _))))
    show wpAny _ _ (field (.ref r) 2 >>= _) _ _ z
    refine wpAny_bind (wpAny_field gr rfl (x := .ref q) rfl (wpAny_bind (wpAny_nextOf_tuple_end (I.ok.hd calm) gq isT past fun h1 x but ⟨ox, gx, cx⟩ => ?_)))
    exact wpAny_bind (wpAny_isInstance (T := "StopIteration") (b := true) ⟨ox, gx, cx⟩ isSubtype_stop (wpAny_pure ⟨rfl, I.turned (t' := z.toks) (fun b o away e => but b o away e) k0 k1 k3 k4 k5⟩))
  · obtain ⟨_, _, old, gr⟩ := st
    exact wpAny_pyIter_enum gr more
/-- the reading of enumerate over a list or over a tuple -/
def iEnumS (K : PySem.W.Frag) (ta : TA) : TI := fun σ H R => ta σ H fun vs H1 => ∃ a xs, vs = [.ref a] ∧ ((SqL K H1 a xs ∧ R (Ite K a) H1) ∨ (SqT K H1 a xs ∧ R (IteT K a) H1))
theorem pi_enumS {X : Cx} {e : Expr} {ta : TA} {p pos tpos : Pos} {elts : List Expr} {kk : Nat} (hg : Gl X "enumerate") (hm : X.mg "enumerate" = none) (ha : PA X [e] ta) (hs : starEach [e] X.env = [(false, eval e X.env)] := by rfl) :
    PI X (.Tuple elts kk tpos) (.Call (.Name "enumerate" p) [e] [] pos) (iEnumS X.K ta) := by
  refine PI.mk fun pins z σ H R I reading => Call_ (ld_blt I hg hm boot_enumerate (PyProof.Rows.callWith_type1 (thn (ha.run pos pins z σ H _ I reading) fun us z1 hu => ?_) hs rfl))
  obtain ⟨vs, H1, I1, rel, a, xs, rfl, cases2⟩ := hu
  match us, rel with
  | [u], .cons ru .nil =>
    obtain rfl : u = Value.ref a := ru
    have fresh : ∀ b ∈ [z1.heap.objs.size + 1, z1.heap.objs.size], FpOk X pins H1 b := fun b hb =>
      have far : z1.heap.objs.size ≤ b := two_of (p := fun b => z1.heap.objs.size ≤ b) (Nat.le_succ _) (Nat.le_refl _) hb
      I1.fpOk far (I1.hok.fresh far)
    rcases cases2 with ⟨sq, q⟩ | ⟨sq, q⟩
    · obtain ⟨its, rv, isL, _⟩ := I1.list sq
      exact call_enumerate_list isL.isList fun h' gE gI _ kept => wpAny_pyIter_enum gE ⟨_, _, _, _, H1, rfl, I1.kept (t' := z1.toks) kept, turn_enum a _ _, ⟨⟨.none, gE⟩, gI, Nat.succ_ne_self _⟩, fresh, q⟩
    · obtain ⟨its, rv, isT, _⟩ := I1.tuple sq
      have isT : z1.heap.IsTuple a its.toArray := isT
      refine enum_of_tuple isT fun gE => wpAny_pyIter_enum gE ⟨_, _, _, _, H1, rfl, I1.kept (t' := z1.toks) fun b o e => ?_, turn_enumT a _ _, ⟨Nat.succ_ne_self _, ?_, .none, gE⟩, fresh, q⟩
      · exact Heap.get?_push_of_some _ (Heap.get?_push_of_some _ e)
      · exact ⟨_, Heap.get?_push_of_some _ (Heap.get?_push_size _ rfl), rfl, rfl⟩
end L2.TB
namespace L2.TB
open PySem PySem.Spec PyProof.Rows
/-! the program's looks at what it is passed -/
theorem boot_int' : bootBuiltins "int" = some (.type "int") := by decide +kernel
theorem boot_bool' : bootBuiltins "bool" = some (.type "bool") := by decide +kernel
theorem boot_str' : bootBuiltins "str" = some (.type "str") := by decide +kernel
theorem boot_list' : bootBuiltins "list" = some (.type "list") := by decide +kernel
theorem boot_tuple' : bootBuiltins "tuple" = some (.type "tuple") := by decide +kernel
theorem boot_dict' : bootBuiltins "dict" = some (.type "dict") := by decide +kernel
theorem boot_isi : bootBuiltins "isinstance" = some (.builtin "isinstance") := by decide +kernel
/-- the list or the tuple at a -/
def SqA (K : PySem.W.Frag) (H : Hp) (a : Addr) (xs : List V) : Prop := H a = some (.lst xs) ∨ H a = some (.tup xs)
theorem SqA.seq {K : PySem.W.Frag} {H : Hp} {a : Addr} {xs : List V} (h : SqA K H a xs) : SqL K H a xs ∨ SqT K H a xs := h.imp SqL.of SqT.of
theorem SqA.same {K : PySem.W.Frag} {H H' : Hp} {a : Addr} {xs : List V} (h : SqA K H a xs) (s : Same H H') : SqA K H' a xs := h.imp (s _ _) (s _ _)
theorem kit_two_l {K : PySem.W.Frag} : PySem.W.kitAny K (.type "list") [.type "list", .type "tuple"] = some true := by
  unfold PySem.W.kitAny
  rw [kit_ty (K := K) (a := "list") (b := "list") (r := true) (by decide +kernel)]
theorem kit_two_t {K : PySem.W.Frag} : PySem.W.kitAny K (.type "tuple") [.type "list", .type "tuple"] = some true := by
  unfold PySem.W.kitAny
  rw [kit_ty (K := K) (a := "tuple") (b := "list") (r := false) (by decide +kernel)]
  dsimp only
  unfold PySem.W.kitAny
  rw [kit_ty (K := K) (a := "tuple") (b := "tuple") (r := true) (by decide +kernel)]
def spIsInt : Sp := fun vs H Q _ => ∃ k : Int, vs = [.int k] ∧ Q (.bl true) H
def spIsList (K : PySem.W.Frag) : Sp := fun vs H Q _ => ∃ (a : Addr) (xs : List V), vs = [.ref a] ∧ SqA K H a xs ∧ ∀ H', Same H H' → Q (.bl true) H'
def spIsOne (K : PySem.W.Frag) : Sp := fun vs H Q _ => ∃ (c : Addr) (ns : List Str) (x : Str), vs = [.ref c, .str x] ∧ SqL K H c (ns.map V.str) ∧ Q (.bl (decide (x ∈ ns))) H
/-- no bad one -/
def spFirst (K : PySem.W.Frag) : Sp := fun vs H Q _ => ∃ (c a : Addr) (ns known : List Str), vs = [.ref c, .ref a] ∧ H c = some (.lst (ns.map V.str)) ∧ SqA K H a (known.map V.str) ∧ known.Nodup ∧ (∀ x ∈ known, x ∈ ns) ∧ known.length < 1000 ∧ ∀ H', Same H H' → Q .non H'
theorem scIsInt : FnScope ["thing"] ["thing"] (defScope sIsInt) := ⟨rfl, rfl, rfl, by decide +kernel, rfl, by decide +kernel, by decide +kernel⟩
theorem scIsList : FnScope ["thing"] ["thing"] (defScope sIsList) := ⟨rfl, rfl, rfl, by decide +kernel, rfl, by decide +kernel, by decide +kernel⟩
theorem scIsOne : FnScope ["names", "thing"] ["names", "thing"] (defScope sIsOne) := ⟨rfl, rfl, rfl, by decide +kernel, rfl, by decide +kernel, by decide +kernel⟩
abbrev NF : List Str := ["names", "things", "seen", "index", "thing"]
theorem scFirst : FnScope NF ["names", "things"] (defScope sFirst) := ⟨rfl, rfl, rfl, by decide +kernel, rfl, by decide +kernel, by decide +kernel⟩
section
variable {P : Program} {w : World} {K : PySem.W.Frag} {mg : Str → Option Value} {base : Heap} {f fL fO : Addr} {fd fdL fdO : FuncData}
theorem ok_isInt (F : Fun K "is_integer" "is_integer" sIsInt f fd) (gI : mg "isinstance" = none) (gInt : mg "int" = none) (gB : mg "bool" = none) : FnOk P w K mg base CX0 1 f fd ["thing"] spIsInt := by
  refine F.ok scIsInt (fun vs H Q E h => by obtain ⟨k, e, _⟩ := h; rw [e]; rfl) fun cdv A outer s H vs Q E hr hsp => ?_
  obtain ⟨k, rfl, hq⟩ := hsp
  refine ⟨_, pss_one (ps_ret (pe_and (pe_callB (r := rIsi K) call_isi rfl gI boot_isi (pa_cons (pv 0) (pa_cons (pe_bltn (v := .ty "int") rfl gInt boot_int' rfl) pa_nil)))
    (pe_one (pe_not (pe_callB (r := rIsi K) call_isi rfl gI boot_isi (pa_cons (pv 0) (pa_cons (pe_bltn (v := .ty "bool") rfl gB boot_bool' rfl) pa_nil))))))), ?_⟩
  exact ⟨_, rfl, _, _, _, _, true, rfl, .ty _, .base (.int k), kit_ty (by decide +kernel), true, rfl, _, rfl, _, _, _, _, false, rfl, .ty _, .base (.int k), kit_ty (by decide +kernel), false, rfl, hq⟩
theorem ok_isList (F : Fun K "is_list" "is_list" sIsList f fd) (gI : mg "isinstance" = none) (gL : mg "list" = none) (gT : mg "tuple" = none) : FnOk P w K mg base CX0 1 f fd ["thing"] (spIsList K) := by
  refine F.ok scIsList (fun vs H Q E h => by obtain ⟨a, xs, e, _⟩ := h; rw [e]; rfl) fun cdv A outer s H vs Q E hr hsp => ?_
  obtain ⟨a, xs, rfl, hS, hq⟩ := hsp
  refine ⟨_, pss_one (ps_ret (pe_callB (r := rIsiT K) call_isiT rfl gI boot_isi (pa_cons (pv 0) (pa_cons (pe_tup (pa_cons (pe_bltn (v := .ty "list") rfl gL boot_list' rfl) (pa_cons (pe_bltn (v := .ty "tuple") rfl gT boot_tuple' rfl) pa_nil))) pa_nil)))), ?_⟩
  refine ⟨_, rfl, (by show 2 ≤ sizeLine; decide), fun t nt => ?_⟩
  have kt := same_new (o := .tup [.ty "list", .ty "tuple"]) nt
  rcases hS.same kt with e | e
  · exact ⟨_, _, _, _, _, true, rfl, upd_same, .cons (.ty _) (.cons (.ty _) .nil), .base (.lst e), kit_two_l, hq _ kt⟩
  · exact ⟨_, _, _, _, _, true, rfl, upd_same, .cons (.ty _) (.cons (.ty _) .nil), .base (.tup e), kit_two_t, hq _ kt⟩
theorem ok_isOne (F : Fun K "is_one_of" "is_one_of" sIsOne f fd) (gI : mg "isinstance" = none) (gS : mg "str" = none) : FnOk P w K mg base CX0 1 f fd ["names", "thing"] (spIsOne K) := by
  refine F.ok scIsOne (fun vs H Q E h => by obtain ⟨c, ns, x, e, _⟩ := h; rw [e]; rfl) fun cdv A outer s H vs Q E hr hsp => ?_
  obtain ⟨c, ns, x, rfl, hS, hq⟩ := hsp
  refine ⟨_, pss_one (ps_ret (pe_and (pe_callB (r := rIsi K) call_isi rfl gI boot_isi (pa_cons (pv 1) (pa_cons (pe_bltn (v := .ty "str") rfl gS boot_str' rfl) pa_nil)))
    (pe_one (pe_cmpR op_in_seq (pv 1) (pv 0) rfl)))), ?_⟩
  refine ⟨_, rfl, _, _, _, _, true, rfl, .ty _, .base (.str x), kit_ty (by decide +kernel), true, rfl, _, rfl, _, rfl, c, _, rfl, .inl hS, rfl, flat_strs ns, ?_⟩
  rw [inV_strs]
  exact hq
/-- the dict of what was seen -/
def seenD (xs : List Str) : List (Key × V) := xs.map fun x => (Sum.inr x, V.bl true)
theorem seen_none {xs : List Str} {x : Str} (h : x ∉ xs) : valV (seenD xs) (Sum.inr x) = none := by
  cases e : valV (seenD xs) (Sum.inr x) with
  | none => rfl
  | some v =>
    exfalso
    have z : (valV (seenD xs) (Sum.inr x)).isSome = true := by rw [e]; rfl
    rw [← valV_any, List.any_eq_true] at z
    obtain ⟨q, hq, hq2⟩ := z
    obtain ⟨y, hy, rfl⟩ := List.mem_map.mp hq
    have hq3 : (Sum.inr y : Key) = Sum.inr x := of_decide_eq_true hq2
    exact h (Sum.inr.inj hq3 ▸ hy)
theorem seen_put {xs : List Str} {x : Str} (h : x ∉ xs) : putK (seenD xs) (Sum.inr x) (.bl true) = seenD (xs ++ [x]) := by
  rw [putK_new (.bl true) (seen_none h)]
  simp [seenD]
/-- what the for loop asks of its turns -/
def ForW (J : It) (g : TG) (tb : TS) (D : Ends) (σ : St) (H : Hp) : Prop := ∃ W : Nat → Nat → St → Hp → Prop, (∃ m, W 0 m σ H) ∧ ∀ i m σ H, W i m σ H →
  (J.stop i H ∧ D.nx σ H) ∨ (J.go i H ∧ ∃ N : St → Hp → Prop, (∀ σ' H', N σ' H' → ∃ m', m' < m ∧ W (i + 1) m' σ' H') ∧ ∀ x H', J.yld i H x H' → g x σ H' fun σ2 H2 => tb { D with nx := N, ct := N, bk := D.nx } σ2 H2)
theorem enum_seq {K : PySem.W.Frag} {a : Addr} {xs : List V} {o : HO} {g : TG} {tb : TS} {D : Ends} {σ : St} {H : Hp} (ko : o = .lst xs ∨ o = .tup xs) (Pv : Nat → St → Hp → Prop) (h0 : Pv 0 σ H) (hl : ∀ i σ H, i ≤ xs.length → Pv i σ H → H a = some o)
    (hs : ∀ i x σ H T, xs[i]? = some x → Pv i σ H → H T = none → g (.ref T) σ (upd H T (.tup [.int (i : Nat), x])) fun σ2 H2 => tb { D with nx := Pv (i + 1), ct := Pv (i + 1), bk := D.nx } σ2 H2) (hd : ∀ σ H, Pv xs.length σ H → D.nx σ H) :
    ∃ b ys, [V.ref a] = [V.ref b] ∧ ((SqL K H b ys ∧ ForW (Ite K b) g tb D σ H) ∨ (SqT K H b ys ∧ ForW (IteT K b) g tb D σ H)) := by
  have fin : ∀ J : It, (∀ i H, i < xs.length → H a = some o → J.go i H) → (∀ i H, i = xs.length → H a = some o → J.stop i H) → (∀ i H v H', i < xs.length → H a = some o → J.yld i H v H' → ∃ T x, v = .ref T ∧ H T = none ∧ H' = upd H T (.tup [.int (i : Nat), x]) ∧ xs[i]? = some x) → ForW J g tb D σ H := by
    intro J go stop yld
    refine ⟨fun i m σ H => m = xs.length - i ∧ i ≤ xs.length ∧ Pv i σ H, ⟨_, rfl, Nat.zero_le _, h0⟩, ?_⟩
    rintro i m σ H ⟨rfl, le, p⟩
    have q := hl i σ H le p
    by_cases lt : i < xs.length
    · refine .inr ⟨go i H lt q, Pv (i + 1), fun σ' H' p' => ⟨xs.length - (i + 1), by omega, rfl, lt, p'⟩, fun v H' y => ?_⟩
      obtain ⟨T, x, rfl, nT, rfl, ex⟩ := yld i H v H' lt q y
      exact hs i x σ H T ex p nT
    · obtain rfl : i = xs.length := by omega
      exact .inl ⟨stop _ H rfl q, hd σ H p⟩
  have q0 := hl 0 σ H (Nat.zero_le _) h0
  rcases ko with rfl | rfl
  · exact ⟨a, xs, rfl, .inl ⟨SqL.of q0, fin _ (fun i H lt q => ⟨xs, xs[i], SqL.of q, by simp [lt]⟩) (fun i H e' q => ⟨xs, SqL.of q, by omega⟩)
      (fun i H v H' lt q ⟨T, x, e1, e2, e3, e4⟩ => ⟨T, x, e1, e2, e3, e4 xs (SqL.of q)⟩)⟩⟩
  · exact ⟨a, xs, rfl, .inr ⟨SqT.of q0, fin _ (fun i H lt q => ⟨xs, xs[i], SqT.of q, by simp [lt]⟩) (fun i H e' q => ⟨xs, SqT.of q, by omega⟩)
      (fun i H v H' lt q ⟨T, x, e1, e2, e3, e4⟩ => ⟨T, x, e1, e2, e3, e4 xs (SqT.of q)⟩)⟩⟩
theorem ok_first (F : Fun K "first_bad" "first_bad" sFirst f fd) (FL : Fun K "is_list" "is_list" sIsList fL fdL) (gIL : mg "is_list" = some (.ref fL)) (FO : Fun K "is_one_of" "is_one_of" sIsOne fO fdO) (gIO : mg "is_one_of" = some (.ref fO))
    (gI : mg "isinstance" = none) (gL : mg "list" = none) (gT : mg "tuple" = none) (gS : mg "str" = none) (gE : mg "enumerate" = none) : FnOk P w K mg base CX0 2 f fd ["names", "things"] (spFirst K) := by
  have GL : FnOk P w K mg base CX0 1 fL fdL ["thing"] (spIsList K) := ok_isList FL gI gL gT
  have bL := FL.binds (ps := ["thing"]) fun _ _ _ _ _ _ us hl => match us, hl with | [_], _ => rfl
  have GO : FnOk P w K mg base CX0 1 fO fdO ["names", "thing"] (spIsOne K) := ok_isOne FO gI gS
  have bO := FO.binds (ps := ["names", "thing"]) fun _ _ _ _ _ _ us hl => match us, hl with | [_, _], _ => rfl
  refine F.ok scFirst (fun vs H Q E h => by obtain ⟨c, a, ns, known, e, _⟩ := h; rw [e]; rfl) fun cdv A outer s H vs Q E hr hsp => ?_
  obtain ⟨c, a, ns, known, rfl, hc, hS, nd1, sub, short, hq⟩ := hsp
  have nd := scFirst.nd
  have hu := hu_of hr
  refine ⟨_, pss_cons (ps_if (pt_not (pt_val (pe_call GL hr rfl gIL FL.kp bL .nil pass0 (pa_cons (pv 1) pa_nil)))) (pss_one ps_never) pss_nil)
    (pss_cons (ps_set (i := 2) nd rfl (Or.inl rfl) pe_dnewK)
    (pss_cons (ps_for PassesOwn.never rfl (pi_enumS rfl gE (pa_cons (pv 1) pa_nil)) (pg_tup rfl (pgs_cons (pg_name (i := 3) nd rfl (Or.inl rfl)) (pgs_cons (pg_name (i := 4) nd rfl (Or.inl rfl)) pgs_nil)))
      (pss_cons (ps_if (PW.pt (pw_or (pt_not (pt_val (pe_call GO hr rfl gIO FO.kp bO .nil pass0 (pa_cons (pv 0) (pa_cons (pv 4) pa_nil))))) (pw_or1 (pt_cmp (pc_din hu (pv 4) (pv 2)))))) (pss_one ps_never) pss_nil)
      (pss_one (ps_dput hu (pv 2) (pv 4) pe_bl rfl))))
    (pss_one (ps_ret pe_non)))), ?_⟩
  refine ⟨_, rfl, a, _, rfl, hS, fun H1 k1 => ⟨_, rfl, iteF fun d nd2 => ?_⟩⟩
  have kd := same_new (o := .dK []) nd2
  obtain ⟨o, ho, ko⟩ : ∃ o, H1 a = some o ∧ (o = .lst (known.map V.str) ∨ o = .tup (known.map V.str)) := by
    rcases hS.same k1 with e | e
    · exact ⟨_, e, .inl rfl⟩
    · exact ⟨_, e, .inr rfl⟩
  refine ⟨_, rfl, enum_seq ko (fun i σ H' => H' d = some (.dK (seenD (known.take i))) ∧ Same H1 H' ∧ ∃ s3 s4, σ = [some (.ref c), some (.ref a), some (.ref d), s3, s4])
    ⟨upd_same, kd, _, _, rfl⟩ (fun i σ H' _ h => h.2.1 _ _ ho) ?_ ?_⟩
  · rintro i v σ H2 T ev ⟨od, s2, s3, s4, rfl⟩ nT
    rw [List.getElem?_map] at ev
    obtain ⟨x, ex, rfl⟩ := Option.map_eq_some_iff.mp ev
    have hi : i < known.length := (List.getElem?_eq_some_iff.mp ex).1
    have kT := same_new (o := .tup [.int (i : Nat), .str x]) nT
    refine ⟨T, _, rfl, SqT.of upd_same, rfl, ?_⟩
    have e1 : known.take (i + 1) = known.take i ++ [x] := by rw [List.take_succ, ex]; rfl
    have notin : x ∉ known.take i := fun m => by
      have z := nd1
      rw [← List.take_append_drop (i + 1) known, e1, List.append_assoc, List.nodup_append] at z
      exact z.2.2 x m x (by simp) rfl
    have xin : x ∈ ns := sub x (List.mem_of_getElem? ex)
    refine ⟨_, _, rfl, _, _, rfl, rfl, ?_⟩
    refine ⟨_, rfl, _, rfl, c, ns, x, rfl, SqL.of (kT _ _ (s2 _ _ (k1 _ _ hc))), _, rfl, ?_⟩
    rw [decide_eq_true xin]
    refine iteF ⟨_, rfl, _, rfl, d, _, rfl, DGet.k (k := Sum.inr x) (kT _ _ od), ?_⟩
    rw [seen_none notin]
    refine ⟨_, rfl, iteF ?_⟩
    have small : (seenD (known.take i)).length < sizeLine := by
      rw [sizeLine_eq]
      unfold seenD
      rw [List.length_map, List.length_take]; omega
    refine ⟨_, rfl, _, rfl, d, _, rfl, DPut.k (k := Sum.inr x) (kT _ _ od) small, ?_, ?_, _, _, rfl⟩
    · rw [upd_same, seen_put notin, ← e1]
    · intro b u e
      have nb : b ≠ d := ne_of_none e nd2
      rw [upd_ne nb]
      exact kT _ _ (s2 _ _ e)
  · rintro σ H2 ⟨od, s2, s3, s4, rfl⟩
    exact hq _ (k1.trans s2)
end
end L2.TB
namespace L2.TB
open PySem PySem.Spec PyProof.Rows
/-! the checks, where nothing is wrong -/
def spCkA (K : PySem.W.Frag) : Sp := fun vs H Q _ => ∃ (c : Addr) (ns : List Str) (x : Str), vs = [.ref c, .str x] ∧ SqL K H c (ns.map V.str) ∧ x ∈ ns ∧ Q .non H
def spCkB (K : PySem.W.Frag) : Sp := fun vs H Q _ => ∃ (c a : Addr) (ns known : List Str) (x : Str), vs = [.ref c, .ref a, .str x] ∧ H c = some (.lst (ns.map V.str)) ∧ SqA K H a (known.map V.str) ∧ known.Nodup ∧ (∀ x ∈ known, x ∈ ns) ∧ known.length < 1000 ∧ x ∈ ns ∧ ∀ H', Same H H' → Q .non H'
theorem scCkK : FnScope ["names", "known", "index"] ["names", "known"] (defScope sCkK) := ⟨rfl, rfl, rfl, by decide +kernel, rfl, by decide +kernel, by decide +kernel⟩
theorem scCkA : FnScope ["names", "asked"] ["names", "asked"] (defScope sCkA) := ⟨rfl, rfl, rfl, by decide +kernel, rfl, by decide +kernel, by decide +kernel⟩
theorem scCkB : FnScope ["names", "known", "asked"] ["names", "known", "asked"] (defScope sCkB) := ⟨rfl, rfl, rfl, by decide +kernel, rfl, by decide +kernel, by decide +kernel⟩
/-- what the checks need of the module -/
structure Chk (K : PySem.W.Frag) (mg : Str → Option Value) (aF aL aO aK aA aB : Addr) : Prop where
  F : ∃ fd, Fun K "first_bad" "first_bad" sFirst aF fd
  L : ∃ fd, Fun K "is_list" "is_list" sIsList aL fd
  O : ∃ fd, Fun K "is_one_of" "is_one_of" sIsOne aO fd
  CK : ∃ fd, Fun K "check_known" "check_known" sCkK aK fd
  CA : ∃ fd, Fun K "check_asked" "check_asked" sCkA aA fd
  CB : ∃ fd, Fun K "check_both" "check_both" sCkB aB fd
  gF : mg "first_bad" = some (.ref aF)
  gL : mg "is_list" = some (.ref aL)
  gO : mg "is_one_of" = some (.ref aO)
  gCK : mg "check_known" = some (.ref aK)
  gCA : mg "check_asked" = some (.ref aA)
  gCB : mg "check_both" = some (.ref aB)
  nI : mg "isinstance" = none
  nL : mg "list" = none
  nT : mg "tuple" = none
  nS : mg "str" = none
  nE : mg "enumerate" = none
section
variable {P : Program} {w : World} {K : PySem.W.Frag} {mg : Str → Option Value} {base : Heap} {aF aL aO aK aA aB : Addr} {fd : FuncData}
theorem ok_ckK (C : Chk K mg aF aL aO aK aA aB) (F : Fun K "check_known" "check_known" sCkK aK fd) : FnOk P w K mg base CX0 3 aK fd ["names", "known"] (spFirst K) := by
  obtain ⟨fdF, FF⟩ := C.F
  obtain ⟨fdL, FL⟩ := C.L
  obtain ⟨fdO, FO⟩ := C.O
  have G : FnOk P w K mg base CX0 2 aF fdF ["names", "things"] (spFirst K) := ok_first FF FL C.gL FO C.gO C.nI C.nL C.nT C.nS C.nE
  have b := FF.binds (ps := ["names", "things"]) fun _ _ _ _ _ _ us hl => match us, hl with | [_, _], _ => rfl
  refine F.ok scCkK (fun vs H Q E h => by obtain ⟨c, a, ns, known, e, _⟩ := h; rw [e]; rfl) fun cdv A outer s H vs Q E hr hsp => ?_
  obtain ⟨c, a, ns, known, rfl, hc, hS, nd1, sub, short, hq⟩ := hsp
  have nd := scCkK.nd
  refine ⟨_, pss_cons (ps_set (i := 2) nd rfl (Or.inl rfl) (pe_call G hr rfl C.gF FF.kp b .nil pass0 (pa_cons (pv 0) (pa_cons (pv 1) pa_nil))))
    (pss_one (ps_if (pt_cmp (pc_notN (pv 2))) (pss_one ps_never) pss_nil)), ?_⟩
  refine ⟨_, rfl, _, rfl, c, a, ns, known, rfl, hc, hS, nd1, sub, short, fun H1 k1 => ?_⟩
  exact ⟨_, rfl, _, rfl, iteF (hq H1 k1)⟩
theorem ok_ckA (C : Chk K mg aF aL aO aK aA aB) (F : Fun K "check_asked" "check_asked" sCkA aA fd) : FnOk P w K mg base CX0 2 aA fd ["names", "asked"] (spCkA K) := by
  obtain ⟨fdO, FO⟩ := C.O
  have G : FnOk P w K mg base CX0 1 aO fdO ["names", "thing"] (spIsOne K) := ok_isOne FO C.nI C.nS
  have b := FO.binds (ps := ["names", "thing"]) fun _ _ _ _ _ _ us hl => match us, hl with | [_, _], _ => rfl
  refine F.ok scCkA (fun vs H Q E h => by obtain ⟨c, ns, x, e, _⟩ := h; rw [e]; rfl) fun cdv A outer s H vs Q E hr hsp => ?_
  obtain ⟨c, ns, x, rfl, hc, xin, hq⟩ := hsp
  refine ⟨_, pss_one (ps_if (pt_not (pt_val (pe_call G hr rfl C.gO FO.kp b .nil pass0 (pa_cons (pv 0) (pa_cons (pv 1) pa_nil))))) (pss_one ps_never) pss_nil), ?_⟩
  refine ⟨_, rfl, _, rfl, c, ns, x, rfl, hc, _, rfl, ?_⟩
  rw [decide_eq_true xin]
  exact iteF hq
theorem ok_ckB (C : Chk K mg aF aL aO aK aA aB) (F : Fun K "check_both" "check_both" sCkB aB fd) : FnOk P w K mg base CX0 4 aB fd ["names", "known", "asked"] (spCkB K) := by
  obtain ⟨fdK, FK⟩ := C.CK
  obtain ⟨fdA, FA⟩ := C.CA
  have GK := ok_ckK (P := P) (w := w) (base := base) C FK
  have bK := FK.binds (ps := ["names", "known"]) fun _ _ _ _ _ _ us hl => match us, hl with | [_, _], _ => rfl
  have GA := ok_ckA (P := P) (w := w) (base := base) C FA
  have bA := FA.binds (ps := ["names", "asked"]) fun _ _ _ _ _ _ us hl => match us, hl with | [_, _], _ => rfl
  refine F.ok scCkB (fun vs H Q E h => by obtain ⟨c, a, ns, known, x, e, _⟩ := h; rw [e]; rfl) fun cdv A outer s H vs Q E hr hsp => ?_
  obtain ⟨c, a, ns, known, x, rfl, hc, hS, nd1, sub, short, xin, hq⟩ := hsp
  refine ⟨_, pss_cons (ps_expr (pe_call GK hr rfl C.gCK FK.kp bK .nil pass0 (pa_cons (pv 0) (pa_cons (pv 1) pa_nil))))
    (pss_one (ps_expr (pe_call GA (hr.mono (by decide)) rfl C.gCA FA.kp bA .nil pass0 (pa_cons (pv 0) (pa_cons (pv 2) pa_nil))))), ?_⟩
  refine ⟨_, rfl, _, rfl, c, a, ns, known, rfl, hc, hS, nd1, sub, short, fun H1 k1 => ?_⟩
  exact ⟨_, rfl, _, rfl, c, ns, x, rfl, SqL.of (k1 _ _ hc), xin, hq H1 k1⟩
end
end L2.TB
namespace L2.TB
open PySem PySem.Spec PyProof.Rows
/-! what is walked is a list or a tuple -/
def iSeq (K : PySem.W.Frag) (tl : TE) : TI := fun σ H R => tl σ H fun x H1 => ∃ a xs, x = .ref a ∧ ((SqL K H1 a xs ∧ R (Itl K a) H1) ∨ (SqT K H1 a xs ∧ R (Itt K a) H1))
theorem pi_seq {X : Cx} {tg l : Expr} {tl : TE} (hl : PE X l tl) : PI X tg l (iSeq X.K tl) := by
  refine PI.mk fun pins z σ H R I reading => thn (hl.run pins z σ H _ I reading) fun v z1 ⟨x, H1, I1, rel, a, xs, ex, both⟩ => ?_
  subst ex
  obtain rfl : v = Value.ref a := rel
  have one : ∀ (o : Obj), FpOk X pins H1 z1.heap.objs.size := fun _ => I1.fpOk (Nat.le_refl _) (I1.hok.fresh (Nat.le_refl _))
  have fresh : ∀ b ∈ [z1.heap.objs.size], FpOk X pins H1 b := fun b hb => by
    obtain rfl := List.mem_singleton.mp hb
    exact I1.fpOk (Nat.le_refl _) (I1.hok.fresh (Nat.le_refl _))
  rcases both with ⟨sq, q⟩ | ⟨sq, q⟩
  · obtain ⟨its, rv, isL, _⟩ := I1.list sq
    exact wpAny_pyIter_list isL.isList ⟨_, _, _, _, H1, rfl, I1.kept (t' := z1.toks) (fun b o e => Heap.get?_push_of_some _ e), turn_list a _, ⟨_, Heap.get?_push_size _ rfl, rfl, rfl⟩, fresh, q⟩
  · obtain ⟨its, rv, isT, _⟩ := I1.tuple sq
    exact wpAny_pyIter_tuple (show z1.heap.IsTuple a its.toArray from isT) ⟨_, _, _, _, H1, rfl, I1.kept (t' := z1.toks) (fun b o e => Heap.get?_push_of_some _ e), turn_tuple a _, ⟨_, Heap.get?_push_size _ rfl, rfl, rfl⟩, fresh, q⟩
/-- a for loop over it -/
theorem for_seq {K : PySem.W.Frag} {a : Addr} {xs : List V} {o : HO} {g : TG} {tb : TS} {D : Ends} {σ : St} {H : Hp} (ko : o = .lst xs ∨ o = .tup xs) (Pv : Nat → St → Hp → Prop) (h0 : Pv 0 σ H) (hl : ∀ i σ H, i ≤ xs.length → Pv i σ H → H a = some o)
    (hs : ∀ i x σ H, xs[i]? = some x → Pv i σ H → g x σ H fun σ2 H2 => tb { D with nx := Pv (i + 1), ct := Pv (i + 1), bk := D.nx } σ2 H2) (hd : ∀ σ H, Pv xs.length σ H → D.nx σ H) :
    ∃ b ys, V.ref a = V.ref b ∧ ((SqL K H b ys ∧ ForW (Itl K b) g tb D σ H) ∨ (SqT K H b ys ∧ ForW (Itt K b) g tb D σ H)) := by
  have q0 := hl 0 σ H (Nat.zero_le _) h0
  rcases ko with rfl | rfl
  · exact ⟨a, xs, rfl, .inl ⟨SqL.of q0, for_list Pv h0 (fun i σ H le p => SqL.of (hl i σ H le p)) hs hd⟩⟩
  · exact ⟨a, xs, rfl, .inr ⟨SqT.of q0, for_tup Pv h0 (fun i σ H le p => SqT.of (hl i σ H le p)) hs hd⟩⟩
/-- what a list comprehension asks of its turns -/
def LcW (J : It) (g : TG) (tt : TT) (te : TE) (vs : List Nat) (σ : St) (H1 : Hp) (Q : Addr → Hp → Prop) : Prop := ∀ D, H1 D = none → ∃ W : Nat → Nat → Hp → Prop, (∃ m, W 0 m (upd H1 D (.lst []))) ∧ ∀ i m H, W i m H →
  (J.stop i H ∧ Q D H) ∨ (J.go i H ∧ ∃ Nx : Hp → Prop, (∀ H', Nx H' → ∃ m', m' < m ∧ W (i + 1) m' H') ∧ ∀ x H', J.yld i H x H' → g x (wipe σ vs) H' fun σ2 H2 => wipe σ2 vs = wipe σ vs ∧ tt σ2 H2 fun b H3 =>
    if b = true then te σ2 H3 fun y H4 => ∃ acc, H4 D = some (.lst acc) ∧ acc.length < sizeLine ∧ Nx (upd H4 D (.lst (acc ++ [y]))) else Nx H3)
/-- a turn of a comprehension: keep tells whether x is kept, fv x is what is made of it; nothing that was there is changed -/
def LcTurn (g : TG) (tt : TT) (te : TE) (vs : List Nat) (σ : St) (xs : List V) (keep : V → Bool) (fv : V → V) (H1 : Hp) : Prop :=
  ∀ (i : Nat) (x : V) (H : Hp) (C : V → Hp → Prop) (N : Hp → Prop), xs[i]? = some x → Same H1 H → (keep x = true → ∀ H4, Same H H4 → C (fv x) H4) → (keep x = false → ∀ H4, Same H H4 → N H4) →
    g x (wipe σ vs) H fun σ2 H2 => wipe σ2 vs = wipe σ vs ∧ tt σ2 H2 fun b H3 => if b = true then te σ2 H3 C else N H3
theorem filter_snoc (keep : V → Bool) (fv : V → V) {xs : List V} {i : Nat} {x : V} (ex : xs[i]? = some x) :
    ((xs.take (i + 1)).filter keep).map fv = ((xs.take i).filter keep).map fv ++ (if keep x = true then [fv x] else []) := by
  have e1 : xs.take (i + 1) = xs.take i ++ [x] := by rw [List.take_succ, ex]; rfl
  rw [e1, List.filter_append, List.map_append]
  congr 1
  cases h : keep x <;> simp [h]
theorem lc_seq {K : PySem.W.Frag} {a : Addr} {xs : List V} {o : HO} {g : TG} {tt : TT} {te : TE} {vs : List Nat} {σ : St} {H1 : Hp} {Q : Addr → Hp → Prop} (ko : o = .lst xs ∨ o = .tup xs) (ho : H1 a = some o) (short : xs.length < 1000000) (keep : V → Bool) (fv : V → V)
    (turn : LcTurn g tt te vs σ xs keep fv H1) (fin : ∀ H D, H1 D = none → H D = some (.lst ((xs.filter keep).map fv)) → Same H1 H → Q D H) :
    ∃ b ys, V.ref a = V.ref b ∧ ((SqL K H1 b ys ∧ LcW (Itl K b) g tt te vs σ H1 Q) ∨ (SqT K H1 b ys ∧ LcW (Itt K b) g tt te vs σ H1 Q)) := by
  have go : ∀ D, H1 D = none → ∀ (i : Nat) (x : V) (H : Hp), xs[i]? = some x → (H D = some (.lst (((xs.take i).filter keep).map fv)) ∧ Same H1 H) → g x (wipe σ vs) H fun σ2 H2 => wipe σ2 vs = wipe σ vs ∧ tt σ2 H2 fun b H3 =>
      if b = true then te σ2 H3 fun y H4 => ∃ acc, H4 D = some (.lst acc) ∧ acc.length < sizeLine ∧ ((upd H4 D (.lst (acc ++ [y]))) D = some (.lst (((xs.take (i + 1)).filter keep).map fv)) ∧ Same H1 (upd H4 D (.lst (acc ++ [y])))) else (H3 D = some (.lst (((xs.take (i + 1)).filter keep).map fv)) ∧ Same H1 H3) := by
    rintro D nD i x H ex ⟨oD, s1⟩
    refine turn i x H _ _ ex s1 (fun k H4 s4 => ⟨_, s4 _ _ oD, ?_, ?_, ?_⟩) (fun k H4 s4 => ⟨?_, s1.trans s4⟩)
    · rw [sizeLine_eq, List.length_map]
      have := List.length_filter_le keep (xs.take i)
      rw [List.length_take] at this
      omega
    · rw [upd_same, filter_snoc keep fv ex, if_pos k]
    · intro b u e
      have nb : b ≠ D := ne_of_none e nD
      rw [upd_ne nb]
      exact s4 _ _ (s1 _ _ e)
    · rw [filter_snoc keep fv ex, k]
      simpa using s4 _ _ oD
  have all : xs.take xs.length = xs := List.take_length
  rcases ko with rfl | rfl
  · exact ⟨a, xs, rfl, .inl ⟨SqL.of ho, fun D nD => lc_list (xs := xs) (fun i H => H D = some (.lst (((xs.take i).filter keep).map fv)) ∧ Same H1 H) ⟨upd_same, same_new nD⟩ (fun i H _ p => SqL.of (p.2 _ _ ho)) (fun i x H ex p => go D nD i x H ex p)
      (fun H p => fin H D nD (by rw [all] at p; exact p.1) p.2)⟩⟩
  · exact ⟨a, xs, rfl, .inr ⟨SqT.of ho, fun D nD => lc_tup (xs := xs) (fun i H => H D = some (.lst (((xs.take i).filter keep).map fv)) ∧ Same H1 H) ⟨upd_same, same_new nD⟩ (fun i H _ p => SqT.of (p.2 _ _ ho)) (fun i x H ex p => go D nD i x H ex p)
      (fun H p => fin H D nD (by rw [all] at p; exact p.1) p.2)⟩⟩
end L2.TB
namespace L2.TB
open PySem PySem.Spec PyProof.Rows
/-! the table and its methods -/
def tabF (qa ra : Addr) : List (Str × V) := [("_questions", .ref qa), ("_rows", .ref ra)]
theorem tabF_q (qa ra : Addr) : (tabF qa ra).lookup ("_questions" : Str) = some (V.ref qa) := rfl
theorem tabF_r (qa ra : Addr) : (tabF qa ra).lookup ("_rows" : Str) = some (V.ref ra) := rfl
/-- the rows of the list at ra -/
def TRows (H : Hp) (ra : Addr) (n : Nat) (tbl : List (List Int)) : Prop := ∃ ps : List Addr, H ra = some (.lst (ps.map V.ref)) ∧ Paired (fun p vs => H p = some (.tup (vs.map V.int)) ∧ vs.length = n) ps tbl
structure TabAt (H : Hp) (C a : Addr) (ns : List Str) (tbl : List (List Int)) : Prop where
  ex : ∃ dx qa ra, H a = some (.ins C dx (tabF qa ra)) ∧ H qa = some (.lst (ns.map V.str)) ∧ TRows H ra ns.length tbl
theorem TRows.same {H H' : Hp} {ra : Addr} {n : Nat} {tbl : List (List Int)} (t : TRows H ra n tbl) (s : Same H H') : TRows H' ra n tbl := by
  obtain ⟨ps, o, r⟩ := t
  exact ⟨ps, s _ _ o, Paired.mapP r fun p vs h => ⟨s _ _ h.1, h.2⟩⟩
theorem TabAt.same {H H' : Hp} {C a : Addr} {ns : List Str} {tbl : List (List Int)} (t : TabAt H C a ns tbl) (s : Same H H') : TabAt H' C a ns tbl := by
  obtain ⟨dx, qa, ra, h1, h2, h3⟩ := t.ex
  exact ⟨dx, qa, ra, s _ _ h1, s _ _ h2, h3.same s⟩
structure TabC (K : PySem.W.Frag) (C : Addr) : Prop where
  cl : Cls K C
  nQ : NoAttr K C "_questions"
  nR : NoAttr K C "_rows"
def spQs (K : PySem.W.Frag) (C : Addr) : Sp := fun vs H Q _ => ∃ (a : Addr) (ns : List Str) (tbl : List (List Int)), vs = [.ref a] ∧ TabAt H C a ns tbl ∧ ∀ H' q, H q = none → H' q = some (.lst (ns.map V.str)) → Same H H' → Q (.ref q) H'
def idx (ns : List Str) (x : Str) : Nat := ns.idxOf x
def spPlaces (K : PySem.W.Frag) (C : Addr) : Sp := fun vs H Q _ => ∃ (a b : Addr) (ns known : List Str) (tbl : List (List Int)), vs = [.ref a, .ref b] ∧ TabAt H C a ns tbl ∧ SqA K H b (known.map V.str) ∧ (∀ x ∈ known, x ∈ ns) ∧ known.length < 1000 ∧
  ∀ H' q, H q = none → H' q = some (.lst (known.map fun x => V.int (idx ns x : Nat))) → Same H H' → Q (.ref q) H'
theorem scQs : FnScope ["self"] ["self"] (defScope sQs) := ⟨rfl, rfl, rfl, by decide +kernel, rfl, by decide +kernel, by decide +kernel⟩
abbrev NP : List Str := ["self", "names", "name"]
theorem scPlaces : FnScope NP ["self", "names"] (defScope sPlaces) := ⟨rfl, rfl, rfl, by decide +kernel, rfl, by decide +kernel, by decide +kernel⟩
theorem idx_at {ns : List Str} {x : Str} (h : x ∈ ns) : (ns.map V.str)[idx ns x]? = some (.str x) ∧ ∀ (m : Nat) (z : V), m < idx ns x → (ns.map V.str)[m]? = some z → eqV z (.str x) = false := by
  have lt : idx ns x < ns.length := List.idxOf_lt_length_of_mem h
  refine ⟨?_, fun m z lm ez => ?_⟩
  · rw [List.getElem?_map, List.getElem?_eq_getElem lt]
    have e : ns[idx ns x] = x := List.getElem_idxOf lt
    rw [e]; rfl
  · rw [List.getElem?_map] at ez
    obtain ⟨y, ey, rfl⟩ := Option.map_eq_some_iff.mp ez
    rw [str_inj]
    refine decide_eq_false fun q => ?_
    subst q
    have : idx ns y ≤ m := by
      obtain ⟨hm, em⟩ := List.getElem?_eq_some_iff.mp ey
      by_cases c : m < idx ns y
      · have z := List.not_of_lt_findIdx (p := fun a => a == y) (xs := ns) (i := m) c
        rw [em] at z
        simp at z
      · omega
    omega
section
variable {P : Program} {w : World} {K : PySem.W.Frag} {mg : Str → Option Value} {base : Heap} {f C : Addr} {fd : FuncData}
theorem ok_qs (F : Fun K "questions" "Table.questions" sQs f fd) (T : TabC K C) (gL : mg "list" = none) : FnOk P w K mg base CX0 1 f fd ["self"] (spQs K C) := by
  refine F.ok scQs (fun vs H Q E h => by obtain ⟨a, ns, tbl, e, _⟩ := h; rw [e]; rfl) fun cdv A outer s H vs Q E hr hsp => ?_
  obtain ⟨a, ns, tbl, rfl, ⟨dx, qa, ra, ha, hqa, hra⟩, hq⟩ := hsp
  refine ⟨_, pss_one (ps_ret (pe_callTy call_list_of rfl gL (by decide +kernel) (pa_cons (pe_fld (pv 0) rfl) pa_nil))), ?_⟩
  exact ⟨_, rfl, _, _, _, _, _, rfl, ha, T.cl, T.nQ, tabF_q _ _, _, _, rfl, .inl (SqL.of hqa), fun q nq => hq _ q nq upd_same (same_new nq)⟩
theorem ok_places (F : Fun K "_places" "Table._places" sPlaces f fd) (T : TabC K C) : FnOk P w K mg base CX0 1 f fd ["self", "names"] (spPlaces K C) := by
  refine F.ok scPlaces (fun vs H Q E h => by obtain ⟨a, b, ns, known, tbl, e, _⟩ := h; rw [e]; rfl) fun cdv A outer s H vs Q E hr hsp => ?_
  obtain ⟨a, b, ns, known, tbl, rfl, ⟨dx, qa, ra, ha, hqa, hra⟩, hb, sub, short, hq⟩ := hsp
  have nd := scPlaces.nd
  refine ⟨_, pss_one (ps_ret (pe_lc (own := [("name", 2)]) (tt := tYes) (te := tBM K "list" (rIndex K) (tFld K (tVar 0) "_questions") (tCons (tVar 2) tNil)) rfl nd (pi_seq (pv 1)) (blkOk_by (N := NP) (sc := defScope sPlaces) (by decide +kernel))
    (fun _ _ _ _ _ => pg_name (i := 2) nd rfl (Or.inl rfl)) (fun _ _ _ _ _ => pts_nil) (fun _ _ _ _ _ => pe_bm PySem.F.plainAttrs_list PySem.F.slot_list_index PySem.F.type_list_index mt_index (pe_fld (pv 0) rfl) (pa_cons (pv 2) pa_nil)))), ?_⟩
  obtain ⟨o, ho, ko⟩ : ∃ o, H b = some o ∧ (o = .lst (known.map V.str) ∨ o = .tup (known.map V.str)) := by
    rcases hb with e | e
    · exact ⟨_, e, .inl rfl⟩
    · exact ⟨_, e, .inr rfl⟩
  refine ⟨_, rfl, lc_seq ko ho (by rw [List.length_map]; omega) (fun _ => true) (fun v => match v with | .str x => .int (idx ns x : Nat) | _ => .non) ?_ ?_⟩
  · rintro i v H2 D N ev s2 yes no
    rw [List.getElem?_map] at ev
    obtain ⟨x, ex, rfl⟩ := Option.map_eq_some_iff.mp ev
    have xin : x ∈ ns := sub x (List.mem_of_getElem? ex)
    obtain ⟨i1, i2⟩ := idx_at xin
    refine ⟨rfl, ?_⟩
    refine ⟨_, rfl, _, _, _, _, _, rfl, s2 _ _ ha, T.cl, T.nQ, tabF_q _ _, .inl ⟨rfl, _, SqL.of (s2 _ _ hqa)⟩, _, rfl, ?_⟩
    exact ⟨qa, _, .str x, idx ns x, .str x, rfl, rfl, SqL.of (s2 _ _ hqa), rfl, flat_strs ns, i1, by rw [str_inj]; simp, i2, yes rfl H2 (Same.refl _)⟩
  · intro H2 q nq oq s2
    refine hq H2 q nq ?_ s2
    rw [oq, List.filter_eq_self.mpr (fun _ _ => rfl), List.map_map]
    rfl
end
end L2.TB
namespace L2.TB
open PySem PySem.Spec PyProof.Rows
/-! two rows that part -/
/-- the answer of a row -/
def av (ns : List Str) (vs : List Int) (x : Str) : Int := vs.getD (idx ns x) 0
def keyR (ns known : List Str) (vs : List Int) : List Int := known.map (av ns vs)
def keyK (ks : List Int) : List Key := ks.map Sum.inl
theorem keyK_kV (ks : List Int) : (keyK ks).map kV = ks.map V.int := by
  unfold keyK; rw [List.map_map]; rfl
theorem keyK_inj {a b : List Int} (h : keyK a = keyK b) : a = b := by
  unfold keyK at h
  exact (List.map_inj_right (fun x y e => Sum.inl.inj e)).mp h
/-- known tells asked, over these rows -/
def Tells (ns : List Str) (tbl : List (List Int)) (known : List Str) (x : Str) : Prop := ∀ u ∈ tbl, ∀ v ∈ tbl, keyR ns known u = keyR ns known v → av ns u x = av ns v x
instance (ns tbl known x) : Decidable (Tells ns tbl known x) := by unfold Tells; exact inferInstance
def spParting (K : PySem.W.Frag) (C : Addr) : Sp := fun vs H Q _ => ∃ (a b : Addr) (ns known : List Str) (x : Str) (tbl : List (List Int)), vs = [.ref a, .ref b, .str x] ∧ TabAt H C a ns tbl ∧ SqA K H b (known.map V.str) ∧ (∀ x ∈ known, x ∈ ns) ∧ known.length < 1000 ∧ x ∈ ns ∧ tbl.length < 1000 ∧
  (Tells ns tbl known x → ∀ H', Same H H' → Q .non H') ∧
  (¬ Tells ns tbl known x → ∀ H' t p q u v, H t = none → H' t = some (.tup [.ref p, .ref q]) → u ∈ tbl → v ∈ tbl → H' p = some (.tup (u.map V.int)) → H' q = some (.tup (v.map V.int)) → keyR ns known u = keyR ns known v → av ns u x ≠ av ns v x → Same H H' → Q (.ref t) H')
abbrev NPa : List Str := ["self", "known", "asked", "places", "place", "first", "row", "key", "k"]
theorem scParting : FnScope NPa ["self", "known", "asked"] (defScope sParting) := ⟨rfl, rfl, rfl, by decide +kernel, rfl, by decide +kernel, by decide +kernel⟩
/-- what the dict of first rows knows behind i rows -/
structure First (ns known : List Str) (x : Str) (ps : List Addr) (tbl : List (List Int)) (i : Nat) (kvs : List (List Key × V)) : Prop where
  has : ∀ (j : Nat) (v : List Int), j < i → tbl[j]? = some v → ∃ (j0 : Nat) (u : List Int), tbl[j0]? = some u ∧ ∃ p : Addr, ps[j0]? = some p ∧ valV kvs (keyK (keyR ns known v)) = some (.ref p) ∧ keyR ns known u = keyR ns known v ∧ av ns u x = av ns v x
  from_ : ∀ (k : List Key) (y : V), valV kvs k = some y → ∃ (j : Nat) (u : List Int) (p : Addr), tbl[j]? = some u ∧ ps[j]? = some p ∧ y = .ref p ∧ k = keyK (keyR ns known u)
  len : kvs.length ≤ i
theorem av_at {ns : List Str} {vs : List Int} {x : Str} (h : x ∈ ns) (hl : vs.length = ns.length) : atI (vs.map V.int) ((idx ns x : Nat) : Int) = some (.int (av ns vs x)) := by
  have lt : idx ns x < ns.length := List.idxOf_lt_length_of_mem h
  refine atI_nat ?_
  rw [List.getElem?_map, List.getElem?_eq_getElem (by omega)]
  unfold av
  rw [List.getD_eq_getElem?_getD, List.getElem?_eq_getElem (by omega)]
  rfl
theorem paired_get {α β : Type} {F : α → β → Prop} {as : List α} {bs : List β} (p : Paired F as bs) : ∀ {i : Nat} {a : α}, as[i]? = some a → ∃ b, bs[i]? = some b ∧ F a b := by
  induction p with
  | nil => intro i a h; simp at h
  | cons h t ih =>
    intro i a e
    cases i with
    | zero =>
      obtain rfl := Option.some.inj e
      exact ⟨_, rfl, h⟩
    | succ i => exact ih (i := i) e
section
variable {P : Program} {w : World} {K : PySem.W.Frag} {mg : Str → Option Value} {base : Heap} {f C fP : Addr} {fd fdP : FuncData}
theorem ok_parting (F : Fun K "_parting_rows" "Table._parting_rows" sParting f fd) (FP : Fun K "_places" "Table._places" sPlaces fP fdP) (mP : Meth K C "_places" fP) (T : TabC K C) (gT : mg "tuple" = none) : FnOk P w K mg base CX0 2 f fd ["self", "known", "asked"] (spParting K C) := by
  have G : FnOk P w K mg base CX0 1 fP fdP ["self", "names"] (spPlaces K C) := ok_places FP T
  have b := FP.binds (ps := ["self", "names"]) fun _ _ _ _ _ _ us hl => match us, hl with | [_, _], _ => rfl
  refine F.ok scParting (fun vs H Q E h => by obtain ⟨a, b, ns, known, x, tbl, e, _⟩ := h; rw [e]; rfl) fun cdv A outer s H vs Q E hr hsp => ?_
  obtain ⟨a, bk, ns, known, x, tbl, rfl, hT, hb, sub, short, xin, shortT, yes, no⟩ := hsp
  have nd := scParting.nd
  have hu := hu_of hr
  refine ⟨_, pss_cons (ps_set (i := 3) nd rfl (Or.inl rfl) (pe_meth (pv 0) T.cl mP G hr b .nil pass0 (pa_cons (pv 1) pa_nil)))
    (pss_cons (ps_set (i := 4) nd rfl (Or.inl rfl) (pe_bm PySem.F.plainAttrs_list PySem.F.slot_list_index PySem.F.type_list_index mt_index (pe_fld (pv 0) rfl) (pa_cons (pv 2) pa_nil)))
    (pss_cons (ps_set (i := 5) nd rfl (Or.inl rfl) pe_dnewT)
    (pss_cons (ps_for PassesOwn.never rfl (pi_seq (pe_fld (pv 0) rfl)) (pg_name (i := 6) nd rfl (Or.inr rfl))
      (pss_cons (ps_set (i := 7) nd rfl (Or.inl rfl) (pe_callTy call_tuple_of rfl gT boot_tuple' (pa_cons (pe_lc (own := [("k", 8)]) (tt := tYes) rfl nd (pi_seq (pv 3)) (blkOk_by (N := NPa) (sc := defScope sParting) (by decide +kernel))
          (fun _ _ _ _ _ => pg_name (i := 8) nd rfl (Or.inl rfl)) (fun _ _ _ _ _ => pts_nil) (fun _ _ _ _ _ => pe_ix (r := rIxT K) ix_tup (pv 6) (pv 8) (fun _ _ => rfl))) pa_nil)))
      (pss_one (ps_if (pt_cmp (pc_dnotin hu (pv 7) (pv 5))) (pss_one (ps_dput hu (pv 5) (pv 7) (pv 6) rfl))
        (pss_one (ps_if (pt_cmpR op_ne (pe_ix ix_tup (pe_dget hu (pv 5) (pv 7) (fun _ _ => rfl)) (pv 4) (fun _ _ => rfl)) (pe_ix ix_tup (pv 6) (pv 4) (fun _ _ => rfl)) (nomark _))
          (pss_one (ps_ret (pe_tup (pa_cons (pe_dget hu (pv 5) (pv 7) (fun _ _ => rfl)) (pa_cons (pv 6) pa_nil))))) pss_nil))))))
    (pss_one (ps_ret pe_non))))), ?_⟩
  obtain ⟨dx, qa, ra, ha, hqa, hra⟩ := hT.ex
  refine ⟨_, rfl, a, dx, _, rfl, ha, rfl, _, rfl, a, bk, ns, known, tbl, rfl, hT, hb, sub, short, fun H1 pl npl opl s1 => ?_⟩
  obtain ⟨i1, i2⟩ := idx_at xin
  refine ⟨_, rfl, _, _, _, _, _, rfl, s1 _ _ ha, T.cl, T.nQ, tabF_q _ _, .inl ⟨rfl, _, SqL.of (s1 _ _ hqa)⟩, _, rfl, qa, _, .str x, idx ns x, .str x, rfl, rfl, SqL.of (s1 _ _ hqa), rfl, flat_strs ns, i1, by rw [str_inj]; simp, i2, ?_⟩
  intro d nd1
  have sd := same_new (o := .dT []) nd1
  obtain ⟨ps, ora, prs⟩ := hra.same s1
  have lps : ps.length = tbl.length := Paired.length prs
  refine ⟨_, rfl, _, _, _, _, _, rfl, sd _ _ (s1 _ _ ha), T.cl, T.nR, tabF_r _ _, for_seq (.inl rfl) (fun i σ H' => H' ra = some (.lst (ps.map V.ref)) ∧ Same H1 H' ∧ ∃ kvs s6 s7 s8, σ = [some (.ref a), some (.ref bk), some (.str x), some (.ref pl), some (.int (idx ns x : Nat)), some (.ref d), s6, s7, s8] ∧ H' d = some (.dT kvs) ∧ First ns known x ps tbl i kvs)
    ⟨sd _ _ ora, sd, [], _, _, _, rfl, upd_same, ⟨fun j v z => absurd z (Nat.not_lt_zero _), fun k y e => by simp [valV] at e, Nat.zero_le _⟩⟩ (fun i σ H' _ h => h.1) ?_ ?_⟩
  · rintro i vp σ H2 evp ⟨ora2, s2, kvs, s6, s7, s8, rfl, od, FS⟩
    rw [List.getElem?_map] at evp
    obtain ⟨p, ep, rfl⟩ := Option.map_eq_some_iff.mp evp
    obtain ⟨v, ev, op, lv⟩ := paired_get prs ep
    have op2 := s2 _ _ op
    have vin : v ∈ tbl := List.mem_of_getElem? ev
    have hi : i < tbl.length := (List.getElem?_eq_some_iff.mp ev).1
    -- the key
    refine ⟨_, rfl, lc_seq (.inl rfl) (s2 _ _ opl) (by rw [List.length_map]; omega) (fun _ => true) (fun y => match y with | .int n => .int (v.getD n.toNat 0) | _ => .non) ?_ ?_⟩
    · rintro j y H3 Cn Nn ey s3 yes3 no3
      rw [List.getElem?_map] at ey
      obtain ⟨z, ez, rfl⟩ := Option.map_eq_some_iff.mp ey
      have zin : z ∈ ns := sub z (List.mem_of_getElem? ez)
      refine ⟨rfl, ?_⟩
      exact ⟨_, rfl, _, rfl, p, _, _, _, rfl, rfl, SqT.of (s3 _ _ op2), av_at zin lv, yes3 rfl H3 (Same.refl _)⟩
    · intro H3 l nl ol s3
      have ekey : ((known.map fun x => V.int (idx ns x : Nat)).filter fun _ => true).map (fun y => match y with | V.int n => V.int (v.getD n.toNat 0) | _ => V.non) = (keyK (keyR ns known v)).map kV := by
        rw [keyK_kV, List.filter_eq_self.mpr (fun _ _ => rfl), List.map_map]
        unfold keyR
        rw [List.map_map]
        rfl
      rw [ekey] at ol
      refine ⟨l, _, rfl, .inl ⟨SqL.of ol, fun kt nkt => ?_⟩⟩
      have sk := same_new (o := .tup ((keyK (keyR ns known v)).map kV)) nkt
      have ok3 : upd H3 kt (.tup ((keyK (keyR ns known v)).map kV)) kt = some (.tup ((keyK (keyR ns known v)).map kV)) := upd_same
      generalize upd H3 kt (.tup ((keyK (keyR ns known v)).map kV)) = H4 at sk ok3
      have s24 := s3.trans sk
      have od4 := s24 _ _ od
      have op4 := s24 _ _ op2
      have ndk : ∀ {u o}, H1 u = some o → u ≠ d := fun e => ne_of_none e nd1
      refine ⟨_, rfl, _, rfl, d, _, rfl, DGet.t od4 ok3, _, rfl, ?_⟩
      cases ek : valV kvs (keyK (keyR ns known v)) with
      | none =>
        refine iteT ?_
        refine ⟨_, rfl, _, rfl, _, rfl, d, _, rfl, DPut.t od4 ok3 (by rw [sizeLine_eq]; have := FS.len; omega), ?_, ?_, putK kvs (keyK (keyR ns known v)) (.ref p), _, _, _, rfl, upd_same, ?_⟩
        · rw [upd_ne (ndk ora)]; exact s24 _ _ ora2
        · intro b' u' e
          rw [upd_ne (ndk e)]; exact s24 _ _ (s2 _ _ e)
        · refine ⟨fun j v' hj ev' => ?_, fun k y e => ?_, ?_⟩
          · by_cases hji : j = i
            · subst hji
              rw [ev] at ev'
              obtain rfl := Option.some.inj ev'
              exact ⟨j, v, ev, p, ep, by rw [valV_put, if_pos rfl], rfl, rfl⟩
            · obtain ⟨j0, u, eu, p0, ep0, e0, k0, a0⟩ := FS.has j v' (by omega) ev'
              refine ⟨j0, u, eu, p0, ep0, ?_, k0, a0⟩
              rw [valV_put, if_neg, e0]
              intro z
              rw [z, ek] at e0; cases e0
          · rw [valV_put] at e
            by_cases hk : k = keyK (keyR ns known v)
            · rw [if_pos hk] at e
              obtain rfl := Option.some.inj e
              exact ⟨i, v, p, ev, ep, rfl, hk⟩
            · rw [if_neg hk] at e
              exact FS.from_ k y e
          · rw [putK_new _ ek, List.length_append]
            have := FS.len
            show kvs.length + 1 ≤ _
            omega
      | some y =>
        refine iteF ?_
        obtain ⟨j0, u, p0, eu, ep0, rfl, ek0⟩ := FS.from_ _ _ ek
        have ek1 : keyR ns known u = keyR ns known v := (keyK_inj ek0).symm
        obtain ⟨u', eu', op0, lu⟩ := paired_get prs ep0
        rw [eu] at eu'
        obtain rfl := Option.some.inj eu'
        have op04 := s24 _ _ (s2 _ _ op0)
        have uin : u ∈ tbl := List.mem_of_getElem? eu
        have dg : DGet H4 d (.ref kt) (some (.ref p0)) := ek ▸ DGet.t od4 ok3
        refine ⟨_, rfl, _, rfl, d, _, rfl, dg, _, rfl, p0, _, _, _, rfl, rfl, SqT.of op04, av_at xin lu, _, rfl, _, rfl, p, _, _, _, rfl, rfl, SqT.of op4, av_at xin lv, rfl, _, rfl, ite2 (fun e => ?_) (fun e => ?_)⟩
        · refine ⟨_, rfl, _, rfl, d, _, rfl, dg, _, rfl, (by show 2 ≤ sizeLine; decide), fun t nt => ?_⟩
          have st := same_new (o := .tup [.ref p0, .ref p]) nt
          have s14 : Same H1 H4 := s2.trans s24
          have nt0 : H t = none := (s1.trans s14).free nt
          refine no (fun T => ?_) _ t p0 p u v nt0 upd_same uin vin (st _ _ op04) (st _ _ op4) ek1 ?_ ((s1.trans s14).trans st)
          · rw [T u uin v vin ek1, decide_eq_true rfl] at e
            cases e
          · intro z
            rw [z, decide_eq_true rfl] at e
            cases e
        · refine ⟨s24 _ _ ora2, s2.trans s24, kvs, _, _, _, rfl, od4, ?_⟩
          refine ⟨fun j v' hj ev' => ?_, FS.from_, Nat.le_succ_of_le FS.len⟩
          by_cases hji : j = i
          · subst hji
            rw [ev] at ev'
            obtain rfl := Option.some.inj ev'
            refine ⟨j0, u, eu, p0, ep0, ek, ek1, ?_⟩
            by_cases z : av ns u x = av ns v x
            · exact z
            · have z2 : ¬ V.int (av ns u x) = V.int (av ns v x) := fun y => z (V.int.inj y)
              rw [decide_eq_false z2] at e
              exact absurd rfl e
          · exact FS.has j v' (by omega) ev'
  · rintro σ H2 ⟨ora2, s2, kvs, s6, s7, s8, rfl, od, FS⟩
    refine yes (fun u hu v hv e => ?_) _ (s1.trans s2)
    obtain ⟨j, hj, eu⟩ := List.getElem_of_mem hu
    obtain ⟨j', hj', ev⟩ := List.getElem_of_mem hv
    have lt : ∀ n, n < tbl.length → n < (ps.map V.ref).length := fun n h => by rw [List.length_map]; omega
    obtain ⟨j0, u0, eu0, p0, ep0, w0, k0, a0⟩ := FS.has j u (lt _ hj) (by rw [List.getElem?_eq_getElem hj, eu])
    obtain ⟨j1, u1, eu1, p1, ep1, w1, k1, a1⟩ := FS.has j' v (lt _ hj') (by rw [List.getElem?_eq_getElem hj', ev])
    rw [e, w1] at w0
    have ep : p1 = p0 := V.ref.inj (Option.some.inj w0)
    subst ep
    obtain ⟨x0, ex0, o0, _⟩ := paired_get prs ep0
    obtain ⟨x1, ex1, o1, _⟩ := paired_get prs ep1
    rw [eu0] at ex0
    rw [eu1] at ex1
    obtain rfl := Option.some.inj ex0
    obtain rfl := Option.some.inj ex1
    rw [o0] at o1
    have same : u0.map V.int = u1.map V.int := HO.tup.inj (Option.some.inj o1)
    have same2 : u0 = u1 := (List.map_inj_right (fun x y e => V.int.inj e)).mp same
    rw [← a0, ← a1, same2]
end
end L2.TB
namespace L2.TB
open PySem PySem.Spec PyProof.Rows
/-! what is told -/
/-- the places of the table's methods -/
structure TabM (K : PySem.W.Frag) (C fQ fI fPl fPr : Addr) : Prop extends TabC K C where
  Q : ∃ fd, Fun K "questions" "Table.questions" sQs fQ fd
  I : ∃ fd, Fun K "is_told" "Table.is_told" sIsTold fI fd
  L : ∃ fd, Fun K "_places" "Table._places" sPlaces fPl fd
  R : ∃ fd, Fun K "_parting_rows" "Table._parting_rows" sParting fPr fd
  mQ : Meth K C "questions" fQ
  mI : Meth K C "is_told" fI
  mL : Meth K C "_places" fPl
  mR : Meth K C "_parting_rows" fPr
/-- a table and known ones of it -/
structure Asked (K : PySem.W.Frag) (H : Hp) (C a b : Addr) (ns known : List Str) (tbl : List (List Int)) : Prop where
  t : TabAt H C a ns tbl
  k : SqA K H b (known.map V.str)
  nd : known.Nodup
  sub : ∀ x ∈ known, x ∈ ns
  s1 : ns.length < 1000
  s2 : tbl.length < 1000
  ndn : ns.Nodup
theorem Asked.short {K : PySem.W.Frag} {H : Hp} {C a b : Addr} {ns known : List Str} {tbl : List (List Int)} (h : Asked K H C a b ns known tbl) : known.length < 1000 := by
  have := List.Nodup.length_le_of_subset h.nd (fun x hx => h.sub x hx)
  have := h.s1
  omega
theorem Asked.same {K : PySem.W.Frag} {H H' : Hp} {C a b : Addr} {ns known : List Str} {tbl : List (List Int)} (h : Asked K H C a b ns known tbl) (s : Same H H') : Asked K H' C a b ns known tbl :=
  ⟨h.t.same s, h.k.same s, h.nd, h.sub, h.s1, h.s2, h.ndn⟩
def spIsTold (K : PySem.W.Frag) (C : Addr) : Sp := fun vs H Q _ => ∃ (a b : Addr) (ns known : List Str) (x : Str) (tbl : List (List Int)), vs = [.ref a, .ref b, .str x] ∧ Asked K H C a b ns known tbl ∧ x ∈ ns ∧ ∀ H', Same H H' → Q (.bl (decide (Tells ns tbl known x))) H'
def toldL (ns : List Str) (tbl : List (List Int)) (known : List Str) : List Str := ns.filter fun x => decide (Tells ns tbl known x)
theorem scIsTold : FnScope ["self", "known", "asked"] ["self", "known", "asked"] (defScope sIsTold) := ⟨rfl, rfl, rfl, by decide +kernel, rfl, by decide +kernel, by decide +kernel⟩
def isStr (f : Str → Bool) : V → Bool
  | .str x => f x
  | _ => false
theorem filter_strs (f : Str → Bool) (xs : List Str) : ((xs.map V.str).filter (isStr f)).map id = (xs.filter f).map V.str := by
  rw [List.map_id, List.filter_map]; rfl
section
variable {P : Program} {w : World} {K : PySem.W.Frag} {mg : Str → Option Value} {base : Heap} {f C fQ fI fPl fPr aF aL aO aK aA aB : Addr} {fd : FuncData}
theorem ok_isTold (F : Fun K "is_told" "Table.is_told" sIsTold f fd) (T : TabM K C fQ fI fPl fPr) (Ck : Chk K mg aF aL aO aK aA aB) : FnOk P w K mg base CX0 5 f fd ["self", "known", "asked"] (spIsTold K C) := by
  obtain ⟨fdB, FB⟩ := Ck.CB
  have GB := ok_ckB (P := P) (w := w) (base := base) Ck FB
  have bB := FB.binds (ps := ["names", "known", "asked"]) fun _ _ _ _ _ _ us hl => match us, hl with | [_, _, _], _ => rfl
  obtain ⟨fdL, FL⟩ := T.L
  obtain ⟨fdR, FR⟩ := T.R
  have GR := ok_parting (P := P) (w := w) (mg := mg) (base := base) FR FL T.mL T.toTabC Ck.nT
  have bR := FR.binds (ps := ["self", "known", "asked"]) fun _ _ _ _ _ _ us hl => match us, hl with | [_, _, _], _ => rfl
  refine F.ok scIsTold (fun vs H Q E h => by obtain ⟨a, b, ns, known, x, tbl, e, _⟩ := h; rw [e]; rfl) fun cdv A outer s H vs Q E hr hsp => ?_
  obtain ⟨a, b, ns, known, x, tbl, rfl, ask, xin, hq⟩ := hsp
  refine ⟨_, pss_cons (ps_expr (pe_call GB hr rfl Ck.gCB FB.kp bB .nil pass0 (pa_cons (pe_fld (pv 0) rfl) (pa_cons (pv 1) (pa_cons (pv 2) pa_nil)))))
    (pss_one (ps_ret (pe_cmp (pc_isN (pe_meth (pv 0) T.cl T.mR GR (hr.mono (by decide)) bR .nil pass0 (pa_cons (pv 1) (pa_cons (pv 2) pa_nil))))))), ?_⟩
  obtain ⟨dx, qa, ra, ha, hqa, hra⟩ := ask.t.ex
  refine ⟨_, rfl, _, _, _, _, _, rfl, ha, T.cl, T.nQ, tabF_q _ _, _, rfl, _, rfl, qa, b, ns, known, x, rfl, hqa, ask.k, ask.nd, ask.sub, ask.short, xin, fun H1 s1 => ?_⟩
  refine ⟨_, rfl, a, dx, _, rfl, s1 _ _ ha, rfl, _, rfl, _, rfl, a, b, ns, known, x, tbl, rfl, ask.t.same s1, ask.k.same s1, ask.sub, ask.short, xin, ask.s2, fun yes H' s' => ?_, fun no H' t p q u v _ _ _ _ _ _ _ _ s' => ?_⟩
  · have z := hq H' (s1.trans s')
    rw [decide_eq_true yes] at z
    exact z
  · have z := hq H' (s1.trans s')
    rw [decide_eq_false no] at z
    exact z
end
end L2.TB
namespace L2.TB
open PySem PySem.Spec PyProof.Rows
theorem boot_all' : bootBuiltins "all" = some (.builtin "all") := by decide +kernel
/-- a comprehension without a test over anything: ys is what it makes -/
theorem lc_gen {J : It} {g : TG} {tt : TT} {te : TE} {vs : List Nat} {σ : St} {H1 : Hp} {Q : Addr → Hp → Prop} (ys : List V) (short : ys.length < 1000000) (go : ∀ i H, Same H1 H → i < ys.length → J.go i H) (stop : ∀ H, Same H1 H → J.stop ys.length H)
    (turn : ∀ (i : Nat) (x y : V) (H H' : Hp) (C : V → Hp → Prop) (N : Hp → Prop), ys[i]? = some y → Same H1 H → J.yld i H x H' → (∀ H4, Same H H4 → C y H4) → g x (wipe σ vs) H' fun σ2 H2 => wipe σ2 vs = wipe σ vs ∧ tt σ2 H2 fun b H3 => if b = true then te σ2 H3 C else N H3)
    (fin : ∀ H D, H1 D = none → H D = some (.lst ys) → Same H1 H → Q D H) : LcW J g tt te vs σ H1 Q := by
  intro D nD
  refine ⟨fun i m H => m = ys.length - i ∧ i ≤ ys.length ∧ H D = some (.lst (ys.take i)) ∧ Same H1 H, ⟨_, rfl, Nat.zero_le _, upd_same, same_new nD⟩, ?_⟩
  rintro i m H ⟨rfl, le, oD, s1⟩
  by_cases lt : i < ys.length
  · refine .inr ⟨go i H s1 lt, fun H' => H' D = some (.lst (ys.take (i + 1))) ∧ Same H1 H', fun H' h => ⟨ys.length - (i + 1), by omega, rfl, lt, h⟩, fun x H' yl => ?_⟩
    have ey : ys[i]? = some ys[i] := List.getElem?_eq_getElem lt
    refine turn i x ys[i] H H' _ _ ey s1 yl fun H4 s4 => ⟨_, s4 _ _ oD, ?_, ?_, ?_⟩
    · rw [sizeLine_eq, List.length_take]; omega
    · rw [upd_same, List.take_succ, ey]; rfl
    · intro b u e
      rw [upd_ne (ne_of_none e nD)]
      exact s4 _ _ (s1 _ _ e)
  · obtain rfl : i = ys.length := by omega
    rw [List.take_length] at oD
    exact .inl ⟨stop H s1, fin H D nD oD s1⟩
def bools (n : Nat) : List V := List.replicate n (V.bl true)
theorem bools_map (n : Nat) : bools n = (List.replicate n true).map V.bl := by unfold bools; rw [List.map_replicate]
theorem bools_at {n i : Nat} {y : V} (h : (bools n)[i]? = some y) : y = .bl true ∧ i < n := by
  unfold bools at h
  rw [List.getElem?_replicate] at h
  split at h
  · exact ⟨(Option.some.inj h).symm, by assumption⟩
  · cases h
theorem bools_len (n : Nat) : (bools n).length = n := List.length_replicate
theorem all_true (n : Nat) : (List.replicate n true).all id = true := by simp
def spIsName : Sp := fun vs H Q _ => ∃ x : Str, vs = [.str x] ∧ NmOk x ∧ ∀ H', Same H H' → Q (.bl true) H'
abbrev NIn : List Str := ["thing", "sign"]
theorem scIsName : FnScope NIn ["thing"] (defScope sIsName) := ⟨rfl, rfl, rfl, by decide +kernel, rfl, by decide +kernel, by decide +kernel⟩
/-- a dict has just these names, all true -/
def spHasJust : Sp := fun vs H Q _ => ∃ (d c : Addr) (kvs : List (Key × V)) (ns : List Str), vs = [.ref d, .ref c] ∧ H d = some (.dK kvs) ∧ H c = some (.lst (ns.map V.str)) ∧ kvs.map (·.1) = ns.map Sum.inr ∧ ns.length < 1000 ∧ ∀ H', Same H H' → Q (.bl true) H'
abbrev NHj : List Str := ["thing", "names", "name"]
theorem scHasJust : FnScope NHj ["thing", "names"] (defScope sHasJust) := ⟨rfl, rfl, rfl, by decide +kernel, rfl, by decide +kernel, by decide +kernel⟩
section
variable {P : Program} {w : World} {K : PySem.W.Frag} {mg : Str → Option Value} {base : Heap} {f : Addr} {fd : FuncData}
theorem ok_isName (F : Fun K "is_name" "is_name" sIsName f fd) (gI : mg "isinstance" = none) (gS : mg "str" = none) (gN : mg "len" = none) (gA : mg "all" = none) (gL : ∃ t, mg "LONGEST" = some (.int 40 t)) (gSg : ∃ t, mg "SIGNS" = some (.str (Str.ofString "abcdefghijklmnopqrstuvwxyz0123456789.") t)) :
    FnOk P w K mg base CX0 1 f fd ["thing"] spIsName := by
  obtain ⟨tL, gL⟩ := gL
  obtain ⟨tS, gSg⟩ := gSg
  refine F.ok scIsName (fun vs H Q E h => by obtain ⟨x, e, _⟩ := h; rw [e]; rfl) fun cdv A outer s H vs Q E hr hsp => ?_
  obtain ⟨x, rfl, ok, hq⟩ := hsp
  obtain ⟨l1, l2, chars⟩ := ok
  have nd := scIsName.nd
  refine ⟨_, pss_cons (ps_if (PW.pt (pw_or (pt_not (pt_val (pe_callB (r := rIsi K) call_isi rfl gI boot_isi (pa_cons (pv 0) (pa_cons (pe_bltn (v := .ty "str") rfl gS boot_str' rfl) pa_nil)))))
      (pw_or1 (pt_not (pt_chain op_le op_le pe_int (pe_callB call_len_str rfl gN boot_len (pa_cons (pv 0) pa_nil)) (pe_glob (v := .int 40) rfl gL ⟨_, rfl⟩)))))) (pss_one ps_never) pss_nil)
    (pss_one (ps_ret (pe_callB (cr_all rfl) rfl gA boot_all' (pa_cons (pe_lc (own := [("sign", 1)]) (tt := tYes) rfl nd (pi_str (pv 0)) (blkOk_by (N := NIn) (sc := defScope sIsName) (by decide +kernel)) (fun _ _ _ _ _ => pg_name (i := 1) nd rfl (Or.inl rfl)) (fun _ _ _ _ _ => pts_nil)
      (fun _ _ _ _ _ => pe_cmpR op_in_sign (pv 1) (pe_glob (v := .str (Str.ofString "abcdefghijklmnopqrstuvwxyz0123456789.")) rfl gSg ⟨_, rfl⟩) rfl)) pa_nil)))), ?_⟩
  have lz : x.length = x.cps.toList.length := (Array.length_toList (xs := x.cps)).symm
  refine ⟨_, rfl, _, _, _, _, true, rfl, .ty _, .base (.str x), kit_ty (by decide +kernel), _, rfl, iteF ?_⟩
  refine ⟨_, rfl, x, rfl, (by rw [sizeLine_eq]; omega), _, _, rfl, rfl, _, rfl, ?_⟩
  rw [decide_eq_true (by omega : (1 : Int) ≤ (x.length : Nat))]
  refine iteT ⟨_, _, rfl, rfl, _, rfl, ?_⟩
  rw [decide_eq_true (by omega : ((x.length : Nat) : Int) ≤ 40)]
  refine iteF ?_
  refine ⟨_, rfl, x, rfl, lc_gen (bools x.cps.toList.length) (by rw [bools_len]; omega) (fun i H' _ lt => ?_) (fun H' _ => ?_) ?_ ?_⟩
  · rw [bools_len, Array.length_toList] at lt; exact lt
  · rw [bools_len, Array.length_toList]; exact Nat.le_refl _
  · rintro i v y H2 H3 Cn Nn ey s2 ⟨rfl, c, ec, rfl⟩ yes
    obtain ⟨rfl, lt⟩ := bools_at ey
    have cin : c ∈ signsL := chars c (List.mem_of_getElem? (by rw [Array.getElem?_toList]; exact ec))
    refine ⟨rfl, ?_⟩
    refine ⟨_, rfl, c, _, rfl, rfl, ?_⟩
    have z := yes H3 (Same.refl _)
    have e : decide (c ∈ (Str.ofString "abcdefghijklmnopqrstuvwxyz0123456789.").cps.toList) = true := decide_eq_true cin
    rw [e]
    exact z
  · intro H2 D nD oD s2
    rw [bools_map] at oD
    refine ⟨D, _, rfl, SqL.of oD, ?_⟩
    rw [all_true]
    exact hq H2 s2
end
end L2.TB
namespace L2.TB
open PySem PySem.Spec PyProof.Rows
theorem has_key {kvs : List (Key × V)} {ns : List Str} {x : Str} (h : kvs.map (·.1) = ns.map Sum.inr) (xin : x ∈ ns) : ∃ v, valV kvs (Sum.inr x) = some v := by
  have z : (Sum.inr x : Key) ∈ kvs.map (·.1) := by rw [h]; exact List.mem_map_of_mem xin
  obtain ⟨e, he, ee⟩ := List.mem_map.mp z
  have a : (kvs.any fun kv => decide (kv.1 = Sum.inr x)) = true := List.any_eq_true.mpr ⟨e, he, decide_eq_true ee⟩
  rw [valV_any] at a
  exact Option.isSome_iff_exists.mp a
theorem const_map (xs : List Str) : ((xs.map V.str).filter fun _ => true).map (fun _ => V.bl true) = bools xs.length := by
  rw [List.filter_eq_self.mpr (fun _ _ => rfl), List.map_map]
  unfold bools
  induction xs with
  | nil => rfl
  | cons a l ih => rw [List.map_cons, ih, List.length_cons, List.replicate_succ]; rfl
theorem dec_int2 (a b : Int) : decide (V.int a = V.int b) = decide (a = b) := by
  by_cases h : a = b
  · rw [h]; simp
  · rw [decide_eq_false h, decide_eq_false]
    exact fun z => h (V.int.inj z)
/-- dict rows of ints at as -/
def DRows (H : Hp) (ns : List Str) : List Addr → List (List Int) → Prop := Paired fun a vs => H a = some (.dK (dk ns vs)) ∧ vs.length = ns.length
theorem DRows.same {H H' : Hp} {ns : List Str} {as : List Addr} {tbl : List (List Int)} (r : DRows H ns as tbl) (s : Same H H') : DRows H' ns as tbl := Paired.mapP r fun a vs h => ⟨s _ _ h.1, h.2⟩
def spBadRow : Sp := fun vs H Q _ => ∃ (r : Addr) (as : List Addr) (ns : List Str) (tbl : List (List Int)), vs = [.ref r] ∧ H r = some (.lst (as.map V.ref)) ∧ DRows H ns as tbl ∧ tbl ≠ [] ∧ tbl.length < 1000 ∧ ns ≠ [] ∧ ns.Nodup ∧ (∀ x ∈ ns, NmOk x) ∧ ns.length < 1000 ∧ ∀ H', Same H H' → Q .non H'
abbrev NB : List Str := ["rows", "index", "row", "name"]
theorem scBadRow : FnScope NB ["rows"] (defScope sBadRow) := ⟨rfl, rfl, rfl, by decide +kernel, rfl, by decide +kernel, by decide +kernel⟩
theorem lock_off {H H' : Hp} {d : Addr} {u : HO} {od : Obj} (hd : H d = some u) (s : Same (upd H d (.frz od u)) H') : H' d = some (.frz od u) ∧ Same H (upd H' d u) := by
  refine ⟨s _ _ upd_same, fun b o e => ?_⟩
  by_cases hb : b = d
  · rw [hb, upd_same, ← hd, ← hb]; exact e
  · rw [upd_ne hb]
    exact s _ _ (by rw [upd_ne hb]; exact e)
theorem dk_at {ns : List Str} {vs : List Int} {i : Nat} {k : Key} {v : V} (h : (dk ns vs)[i]? = some (k, v)) (nd : ns.Nodup) (hl : ns.length = vs.length) : ∃ x n, k = Sum.inr x ∧ v = .int n ∧ ns[i]? = some x ∧ valV (dk ns vs) (Sum.inr x) = some (.int n) := by
  unfold dk at h ⊢
  rw [List.getElem?_map] at h
  obtain ⟨p, ep, e⟩ := Option.map_eq_some_iff.mp h
  cases e
  have ez : (ns.zip vs)[i]? = some p := ep
  rw [List.getElem?_zip_eq_some] at ez
  refine ⟨p.1, p.2, rfl, rfl, ez.1, ?_⟩
  have nk : (((ns.zip vs).map fun p : Str × Int => ((Sum.inr p.1 : Key), V.int p.2)).map (·.1)).Nodup := dk_nd hl nd
  have mem : ((Sum.inr p.1 : Key), V.int p.2) ∈ (ns.zip vs).map fun p : Str × Int => ((Sum.inr p.1 : Key), V.int p.2) := List.mem_map_of_mem (List.mem_of_getElem? ep)
  generalize (ns.zip vs).map (fun p : Str × Int => ((Sum.inr p.1 : Key), V.int p.2)) = kvs at nk mem
  clear h ez ep
  induction kvs with
  | nil => cases mem
  | cons q kvs ih =>
    unfold valV
    rw [List.find?_cons]
    by_cases hq : q.1 = Sum.inr p.1
    · rw [decide_eq_true hq]
      rcases List.mem_cons.mp mem with z | z
      · rw [← z]; rfl
      · exfalso
        rw [List.map_cons, List.nodup_cons] at nk
        exact nk.1 (hq ▸ List.mem_map_of_mem (f := (·.1)) z)
    · rw [decide_eq_false hq]
      rcases List.mem_cons.mp mem with z | z
      · exact absurd (by rw [← z]) hq
      · rw [List.map_cons, List.nodup_cons] at nk
        exact ih nk.2 z
section
variable {P : Program} {w : World} {K : PySem.W.Frag} {mg : Str → Option Value} {base : Heap} {f fL fI fN fH : Addr} {fd fdL fdI fdN fdH : FuncData}
theorem ok_hasJust (F : Fun K "has_just" "has_just" sHasJust f fd) (gI : mg "isinstance" = none) (gD : mg "dict" = none) (gN : mg "len" = none) (gA : mg "all" = none) : FnOk P w K mg base CX0 1 f fd ["thing", "names"] spHasJust := by
  refine F.ok scHasJust (fun vs H Q E h => by obtain ⟨d, c, kvs, ns, e, _⟩ := h; rw [e]; rfl) fun cdv A outer s H vs Q E hr hsp => ?_
  obtain ⟨d, c, kvs, ns, rfl, hd, hc, hk, short, hq⟩ := hsp
  have nd := scHasJust.nd
  have hu := hu_of hr
  refine ⟨_, pss_one (ps_ret (pe_and (pe_callB (r := rIsi K) call_isi rfl gI boot_isi (pa_cons (pv 0) (pa_cons (pe_bltn (v := .ty "dict") rfl gD boot_dict' rfl) pa_nil))) (pe_and (pe_cmpR op_eq (pe_callB call_lenD rfl gN boot_len (pa_cons (pv 0) pa_nil)) (pe_callB call_len_seq rfl gN boot_len (pa_cons (pv 1) pa_nil)) (nomark _))
    (pe_one (pe_callB (cr_all rfl) rfl gA boot_all' (pa_cons (pe_lc (own := [("name", 2)]) (tt := tYes) rfl nd (pi_seq (pv 1)) (blkOk_by (N := NHj) (sc := defScope sHasJust) (by decide +kernel)) (fun _ _ _ _ _ => pg_name (i := 2) nd rfl (Or.inl rfl)) (fun _ _ _ _ _ => pts_nil)
      (fun _ _ _ _ _ => pe_cmp (pc_din hu (pv 2) (pv 0)))) pa_nil)))))), ?_⟩
  have lk : kvs.length = ns.length := by
    have z := congrArg List.length hk
    rw [List.length_map, List.length_map] at z
    exact z
  refine ⟨_, rfl, _, _, _, _, true, rfl, .ty _, .base (.dK hd), kit_ty (by decide +kernel), _, rfl, iteT ?_⟩
  refine ⟨_, rfl, d, kvs, rfl, hd, _, rfl, c, _, rfl, .inl (SqL.of hc), rfl, _, rfl, ?_⟩
  rw [dec_int2, List.length_map, lk, decide_eq_true rfl]
  refine iteT ⟨_, rfl, lc_seq (.inl rfl) hc (by rw [List.length_map]; omega) (fun _ => true) (fun _ => .bl true) ?_ ?_⟩
  · rintro i v H2 Cn Nn ev s2 yes no
    rw [List.getElem?_map] at ev
    obtain ⟨x, ex, rfl⟩ := Option.map_eq_some_iff.mp ev
    obtain ⟨y, ey⟩ := has_key hk (List.mem_of_getElem? ex)
    refine ⟨rfl, ?_⟩
    refine ⟨_, rfl, _, rfl, d, _, rfl, DGet.k (k := Sum.inr x) (s2 _ _ hd), ?_⟩
    rw [ey]
    exact yes rfl H2 (Same.refl _)
  · intro H2 D nD oD s2
    rw [const_map, bools_map] at oD
    refine ⟨D, _, rfl, SqL.of oD, ?_⟩
    rw [all_true]
    exact hq H2 s2
theorem ok_badRow (F : Fun K "_first_bad_row" "_first_bad_row" sBadRow f fd) (FL : Fun K "is_list" "is_list" sIsList fL fdL) (gIL : mg "is_list" = some (.ref fL)) (FI : Fun K "is_integer" "is_integer" sIsInt fI fdI) (gII : mg "is_integer" = some (.ref fI))
    (FN : Fun K "is_name" "is_name" sIsName fN fdN) (gIN : mg "is_name" = some (.ref fN)) (FH : Fun K "has_just" "has_just" sHasJust fH fdH) (gHJ : mg "has_just" = some (.ref fH))
    (gI : mg "isinstance" = none) (gL : mg "list" = none) (gT : mg "tuple" = none) (gS : mg "str" = none) (gE : mg "enumerate" = none) (gN : mg "len" = none) (gA : mg "all" = none) (gD : mg "dict" = none) (gInt : mg "int" = none) (gB : mg "bool" = none)
    (gLo : ∃ t, mg "LONGEST" = some (.int 40 t)) (gSg : ∃ t, mg "SIGNS" = some (.str (Str.ofString "abcdefghijklmnopqrstuvwxyz0123456789.") t)) : FnOk P w K mg base CX0 2 f fd ["rows"] spBadRow := by
  have GL : FnOk P w K mg base CX0 1 fL fdL ["thing"] (spIsList K) := ok_isList FL gI gL gT
  have bL := FL.binds (ps := ["thing"]) fun _ _ _ _ _ _ us hl => match us, hl with | [_], _ => rfl
  have GI : FnOk P w K mg base CX0 1 fI fdI ["thing"] spIsInt := ok_isInt FI gI gInt gB
  have bI := FI.binds (ps := ["thing"]) fun _ _ _ _ _ _ us hl => match us, hl with | [_], _ => rfl
  have GN : FnOk P w K mg base CX0 1 fN fdN ["thing"] spIsName := ok_isName FN gI gS gN gA gLo gSg
  have bN := FN.binds (ps := ["thing"]) fun _ _ _ _ _ _ us hl => match us, hl with | [_], _ => rfl
  have GH : FnOk P w K mg base CX0 1 fH fdH ["thing", "names"] spHasJust := ok_hasJust FH gI gD gN gA
  have bH := FH.binds (ps := ["thing", "names"]) fun _ _ _ _ _ _ us hl => match us, hl with | [_, _], _ => rfl
  refine F.ok scBadRow (fun vs H Q E h => by obtain ⟨r, as, ns, tbl, e, _⟩ := h; rw [e]; rfl) fun cdv A outer s H vs Q E hr hsp => ?_
  obtain ⟨r, as, ns, tbl, rfl, hrr, rows, tne, tsh, nne, nnd, nok, nsh, hq⟩ := hsp
  have nd := scBadRow.nd
  have hu := hu_of hr
  refine ⟨_, pss_cons (ps_if (PW.pt (pw_or (pt_not (pt_val (pe_call GL hr rfl gIL FL.kp bL .nil pass0 (pa_cons (pv 0) pa_nil)))) (pw_or1 (pt_cmpR op_eq (pe_callB call_len_seq rfl gN boot_len (pa_cons (pv 0) pa_nil)) pe_int (nomark _))))) (pss_one ps_never) pss_nil)
    (pss_cons (ps_for PassesOwn.never rfl (pi_enumS rfl gE (pa_cons (pv 0) pa_nil)) (pg_tup rfl (pgs_cons (pg_name (i := 1) nd rfl (Or.inl rfl)) (pgs_cons (pg_name (i := 2) nd rfl (Or.inr rfl)) pgs_nil)))
      (pss_cons (ps_if (PW.pt (pw_or (pt_not (pt_val (pe_callB (r := rIsi K) call_isi rfl gI boot_isi (pa_cons (pv 2) (pa_cons (pe_bltn (v := .ty "dict") rfl gD boot_dict' rfl) pa_nil)))))
          (pw_or (pt_cmpR op_eq (pe_callB call_lenD rfl gN boot_len (pa_cons (pv 2) pa_nil)) pe_int (nomark _))
          (pw_or1 (pt_not (pt_val (pe_callB (cr_all rfl) rfl gA boot_all' (pa_cons (pe_lock (pe_lc (own := [("name", 3)]) (tt := tYes) rfl nd (pi_keys (pv 2)) (blkOk_by (N := NB) (sc := defScope sBadRow) (by decide +kernel)) (fun _ _ _ _ _ => pg_name (i := 3) nd rfl (Or.inl rfl)) (fun _ _ _ _ _ => pts_nil)
            (fun _ _ _ _ _ => pe_call GI hr rfl gII FI.kp bI .nil pass0 (pa_cons (pe_dget hu (pv 2) (pv 3) (fun _ _ => rfl)) pa_nil)))) pa_nil)))))))) (pss_one ps_never) pss_nil)
      (pss_one (ps_if (PW.pt (pw_or (pt_not (pt_val (pe_callB (cr_all rfl) rfl gA boot_all' (pa_cons (pe_lock (pe_lc (own := [("name", 3)]) (tt := tYes) rfl nd (pi_keys (pv 2)) (blkOk_by (N := NB) (sc := defScope sBadRow) (by decide +kernel)) (fun _ _ _ _ _ => pg_name (i := 3) nd rfl (Or.inl rfl)) (fun _ _ _ _ _ => pts_nil)
            (fun _ _ _ _ _ => pe_call GN hr rfl gIN FN.kp bN .nil pass0 (pa_cons (pv 3) pa_nil)))) pa_nil))))
          (pw_or1 (pt_not (pt_val (pe_call GH hr rfl gHJ FH.kp bH .nil pass0 (pa_cons (pv 2) (pa_cons (pe_callTy (call_listD rfl) rfl gL boot_list' (pa_cons (pe_ix ix_list (pv 0) pe_int (fun _ _ => rfl)) pa_nil)) pa_nil)))))))) (pss_one ps_never) pss_nil))))
    (pss_one (ps_ret pe_non))), ?_⟩
  have las : as.length = tbl.length := Paired.length rows
  have pos : 0 < tbl.length := List.length_pos_iff.mpr tne
  have npos : 0 < ns.length := List.length_pos_iff.mpr nne
  refine ⟨_, rfl, r, _, rfl, .inl hrr, fun H1 k1 => ⟨_, rfl, iteF ?_⟩⟩
  refine ⟨_, rfl, r, _, rfl, .inl (SqL.of (k1 _ _ hrr)), rfl, _, rfl, ?_⟩
  rw [dec_int2, List.length_map, decide_eq_false (by omega : ¬ ((as.length : Nat) : Int) = 0)]
  refine iteF ?_
  refine ⟨_, rfl, enum_seq (.inl rfl) (fun i σ H' => Same H1 H' ∧ ∃ s1 s2 s3, σ = [some (.ref r), s1, s2, s3]) ⟨Same.refl _, _, _, _, rfl⟩ (fun i σ H' _ h => h.1 _ _ (k1 _ _ hrr)) ?_ ?_⟩
  · rintro i v σ H2 T ev ⟨s2, s1', s2', s3', rfl⟩ nT
    rw [List.getElem?_map] at ev
    obtain ⟨a, ea, rfl⟩ := Option.map_eq_some_iff.mp ev
    have sT := (k1.trans s2).trans (same_new (o := .tup [.int (i : Nat), .ref a]) nT)
    refine ⟨T, _, rfl, SqT.of upd_same, rfl, _, _, rfl, _, _, rfl, rfl, ?_⟩
    have s2T := s2.trans (same_new (o := .tup [.int (i : Nat), .ref a]) nT)
    generalize upd H2 T (.tup [.int (i : Nat), .ref a]) = H3 at sT s2T
    obtain ⟨vs, ev2, oa, lv⟩ := paired_get (rows.same sT) ea
    have ldk : (dk ns vs).length = ns.length := by
      unfold dk
      rw [List.length_map, List.length_zip]; omega
    refine ⟨_, rfl, _, _, _, _, true, rfl, .ty _, .base (.dK oa), kit_ty (by decide +kernel), _, rfl, iteF ?_⟩
    refine ⟨_, rfl, a, _, rfl, oa, rfl, _, rfl, ?_⟩
    rw [dec_int2, ldk, decide_eq_false (by omega : ¬ ((ns.length : Nat) : Int) = 0)]
    refine iteF ?_
    refine ⟨a, _, oa, trivial, fun od => ⟨_, rfl, a, od, rfl, .inl ⟨_, upd_same, lc_gen (bools ns.length) (by rw [bools_len]; omega) (fun j H' s lt => ⟨s _ _ upd_same, by rw [ldk]; rw [bools_len] at lt; exact lt⟩) (fun H' s => ⟨s _ _ upd_same, by rw [ldk, bools_len]; exact Nat.le_refl _⟩) ?_ ?_⟩⟩⟩
    · rintro j v y H4 H5 Cn Nn ey s4 ⟨rfl, k, w', ek, rfl⟩ yes
      obtain ⟨rfl, lt⟩ := bools_at ey
      obtain ⟨x, n, rfl, rfl, _, hv⟩ := dk_at ek nnd lv.symm
      refine ⟨rfl, ?_⟩
      exact ⟨_, rfl, _, rfl, a, _, rfl, .inl ⟨_, Sum.inr x, .inr ⟨_, s4 _ _ upd_same⟩, rfl, hv.symm⟩, n, rfl, yes H5 (Same.refl _)⟩
    · intro H4 D nD oD s4
      obtain ⟨b1, s34⟩ := lock_off oa s4
      have Da : D ≠ a := fun z => by rw [z, upd_same] at nD; cases nD
      rw [bools_map] at oD
      refine ⟨b1, D, _, rfl, SqL.of (by rw [upd_ne Da]; exact oD), _, rfl, ?_⟩
      rw [all_true]
      refine iteF ?_
      have oa4 := s34 _ _ oa
      have sH4 := sT.trans s34
      have s14 := s2T.trans s34
      generalize upd H4 a (.dK (dk ns vs)) = H5 at s34 oa4 sH4 s14
      refine ⟨a, _, oa4, trivial, fun od2 => ⟨_, rfl, a, od2, rfl, .inl ⟨_, upd_same, lc_gen (bools ns.length) (by rw [bools_len]; omega) (fun j H' s lt => ⟨s _ _ upd_same, by rw [ldk]; rw [bools_len] at lt; exact lt⟩) (fun H' s => ⟨s _ _ upd_same, by rw [ldk, bools_len]; exact Nat.le_refl _⟩) ?_ ?_⟩⟩⟩
      · rintro j v y H6 H7 Cn Nn ey s6 ⟨rfl, k, w', ek, rfl⟩ yes
        obtain ⟨rfl, lt⟩ := bools_at ey
        obtain ⟨x, n, rfl, rfl, ex, hv⟩ := dk_at ek nnd lv.symm
        refine ⟨rfl, ?_⟩
        exact ⟨_, rfl, x, rfl, nok x (List.mem_of_getElem? ex), fun H' s' => yes H' s'⟩
      · intro H6 D2 nD2 oD2 s6
        obtain ⟨b2, s56⟩ := lock_off oa4 s6
        have Da2 : D2 ≠ a := fun z => by rw [z, upd_same] at nD2; cases nD2
        rw [bools_map] at oD2
        refine ⟨b2, D2, _, rfl, SqL.of (by rw [upd_ne Da2]; exact oD2), _, rfl, ?_⟩
        rw [all_true]
        refine iteF ?_
        have oa6 := s56 _ _ oa4
        have sH6 := sH4.trans s56
        have s16 := s14.trans s56
        generalize upd H6 a (.dK (dk ns vs)) = H7 at oa6 sH6 s16
        obtain ⟨a0, ea0⟩ : ∃ a0, as[0]? = some a0 := ⟨as[0]'(by omega), List.getElem?_eq_getElem _⟩
        obtain ⟨vs0, ev0, oa0, lv0⟩ := paired_get (rows.same sH6) ea0
        have at0' : atI (as.map V.ref) ((0 : Nat) : Int) = some (.ref a0) := atI_nat (by rw [List.getElem?_map, ea0]; rfl)
        refine ⟨_, rfl, _, rfl, _, _, _, _, rfl, rfl, SqL.of (sH6 _ _ hrr), at0', a0, _, rfl, .inl oa0, fun q nq => ?_⟩
        have ekeys : ((dk ns vs0).map fun kv => kV kv.1) = ns.map V.str := by
          have z := congrArg (List.map kV) (dk_keys lv0.symm)
          rw [List.map_map, List.map_map] at z
          exact z
        rw [ekeys]
        have sq := same_new (o := .lst (ns.map V.str)) nq
        exact ⟨a, q, dk ns vs, ns, rfl, sq _ _ oa6, upd_same, dk_keys lv.symm, nsh, fun H' s' => ⟨_, rfl, iteF ⟨(s16.trans sq).trans s', _, _, _, rfl⟩⟩⟩
  · rintro σ H2 ⟨s2, s1', s2', s3', rfl⟩
    exact hq _ (k1.trans s2)
end
end L2.TB
namespace L2.TB
open PySem PySem.Spec PyProof.Rows
abbrev NI : List Str := ["self", "rows", "index", "row", "name"]
theorem scInit : FnScope NI ["self", "rows"] (defScope sInit) := ⟨rfl, rfl, rfl, by decide +kernel, rfl, by decide +kernel, by decide +kernel⟩
def spInit (C : Addr) : Sp := fun vs H Q _ => ∃ (p dx r : Addr) (as : List Addr) (ns : List Str) (tbl : List (List Int)), vs = [.ref p, .ref r] ∧ H p = some (.ins C dx []) ∧ H r = some (.lst (as.map V.ref)) ∧ DRows H ns as tbl ∧ tbl ≠ [] ∧ tbl.length < 1000 ∧ ns ≠ [] ∧ ns.Nodup ∧ (∀ x ∈ ns, NmOk x) ∧ ns.length < 1000 ∧
  ∀ H', TabAt H' C p ns tbl → (∀ b o, b ≠ p → H b = some o → H' b = some o) → Q .non H'
theorem qr_ : ¬ (("_questions" : Str) = "_rows") := by decide +kernel
theorem put_two (qa ra : Addr) : putF "_rows" (.ref ra) (putF "_questions" (.ref qa) []) = tabF qa ra := by
  show (if ("_questions" : Str) = "_rows" then _ else (("_questions" : Str), V.ref qa) :: putF "_rows" (.ref ra) []) = tabF qa ra
  rw [if_neg qr_]
  rfl
abbrev scRow : Scope := { kind := ScopeKind.function, names := [(Str.ofString ".0", NameKind.local), (Str.ofString "row", NameKind.cell), (Str.ofString "tuple", NameKind.globalImplicit), (Str.ofString "self", NameKind.cell)], isGenerator := false, isCoroutine := false }
abbrev rTupOf (K : PySem.W.Frag) : List V → Hp → VK → Prop := fun xs H Q => ∃ p ys, xs = [V.ref p] ∧ ((SqL K H p ys ∧ ∀ l, H l = none → Q (.ref l) (upd H l (.tup ys))) ∨ (SqT K H p ys ∧ Q (.ref p) H))
section
variable {P : Program} {w : World} {K : PySem.W.Frag} {mg : Str → Option Value} {base : Heap} {f C fB : Addr} {fd fdB : FuncData}
theorem ok_init (F : Fun K "__init__" "Table.__init__" sInit f fd) (T : TabC K C) (GB : FnOk P w K mg base CX0 2 fB fdB ["rows"] spBadRow) (FB : Fun K "_first_bad_row" "_first_bad_row" sBadRow fB fdB) (gB : mg "_first_bad_row" = some (.ref fB)) (gL : mg "list" = none) (gT : mg "tuple" = none) : FnOk P w K mg base CX0 3 f fd ["self", "rows"] (spInit C) := by
  have bB := FB.binds (ps := ["rows"]) fun _ _ _ _ _ _ us hl => match us, hl with | [_], _ => rfl
  refine F.ok scInit (fun vs H Q E h => by obtain ⟨p, dx, r, as, ns, tbl, e, _⟩ := h; rw [e]; rfl) fun cdv A outer s H vs Q E hr hsp => ?_
  obtain ⟨p, dx, r, as, ns, tbl, rfl, hp, hrr, rows, tne, tsh, nne, nnd, nok, nsh, hq⟩ := hsp
  have nd := scInit.nd
  have hu := hu_of hr
  refine ⟨_, pss_cons (ps_set (i := 2) nd rfl (Or.inl rfl) (pe_call GB hr rfl gB FB.kp bB .nil pass0 (pa_cons (pv 1) pa_nil)))
    (pss_cons (ps_if (pt_cmp (pc_notN (pv 2))) (pss_one ps_never) pss_nil)
    (pss_cons (ps_fld (pv 0) (pe_callTy (call_listD rfl) rfl gL boot_list' (pa_cons (pe_ix ix_list (pv 1) pe_int (fun _ _ => rfl)) pa_nil)) rfl)
    (pss_one (ps_fld (pv 0) (pe_lc (own := [("row", 3)]) (tt := tYes) (te := tCB (rTupOf K) (tCons (tLc (iList K (tFld K (tVar 0) "_questions")) (gName 4) tYes (tDGet (tVar 3) (tVar 4)) [4]) tNil)) rfl nd (pi_list (pv 1)) (blkOk_by (N := NI) (sc := defScope sInit) (by decide +kernel)) (fun _ _ _ _ _ => pg_name (i := 3) nd rfl (Or.inr rfl)) (fun _ _ _ _ _ => pts_nil)
      (fun _ _ _ _ _ => pe_callTy (r := rTupOf K) call_tuple_of rfl gT boot_tuple' (pa_cons (pe_lc (own := [("name", 4)]) (tt := tYes) (g := gName 4) (wi := iList K (tFld K (tVar 0) "_questions")) (te := tDGet (tVar 3) (tVar 4)) rfl nd (pi_list (pe_fld (pv 0) rfl)) (blkOk_by (N := NI) (sc := scRow) (by decide +kernel)) (fun _ _ _ _ _ => pg_name (i := 4) nd rfl (Or.inl rfl)) (fun _ _ _ _ _ => pts_nil)
        (fun _ _ _ _ _ => pe_dget hu (pv 3) (pv 4) (fun _ _ => rfl))) pa_nil))) rfl)))), ?_⟩
  have las : as.length = tbl.length := Paired.length rows
  have pos : 0 < tbl.length := List.length_pos_iff.mpr tne
  have npos : 0 < ns.length := List.length_pos_iff.mpr nne
  refine ⟨_, rfl, r, as, ns, tbl, rfl, hrr, rows, tne, tsh, nne, nnd, nok, nsh, fun H1 s1 => ?_⟩
  refine ⟨_, rfl, _, rfl, iteF ?_⟩
  obtain ⟨a0, ea0⟩ : ∃ a0, as[0]? = some a0 := ⟨as[0]'(by omega), List.getElem?_eq_getElem _⟩
  obtain ⟨vs0, ev0, oa0, lv0⟩ := paired_get (rows.same s1) ea0
  have at0' : atI (as.map V.ref) ((0 : Nat) : Int) = some (.ref a0) := atI_nat (by rw [List.getElem?_map, ea0]; rfl)
  have ekeys : ((dk ns vs0).map fun kv => kV kv.1) = ns.map V.str := by
    have z := congrArg (List.map kV) (dk_keys lv0.symm)
    rw [List.map_map, List.map_map] at z
    exact z
  refine ⟨_, rfl, _, _, _, _, rfl, rfl, SqL.of (s1 _ _ hrr), at0', a0, _, rfl, .inl oa0, fun qa nqa => ?_⟩
  rw [ekeys]
  have sq := same_new (o := .lst (ns.map V.str)) nqa
  have hp2 := sq _ _ (s1 _ _ hp)
  have oq2 : upd H1 qa (.lst (ns.map V.str)) qa = some (.lst (ns.map V.str)) := upd_same
  have s12 := s1.trans sq
  generalize upd H1 qa (.lst (ns.map V.str)) = H2 at sq hp2 oq2 s12
  refine ⟨_, rfl, p, C, dx, _, rfl, hp2, T.cl, T.nQ, by decide, ?_⟩
  have hpu : upd H2 p (.ins C dx (putF "_questions" (.ref qa) [])) p = some (.ins C dx (putF "_questions" (.ref qa) [])) := upd_same
  have s2p : ∀ b o, b ≠ p → H2 b = some o → upd H2 p (.ins C dx (putF "_questions" (.ref qa) [])) b = some o := fun b o nb e => by rw [upd_ne nb]; exact e
  generalize upd H2 p (.ins C dx (putF "_questions" (.ref qa) [])) = H4 at hpu s2p
  have rp : r ≠ p := ne_of hrr hp (by intro z; cases z)
  have qp : qa ≠ p := ne_of oq2 hp2 (by intro z; cases z)
  have or4 := s2p _ _ rp (s12 _ _ hrr)
  have oq4 := s2p _ _ qp oq2
  have rows4 : DRows H4 ns as tbl := Paired.mapP rows fun a vs h => ⟨s2p _ _ (ne_of h.1 hp (by intro z; cases z)) (s12 _ _ h.1), h.2⟩
  refine ⟨_, rfl, r, rfl, ⟨_, SqL.of or4⟩, fun D nD => ?_⟩
  refine lc_list (xs := as.map V.ref) (fun i H' => ∃ ps, H' D = some (.lst ((ps : List Addr).map V.ref)) ∧ Paired (fun q vs => H' q = some (.tup (vs.map V.int)) ∧ vs.length = ns.length) ps (tbl.take i) ∧ Same H4 H')
    ⟨[], upd_same, .nil, same_new nD⟩ (fun i H' _ h => SqL.of (h.choose_spec.2.2 _ _ or4)) ?_ ?_
  · rintro i v H5 ev ⟨ps, oD, prs, s5⟩
    rw [List.getElem?_map] at ev
    obtain ⟨a, ea, rfl⟩ := Option.map_eq_some_iff.mp ev
    obtain ⟨vs, evs, oa, lv⟩ := paired_get (rows4.same s5) ea
    have hi : i < tbl.length := (List.getElem?_eq_some_iff.mp evs).1
    have lps : ps.length = i := by rw [Paired.length prs, List.length_take]; omega
    refine ⟨rfl, ?_⟩
    refine ⟨_, rfl, p, C, dx, _, _, rfl, s5 _ _ hpu, T.cl, T.nQ, rfl, qa, rfl, ⟨_, SqL.of (s5 _ _ oq4)⟩, lc_gen (vs.map V.int) (by rw [List.length_map]; omega) (fun j H' s lt => ⟨ns.map V.str, _, SqL.of (s _ _ (s5 _ _ oq4)), List.getElem?_eq_getElem (by rw [List.length_map] at lt ⊢; omega)⟩) (fun H' s => ⟨ns.map V.str, SqL.of (s _ _ (s5 _ _ oq4)), by rw [List.length_map, List.length_map]; omega⟩) ?_ ?_⟩
    · rintro j x y H6 H7 Cn Nn ey s6 ⟨rfl, ex⟩ yes
      have ex := ex _ (SqL.of (s6 _ _ (s5 _ _ oq4)))
      rw [List.getElem?_map] at ey ex
      obtain ⟨n, en, rfl⟩ := Option.map_eq_some_iff.mp ey
      obtain ⟨z, ez, rfl⟩ := Option.map_eq_some_iff.mp ex
      have edk : (dk ns vs)[j]? = some (Sum.inr z, V.int n) := by
        unfold dk
        rw [List.getElem?_map, List.getElem?_zip_eq_some.mpr (show ns[j]? = some (z, n).1 ∧ vs[j]? = some (z, n).2 from ⟨ez, en⟩)]
        rfl
      obtain ⟨z', n', e1, e2, _, hv⟩ := dk_at edk nnd lv.symm
      obtain rfl := Sum.inr.inj e1
      obtain rfl := V.int.inj e2
      refine ⟨rfl, ?_⟩
      exact ⟨_, rfl, _, rfl, a, _, rfl, hv ▸ DGet.k (k := Sum.inr z) (s6 _ _ oa), yes H7 (Same.refl _)⟩
    · intro H6 l nl ol s6
      refine ⟨l, _, rfl, .inl ⟨SqL.of ol, fun t nt => ?_⟩⟩
      have st := same_new (o := .tup (vs.map V.int)) nt
      have oD6 := st _ _ (s6 _ _ oD)
      have tD : t ≠ D := fun z => by rw [z, s6 _ _ oD] at nt; cases nt
      refine ⟨_, oD6, (by rw [sizeLine_eq, List.length_map]; omega), ps ++ [t], by rw [upd_same]; simp, ?_, ?_⟩
      · have e1 : tbl.take (i + 1) = tbl.take i ++ [vs] := by rw [List.take_succ, evs]; rfl
        rw [e1]
        refine paired_snoc ⟨by rw [upd_ne tD, upd_same], lv⟩ (Paired.mapP prs fun q vs' h => ⟨?_, h.2⟩)
        rw [upd_ne (ne_of h.1 oD (by intro z; cases z))]
        exact st _ _ (s6 _ _ h.1)
      · intro b u e
        rw [upd_ne (ne_of_none e nD)]
        exact st _ _ (s6 _ _ (s5 _ _ e))
  · rintro H5 ⟨ps, oD, prs, s5⟩
    have et : tbl.take (as.map V.ref).length = tbl := List.take_of_length_le (by rw [List.length_map]; omega)
    rw [et] at prs
    refine ⟨_, rfl, p, C, dx, _, rfl, s5 _ _ hpu, T.cl, T.nR, by show 1 < 1000; decide, ?_⟩
    rw [put_two]
    have Dp : D ≠ p := fun z => by rw [z, hpu] at nD; cases nD
    have frame : ∀ b o, b ≠ p → H b = some o → upd H5 p (.ins C dx (tabF qa D)) b = some o := fun b o nb e => by
      rw [upd_ne nb]
      exact s5 _ _ (s2p _ _ nb (s12 _ _ e))
    refine hq _ ⟨dx, qa, D, upd_same, ?_, ps, ?_, Paired.mapP prs fun q vs h => ⟨?_, h.2⟩⟩ frame
    · rw [upd_ne qp]; exact s5 _ _ oq4
    · rw [upd_ne Dp]; exact oD
    · rw [upd_ne (ne_of h.1 (s5 _ _ hpu) (by intro z; cases z))]; exact h.1
end
end L2.TB
/-! is_list, is_one_of, first_bad of things of any kind -/
namespace L2.TB
open PySem PySem.Spec PyProof.Rows
/-- a thing that is no text -/
def NoStr (K : PySem.W.Frag) (H : Hp) (v : V) : Prop := ∃ t : String, TyX K H v (.type t) ∧ kitB t "str" = some false
/-- a thing that is neither a list nor a tuple -/
def NoSeq (K : PySem.W.Frag) (H : Hp) (v : V) : Prop := ∃ t : String, TyX K H v (.type t) ∧ kitB t "list" = some false ∧ kitB t "tuple" = some false
/-- what needs no heap to be told -/
inductive Atom : V → Prop
  | str (x : Str) : Atom (.str x)
  | int (i : Int) : Atom (.int i)
  | bl (b : Bool) : Atom (.bl b)
  | non : Atom .non
def strOf : V → Option Str
  | .str x => some x
  | _ => none
theorem strOf_none {v : V} (h : strOf v = none) (a : Atom v) (K : PySem.W.Frag) (H : Hp) : NoStr K H v := by
  cases a with
  | str x => cases h
  | int i => exact ⟨_, .base (.int i), by decide +kernel⟩
  | bl b => exact ⟨_, .base (.bl b), by decide +kernel⟩
  | non => exact ⟨_, .base .non, by decide +kernel⟩
theorem strOf_some {v : V} {x : Str} (h : strOf v = some x) : v = .str x := by
  cases v <;> first | (cases h; rfl) | cases h
theorem ty_same {K : PySem.W.Frag} {H H' : Hp} {v : V} {t : String} (h : TyX K H v (.type t)) (s : Same H H') : TyX K H' v (.type t) := by
  generalize e : Value.type t = u at h
  cases h with
  | base b =>
    refine .base ?_
    cases b with
    | non => exact .non
    | bl x => exact .bl x
    | int i => exact .int i
    | str x => exact .str x
    | flt x => exact .flt x
    | lst q => exact .lst (s _ _ q)
    | frz q => exact .frz (s _ _ q)
    | tup q => exact .tup (s _ _ q)
    | dK q => exact .dK (s _ _ q)
    | dT q => exact .dT (s _ _ q)
    | ins q => cases e
  | byt b => exact .byt b
  | set q => exact .set (s _ _ q)
  | kList q c => exact .kList q c
  | kTuple q c => exact .kTuple q c
  | kDict q c => exact .kDict q c
  | fTuple q => exact .fTuple (s _ _ q)
  | fDict q => exact .fDict (s _ _ q)
theorem NoStr.same {K : PySem.W.Frag} {H H' : Hp} {v : V} (h : NoStr K H v) (s : Same H H') : NoStr K H' v := let ⟨t, a, b⟩ := h; ⟨t, ty_same a s, b⟩
theorem NoSeq.same {K : PySem.W.Frag} {H H' : Hp} {v : V} (h : NoSeq K H v) (s : Same H H') : NoSeq K H' v := let ⟨t, a, b⟩ := h; ⟨t, ty_same a s, b⟩
/-- the first place at which a thing is no name or stood before -/
def badAt (ns : List Str) : List V → List Str → Nat → Option Nat
  | [], _, _ => none
  | v :: r, seen, i => match strOf v with
    | some x => if x ∈ ns ∧ x ∉ seen then badAt ns r (seen ++ [x]) (i + 1) else some i
    | none => some i
def optV : Option Nat → V
  | none => .non
  | some i => .int (i : Nat)
def spIsListG (K : PySem.W.Frag) : Sp := fun vs H Q _ => ∃ v : V, vs = [v] ∧ (((∃ a xs, v = .ref a ∧ SqA K H a xs) ∧ ∀ H', Same H H' → Q (.bl true) H') ∨ (NoSeq K H v ∧ ∀ H', Same H H' → Q (.bl false) H'))
def spIsOneG (K : PySem.W.Frag) : Sp := fun vs H Q _ => ∃ (c : Addr) (ns : List Str) (v : V), vs = [.ref c, v] ∧ SqL K H c (ns.map V.str) ∧ ((∃ x, v = .str x ∧ Q (.bl (decide (x ∈ ns))) H) ∨ (NoStr K H v ∧ Q (.bl false) H))
/-- what first_bad says of v -/
inductive Bad (K : PySem.W.Frag) (H : Hp) (ns : List Str) : V → Option Nat → Prop
  | no {v : V} (h : NoSeq K H v) : Bad K H ns v (some 0)
  | seq {a : Addr} {xs : List V} (h : SqA K H a xs) (at_ : ∀ x ∈ xs, Atom x) (short : xs.length < 1000) : Bad K H ns (.ref a) (badAt ns xs [] 0)
theorem Bad.same {K : PySem.W.Frag} {H H' : Hp} {ns : List Str} {v : V} {r : Option Nat} (h : Bad K H ns v r) (s : Same H H') : Bad K H' ns v r := by
  cases h with
  | no h => exact .no (h.same s)
  | seq h a l => exact .seq (h.same s) a l
def spFirstG (K : PySem.W.Frag) : Sp := fun vs H Q _ => ∃ (c : Addr) (ns : List Str) (v : V) (r : Option Nat), vs = [.ref c, v] ∧ H c = some (.lst (ns.map V.str)) ∧ Bad K H ns v r ∧ ∀ H', Same H H' → Q (optV r) H'
theorem kit_two_n {K : PySem.W.Frag} {t : String} (h1 : kitB t "list" = some false) (h2 : kitB t "tuple" = some false) : PySem.W.kitAny K (.type t) [.type "list", .type "tuple"] = some false :=
  kitAny_cons (b := false) (kit_ty h1) (fun _ => kitAny_cons (b := false) (kit_ty h2) (fun _ => kitAny_nil) (fun z => by cases z)) (fun z => by cases z)
section
variable {P : Program} {w : World} {K : PySem.W.Frag} {mg : Str → Option Value} {base : Heap} {f fL fO : Addr} {fd fdL fdO : FuncData}
theorem ok_isListG (F : Fun K "is_list" "is_list" sIsList f fd) (gI : mg "isinstance" = none) (gL : mg "list" = none) (gT : mg "tuple" = none) : FnOk P w K mg base CX0 1 f fd ["thing"] (spIsListG K) := by
  refine F.ok scIsList (fun vs H Q E h => by obtain ⟨a, e, _⟩ := h; rw [e]; rfl) fun cdv A outer s H vs Q E hr hsp => ?_
  obtain ⟨v, rfl, hq⟩ := hsp
  refine ⟨_, pss_one (ps_ret (pe_callB (r := rIsiT K) call_isiT rfl gI boot_isi (pa_cons (pv 0) (pa_cons (pe_tup (pa_cons (pe_bltn (v := .ty "list") rfl gL boot_list' rfl) (pa_cons (pe_bltn (v := .ty "tuple") rfl gT boot_tuple' rfl) pa_nil))) pa_nil)))), ?_⟩
  refine ⟨_, rfl, (by show 2 ≤ sizeLine; decide), fun t nt => ?_⟩
  have kt := same_new (o := .tup [.ty "list", .ty "tuple"]) nt
  rcases hq with ⟨⟨a, xs, rfl, hS⟩, hq⟩ | ⟨hN, hq⟩
  · rcases hS.same kt with e | e
    · exact ⟨_, _, _, _, _, true, rfl, upd_same, .cons (.ty _) (.cons (.ty _) .nil), .base (.lst e), kit_two_l, hq _ kt⟩
    · exact ⟨_, _, _, _, _, true, rfl, upd_same, .cons (.ty _) (.cons (.ty _) .nil), .base (.tup e), kit_two_t, hq _ kt⟩
  · obtain ⟨ty, h1, h2, h3⟩ := hN.same kt
    exact ⟨_, _, _, _, _, false, rfl, upd_same, .cons (.ty _) (.cons (.ty _) .nil), h1, kit_two_n h2 h3, hq _ kt⟩
theorem ok_isOneG (F : Fun K "is_one_of" "is_one_of" sIsOne f fd) (gI : mg "isinstance" = none) (gS : mg "str" = none) : FnOk P w K mg base CX0 1 f fd ["names", "thing"] (spIsOneG K) := by
  refine F.ok scIsOne (fun vs H Q E h => by obtain ⟨c, ns, x, e, _⟩ := h; rw [e]; rfl) fun cdv A outer s H vs Q E hr hsp => ?_
  obtain ⟨c, ns, v, rfl, hS, hq⟩ := hsp
  refine ⟨_, pss_one (ps_ret (pe_and (pe_callB (r := rIsi K) call_isi rfl gI boot_isi (pa_cons (pv 1) (pa_cons (pe_bltn (v := .ty "str") rfl gS boot_str' rfl) pa_nil)))
    (pe_one (pe_cmpR op_in_seq (pv 1) (pv 0) rfl)))), ?_⟩
  rcases hq with ⟨x, rfl, hq⟩ | ⟨⟨t, h1, h2⟩, hq⟩
  · refine ⟨_, rfl, _, _, _, _, true, rfl, .ty _, .base (.str x), kit_ty (by decide +kernel), true, rfl, _, rfl, _, rfl, c, _, rfl, .inl hS, rfl, flat_strs ns, ?_⟩
    rw [inV_strs]
    exact hq
  · exact ⟨_, rfl, _, _, _, _, false, rfl, .ty _, h1, kit_ty h2, false, rfl, hq⟩
theorem badAt_step {ns : List Str} {xs : List V} {us : List Str} {i : Nat} {v : V} (hv : xs[i]? = some v) :
    badAt ns (xs.drop i) us i = match strOf v with | some x => if x ∈ ns ∧ x ∉ us then badAt ns (xs.drop (i + 1)) (us ++ [x]) (i + 1) else some i | none => some i := by
  have e : xs.drop i = v :: xs.drop (i + 1) := by
    obtain ⟨h, e⟩ := List.getElem?_eq_some_iff.mp hv
    rw [List.drop_eq_getElem_cons h, e]
  rw [e]
  rfl
theorem ok_firstG (F : Fun K "first_bad" "first_bad" sFirst f fd) (FL : Fun K "is_list" "is_list" sIsList fL fdL) (gIL : mg "is_list" = some (.ref fL)) (FO : Fun K "is_one_of" "is_one_of" sIsOne fO fdO) (gIO : mg "is_one_of" = some (.ref fO))
    (gI : mg "isinstance" = none) (gL : mg "list" = none) (gT : mg "tuple" = none) (gS : mg "str" = none) (gE : mg "enumerate" = none) : FnOk P w K mg base CX0 2 f fd ["names", "things"] (spFirstG K) := by
  have GL : FnOk P w K mg base CX0 1 fL fdL ["thing"] (spIsListG K) := ok_isListG FL gI gL gT
  have bL := FL.binds (ps := ["thing"]) fun _ _ _ _ _ _ us hl => match us, hl with | [_], _ => rfl
  have GO : FnOk P w K mg base CX0 1 fO fdO ["names", "thing"] (spIsOneG K) := ok_isOneG FO gI gS
  have bO := FO.binds (ps := ["names", "thing"]) fun _ _ _ _ _ _ us hl => match us, hl with | [_, _], _ => rfl
  refine F.ok scFirst (fun vs H Q E h => by obtain ⟨c, ns, v, r, e, _⟩ := h; rw [e]; rfl) fun cdv A outer s H vs Q E hr hsp => ?_
  obtain ⟨c, ns, v, r, rfl, hc, hB, hq⟩ := hsp
  have nd := scFirst.nd
  have hu := hu_of hr
  refine ⟨_, pss_cons (ps_if (pt_not (pt_val (pe_call GL hr rfl gIL FL.kp bL .nil pass0 (pa_cons (pv 1) pa_nil)))) (pss_one (ps_ret pe_int)) pss_nil)
    (pss_cons (ps_set (i := 2) nd rfl (Or.inl rfl) pe_dnewK)
    (pss_cons (ps_for PassesOwn.never rfl (pi_enumS rfl gE (pa_cons (pv 1) pa_nil)) (pg_tup rfl (pgs_cons (pg_name (i := 3) nd rfl (Or.inl rfl)) (pgs_cons (pg_name (i := 4) nd rfl (Or.inl rfl)) pgs_nil)))
      (pss_cons (ps_if (PW.pt (pw_or (pt_not (pt_val (pe_call GO hr rfl gIO FO.kp bO .nil pass0 (pa_cons (pv 0) (pa_cons (pv 4) pa_nil))))) (pw_or1 (pt_cmp (pc_din hu (pv 4) (pv 2)))))) (pss_one (ps_ret (pv 3))) pss_nil)
      (pss_one (ps_dput hu (pv 2) (pv 4) pe_bl rfl))))
    (pss_one (ps_ret pe_non)))), ?_⟩
  cases hB with
  | no hN => exact ⟨_, rfl, _, rfl, .inr ⟨hN, fun H1 k1 => ⟨_, rfl, iteT (hq H1 k1)⟩⟩⟩
  | @seq a xs hS hA short =>
  refine ⟨_, rfl, _, rfl, .inl ⟨⟨a, xs, rfl, hS⟩, fun H1 k1 => ⟨_, rfl, iteF fun d nd2 => ?_⟩⟩⟩
  have kd := same_new (o := .dK []) nd2
  obtain ⟨o, ho, ko⟩ : ∃ o, H1 a = some o ∧ (o = .lst xs ∨ o = .tup xs) := by
    rcases hS.same k1 with e | e
    · exact ⟨_, e, .inl rfl⟩
    · exact ⟨_, e, .inr rfl⟩
  refine ⟨_, rfl, enum_seq ko (fun i σ H' => ∃ us : List Str, us.length = i ∧ badAt ns xs [] 0 = badAt ns (xs.drop i) us i ∧ H' d = some (.dK (seenD us)) ∧ Same H1 H' ∧ ∃ s3 s4, σ = [some (.ref c), some (.ref a), some (.ref d), s3, s4])
    ⟨[], rfl, by rw [List.drop_zero], upd_same, kd, _, _, rfl⟩ (fun i σ H' _ ⟨us, h⟩ => h.2.2.2.1 _ _ ho) ?_ ?_⟩
  · rintro i v σ H2 T ev ⟨us, lu, eb, od, s2, s3, s4, rfl⟩ nT
    have hi : i < xs.length := (List.getElem?_eq_some_iff.mp ev).1
    have kT := same_new (o := .tup [.int (i : Nat), v]) nT
    refine ⟨T, _, rfl, SqT.of upd_same, rfl, ?_⟩
    refine ⟨_, _, rfl, _, _, rfl, rfl, ?_⟩
    rw [badAt_step ev] at eb
    refine ⟨_, rfl, _, rfl, c, ns, v, rfl, SqL.of (kT _ _ (s2 _ _ (k1 _ _ hc))), ?_⟩
    cases hs : strOf v with
    | none =>
      rw [hs] at eb
      refine .inr ⟨strOf_none hs (hA v (List.mem_of_getElem? ev)) K _, _, rfl, iteT ?_⟩
      have z := hq _ (k1.trans (s2.trans kT))
      rw [eb] at z
      exact iteT ⟨_, rfl, z⟩
    | some x =>
      obtain rfl := strOf_some hs
      rw [hs] at eb
      refine .inl ⟨x, rfl, _, rfl, ?_⟩
      by_cases xin : x ∈ ns
      · rw [decide_eq_true xin]
        refine iteF ⟨_, rfl, _, rfl, d, _, rfl, DGet.k (k := Sum.inr x) (kT _ _ od), ?_⟩
        by_cases xs' : x ∈ us
        · obtain ⟨v2, e2⟩ := has_key (kvs := seenD us) (ns := us) (by unfold seenD; rw [List.map_map]; rfl) xs'
          rw [e2]
          dsimp only at eb
          rw [if_neg (fun z => z.2 xs')] at eb
          have z := hq _ (k1.trans (s2.trans kT))
          rw [eb] at z
          exact ⟨_, rfl, iteT ⟨_, rfl, z⟩⟩
        · rw [seen_none xs']
          refine ⟨_, rfl, iteF ?_⟩
          dsimp only at eb
          rw [if_pos ⟨xin, xs'⟩] at eb
          have small : (seenD us).length < sizeLine := by
            rw [sizeLine_eq]
            unfold seenD
            rw [List.length_map]; omega
          refine ⟨_, rfl, _, rfl, d, _, rfl, DPut.k (k := Sum.inr x) (kT _ _ od) small, us ++ [x], by rw [List.length_append, lu]; rfl, eb, ?_, ?_, _, _, rfl⟩
          · rw [upd_same, seen_put xs']
          · intro b u e
            have nb : b ≠ d := ne_of_none e nd2
            rw [upd_ne nb]
            exact kT _ _ (s2 _ _ e)
      · rw [decide_eq_false xin]
        dsimp only at eb
        rw [if_neg (fun z => xin z.1)] at eb
        have z := hq _ (k1.trans (s2.trans kT))
        rw [eb] at z
        exact iteT ⟨_, rfl, z⟩
  · rintro σ H2 ⟨us, lu, eb, od, s2, s3, s4, rfl⟩
    rw [List.drop_length] at eb
    have z := hq _ (k1.trans s2)
    rw [eb] at z
    exact z
end
end L2.TB
/-! the checks, both ways: they let through, or an error of their class flies -/
namespace L2.TB
open PySem PySem.Spec PyProof.Rows
structure ErrF (P : Program) (w : World) (K : PySem.W.Frag) (mg : Str → Option Value) (base : Heap) (x : Str) (C : Addr) (fld : Str) : Prop where
  g : mg x = some (.ref C)
  ex : ∃ (fI : Addr) (fd : FuncData) (y : Str), ErrC K C fI fld ∧ FnOk P w K mg base CX0 1 fI fd ["self", y] (spErr K fld) ∧ Binds K fd ["self", y] []
def tRaise (K : PySem.W.Frag) (C : Addr) (fld : Str) (te : TE) (W : WX) : TS := fun _ σ H => tMkO C (spErr K fld) [] (tCons te tNil) σ H fun cls d H' => W cls d σ H'
theorem ps_raiseE {X : Cx} {W : WX} {x fld : Str} {C : Addr} {e : Expr} {te : TE} {p pos pos2 : Pos} (hc : X.calm = true) (tk : Takes X W) (E : ErrF X.prog X.w X.K X.mg X.base x C fld) (hr : Room 2 X.A) (hg : Gl X x) (he : PE X e te)
    (hdb : (x == ("__debug__" : Str)) = false := by decide) (hs : starEach [e] X.env = (false, eval e X.env) :: starEach [] X.env := by rfl) : PS X (.Raise (some (.Call (.Name x p) [e] [] pos)) none pos2) (tRaise X.K C fld te W) := by
  obtain ⟨fI, fd, y, EC, G, b⟩ := E.ex
  exact ps_raise hc tk (pmk_err EC G b hr hg E.g he hdb hs)
theorem Flies.up {P : Program} {w : World} {K : PySem.W.Frag} {mg : Str → Option Value} {base : Heap} {x fld : Str} {C : Addr} {v : V} {H1 : Hp} {Q : XK} (E : ErrF P w K mg base x C fld) (h : Flies C fld v H1 Q) :
    [v].length ≤ 1000 ∧ ∀ a, H1 a = none → spErr K fld (.ref a :: ([v] ++ [])) (upd H1 a (exo a C none))
      (fun v H2 => v = .non ∧ ∃ (d : Addr) (fs : List (Str × V)), H2 a = some (exo a C (some d)) ∧ H2 d = some (exd d fs) ∧ H1 d = none ∧ Q (.ref C) (some d) (upd (del H2 a) d (.xd fs))) (fun _ _ _ => False) := by
  obtain ⟨fI, fd, y, EC, _⟩ := E.ex
  exact Flies.mk EC h
/-- what is asked is no question -/
def BadAsk (K : PySem.W.Frag) (H : Hp) (ns : List Str) (v : V) : Prop := (∃ x, v = .str x ∧ x ∉ ns) ∨ NoStr K H v
theorem BadAsk.same {K : PySem.W.Frag} {H H' : Hp} {ns : List Str} {v : V} (h : BadAsk K H ns v) (s : Same H H') : BadAsk K H' ns v := h.imp id fun h => h.same s
def spCkKX (K : PySem.W.Frag) (CK : Addr) : Sp := fun vs H Q E => ∃ (c : Addr) (ns : List Str) (v : V) (r : Option Nat), vs = [.ref c, v] ∧ H c = some (.lst (ns.map V.str)) ∧ Bad K H ns v r ∧ (r = none → ∀ H', Same H H' → Q .non H') ∧ ∀ i : Nat, r = some i → Flies CK "index" (.int i) H E
def spCkAX (K : PySem.W.Frag) (CQ : Addr) : Sp := fun vs H Q E => ∃ (c : Addr) (ns : List Str) (v : V), vs = [.ref c, v] ∧ SqL K H c (ns.map V.str) ∧ ((∃ x, v = .str x ∧ x ∈ ns ∧ Q .non H) ∨ (BadAsk K H ns v ∧ Flies CQ "name" v H E))
def spCkBX (K : PySem.W.Frag) (CK CQ : Addr) : Sp := fun vs H Q E => ∃ (c : Addr) (ns : List Str) (v x : V) (r : Option Nat), vs = [.ref c, v, x] ∧ H c = some (.lst (ns.map V.str)) ∧ Bad K H ns v r ∧
  ((∃ i : Nat, r = some i ∧ Flies CK "index" (.int i) H E) ∨ (r = none ∧ ((∃ y, x = .str y ∧ y ∈ ns ∧ ∀ H', Same H H' → Q .non H') ∨ (BadAsk K H ns x ∧ Flies CQ "name" x H E))))
section
variable {P : Program} {w : World} {K : PySem.W.Frag} {mg : Str → Option Value} {base : Heap} {f CK CQ aF aL aO aK aA aB : Addr} {fd fdK fdA : FuncData}
theorem ok_ckKX (C : Chk K mg aF aL aO aK aA aB) (EK : ErrF P w K mg base "BadKnown" CK "index") (F : Fun K "check_known" "check_known" sCkK f fd) : FnOk P w K mg base (L2.CX P w) 3 f fd ["names", "known"] (spCkKX K CK) := by
  obtain ⟨fdF, FF⟩ := C.F
  obtain ⟨fdL, FL⟩ := C.L
  obtain ⟨fdO, FO⟩ := C.O
  have G : FnOk P w K mg base CX0 2 aF fdF ["names", "things"] (spFirstG K) := ok_firstG FF FL C.gL FO C.gO C.nI C.nL C.nT C.nS C.nE
  have b := FF.binds (ps := ["names", "things"]) fun _ _ _ _ _ _ us hl => match us, hl with | [_, _], _ => rfl
  refine F.okX scCkK (fun vs H Q E h => by obtain ⟨c, ns, v, r, e, _⟩ := h; rw [e]; rfl) fun cdv A outer s H vs Q E hr hsp => ?_
  obtain ⟨c, ns, v, r, rfl, hc, hB, hq, hf⟩ := hsp
  have nd := scCkK.nd
  refine ⟨_, pss_cons (ps_set (i := 2) nd rfl (Or.inl rfl) (pe_call G hr rfl C.gF FF.kp b .nil pass0 (pa_cons (pv 0) (pa_cons (pv 1) pa_nil))))
    (pss_one (ps_if (pt_cmp (pc_notN (pv 2))) (pss_one (ps_raiseE rfl (takes_of rfl rfl rfl rfl) EK hr rfl (pv 2))) pss_nil)), ?_⟩
  refine ⟨_, rfl, _, rfl, c, ns, v, r, rfl, hc, hB, fun H1 k1 => ?_⟩
  cases r with
  | none => exact ⟨_, rfl, _, rfl, iteF (hq rfl H1 k1)⟩
  | some i => exact ⟨_, rfl, _, rfl, iteT ⟨_, rfl, ((hf i rfl).same k1).up EK⟩⟩
theorem ok_ckAX (C : Chk K mg aF aL aO aK aA aB) (EQ : ErrF P w K mg base "NoQuestion" CQ "name") (F : Fun K "check_asked" "check_asked" sCkA f fd) : FnOk P w K mg base (L2.CX P w) 3 f fd ["names", "asked"] (spCkAX K CQ) := by
  obtain ⟨fdO, FO⟩ := C.O
  have G : FnOk P w K mg base CX0 1 aO fdO ["names", "thing"] (spIsOneG K) := ok_isOneG FO C.nI C.nS
  have b := FO.binds (ps := ["names", "thing"]) fun _ _ _ _ _ _ us hl => match us, hl with | [_, _], _ => rfl
  refine F.okX scCkA (fun vs H Q E h => by obtain ⟨c, ns, x, e, _⟩ := h; rw [e]; rfl) fun cdv A outer s H vs Q E hr hsp => ?_
  obtain ⟨c, ns, v, rfl, hc, hq⟩ := hsp
  refine ⟨_, pss_one (ps_if (pt_not (pt_val (pe_call G (hr.mono (by decide)) rfl C.gO FO.kp b .nil pass0 (pa_cons (pv 0) (pa_cons (pv 1) pa_nil))))) (pss_one (ps_raiseE rfl (takes_of rfl rfl rfl rfl) EQ hr rfl (pv 1))) pss_nil), ?_⟩
  refine ⟨_, rfl, _, rfl, c, ns, v, rfl, hc, ?_⟩
  rcases hq with ⟨x, rfl, xin, hq⟩ | ⟨⟨x, rfl, xin⟩ | hN, hf⟩
  · exact .inl ⟨x, rfl, _, rfl, by rw [decide_eq_true xin]; exact iteF hq⟩
  · exact .inl ⟨x, rfl, _, rfl, by rw [decide_eq_false xin]; exact iteT ⟨_, rfl, hf.up EQ⟩⟩
  · exact .inr ⟨hN, _, rfl, iteT ⟨_, rfl, hf.up EQ⟩⟩
theorem ok_ckBX (C : Chk K mg aF aL aO aK aA aB) (EK : ErrF P w K mg base "BadKnown" CK "index") (EQ : ErrF P w K mg base "NoQuestion" CQ "name") (F : Fun K "check_both" "check_both" sCkB f fd) : FnOk P w K mg base (L2.CX P w) 4 f fd ["names", "known", "asked"] (spCkBX K CK CQ) := by
  obtain ⟨fdK, FK⟩ := C.CK
  obtain ⟨fdA, FA⟩ := C.CA
  have GK : FnOk P w K mg base (L2.CX P w) 3 aK fdK ["names", "known"] (spCkKX K CK) := ok_ckKX C EK FK
  have GA : FnOk P w K mg base (L2.CX P w) 3 aA fdA ["names", "asked"] (spCkAX K CQ) := ok_ckAX C EQ FA
  have bK := FK.binds (ps := ["names", "known"]) fun _ _ _ _ _ _ us hl => match us, hl with | [_, _], _ => rfl
  have bA := FA.binds (ps := ["names", "asked"]) fun _ _ _ _ _ _ us hl => match us, hl with | [_, _], _ => rfl
  refine F.okX scCkB (fun vs H Q E h => by obtain ⟨c, ns, v, x, r, e, _⟩ := h; rw [e]; rfl) fun cdv A outer s H vs Q E hr hsp => ?_
  obtain ⟨c, ns, v, x, r, rfl, hc, hB, hq⟩ := hsp
  refine ⟨_, pss_cons (ps_expr (pe_callS GK hr rfl C.gCK FK.kp bK (fun σ => passAt (takes_of rfl rfl rfl rfl) σ) (pa_cons (pv 0) (pa_cons (pv 1) pa_nil))))
    (pss_one (ps_expr (pe_callS GA hr rfl C.gCA FA.kp bA (fun σ => passAt (takes_of rfl rfl rfl rfl) σ) (pa_cons (pv 0) (pa_cons (pv 2) pa_nil))))), ?_⟩
  refine ⟨_, rfl, _, rfl, c, ns, v, r, rfl, hc, hB, fun er H1 k1 => ?_, fun i er => ?_⟩
  · rcases hq with ⟨i, e2, _⟩ | ⟨_, hq⟩
    · rw [er] at e2; cases e2
    · refine ⟨_, rfl, _, rfl, c, ns, x, rfl, SqL.of (k1 _ _ hc), ?_⟩
      rcases hq with ⟨y, rfl, yin, hq⟩ | ⟨hb, hf⟩
      · exact .inl ⟨y, rfl, yin, hq H1 k1⟩
      · exact .inr ⟨hb.same k1, hf.same k1⟩
  · rcases hq with ⟨j, e2, hf⟩ | ⟨e2, _⟩
    · rw [er] at e2; cases e2; exact hf
    · rw [er] at e2; cases e2
end
end L2.TB
/-! errors whose context is None: made, raised, let out of defs -/
namespace L2.TB
open PySem PySem.Spec PyProof.Rows
/-- told of fewer exceptions, a def keeps its promise of all -/
theorem fnN {P : Program} {w : World} {K : PySem.W.Frag} {mg : Str → Option Value} {base : Heap} {k : Nat} {f : Addr} {fd : FuncData} {ps : List Str} {sp : Sp} (F : FnOk P w K mg base (L2N.CX P w) k f fd ps sp) : FnOk P w K mg base (L2.CX P w) k f fd ps sp :=
  ⟨F.len, fun A outer s H args us vs Q E hr he hb hv hs => codeAny_mono (F.run A outer s H args us vs Q E hr he hb hv hs) fun r s' z => by
    cases r with
    | error e => exact LM.cxn z
    | ok fl => cases fl <;> exact z⟩
section
variable {P : Program} {w : World} {K : PySem.W.Frag} {mg : Str → Option Value} {base : Heap}
theorem _root_.L2.Fun.okN {x qual : Str} {st : Stmt} {f : Addr} {fd : FuncData} {N ps : List Str} {k : Nat} {sp : Sp} (F : Fun K x qual st f fd) (S : FnScope N ps (defScope st)) (len : ∀ vs H Q E, sp vs H Q E → vs.length = ps.length)
    (go : ∀ (cdv : Value) (A : Around) (outer : List Env) (s : Shared) (H : Hp) (vs : List V) (Q : VK) (E : XK), Room k (A.deeper (envOfC qual (defScope st) s.heap.objs.size f cdv)) → sp vs H Q E →
      ∃ t, PSs (cxOf (L2N.CX P w) P w K mg base N qual (defScope st) f cdv A outer s H E) (defBody st) t ∧ t { nx := fun _ H' => Q .non H', rt := Q } (start N vs) H) : FnOk P w K mg base (L2N.CX P w) (k + 1) f fd ps sp := by
  obtain ⟨oc, od, kV, doc, pm, an, cdv, ct, osl, rfl, lk, hcd⟩ := F.ex
  exact fn_of lk hcd S len fun A outer s H vs Q E hr h => go cdv A outer s H vs Q E hr h
end
/-- x(e), to be raised where nothing is handled -/
theorem pmk_errN {X : Cx} {x fld : Str} {C fI : Addr} {fd : FuncData} {y : Str} {e : Expr} {te : TE} {p pos : Pos} (E : ErrC X.K C fI fld) (G : FnOk X.prog X.w X.K X.mg X.base CX0 1 fI fd ["self", y] (spErr X.K fld)) (b : Binds X.K fd ["self", y] [])
    (hr : Room 2 X.A) (hg : Gl X x) (hm : X.mg x = some (.ref C)) (he : PE X e te) (hdb : (x == ("__debug__" : Str)) = false := by decide) (hs : starEach [e] X.env = (false, eval e X.env) :: starEach [] X.env := by rfl) :
    L2N.PMk X (.Call (.Name x p) [e] [] pos) (tMkO C (spErr X.K fld) [] (tCons te tNil)) := by
  intro pins s σ H Q I h
  obtain ⟨_, _, _, _, bm, _, _, _, _, _, _, _, _, _, _, lkC, rf⟩ := E.o.cls
  refine wpAny_Call_Name_kw (ld_glob I hg hm (PySem.W.callWith_K (h₀ := X.base) I.ok.mod.kin E.o.kC (thn ((pa_cons he pa_nil (hs := hs)).run pos pins s σ H _ I h) fun us s1 ⟨vs, H1, I1, ru, lv, z⟩ => ⟨I1.kIn, ?_⟩) hs rfl) hdb)
  show wpAny _ _ (call (.ref C) us) _ _ _
  obtain ⟨m, g, dr, tk, os⟩ := s1
  have le1 : m.objs.size ≤ m.objs.size + 1 := Nat.le_succ _
  have z1 := z (m.objs.size + 1) (I1.hok.fresh le1)
  rw [List.append_nil] at z1
  have up : ∀ b o, m.get? b = some o → ((m.push (PySem.W.kdv_tup us)).push (PySem.HandSPX.excO C m.objs.size)).get? b = some o := fun b o k => Heap.get?_push_of_some _ (Heap.get?_push_of_some _ k)
  have at_ : ((m.push (PySem.W.kdv_tup us)).push (PySem.HandSPX.excO C m.objs.size)).get? (m.objs.size + 1) = some (PySem.HandSPX.excO C m.objs.size) := by heap_get
  have I2 := I1.laid (t' := tk) (a := m.objs.size + 1) (o := exo (m.objs.size + 1) C none) (h' := (m.push (PySem.W.kdv_tup us)).push (PySem.HandSPX.excO C m.objs.size)) up le1 (exo_ok at_)
  have rv : Vals (V.ref (m.objs.size + 1) :: vs) (Value.ref (m.objs.size + 1) :: us) := .cons rfl ru
  have len : (Value.ref (m.objs.size + 1) :: us ++ []).length = (["self", y] : List Str).length := by
    rw [List.append_nil, ← rv.length]
    exact G.len _ _ _ _ z1
  have b2 := b _ (Value.ref (m.objs.size + 1) :: us) I2.kIn len
  rw [List.append_nil] at b2
  have small : us.length ≤ sizeLine := by
    rw [← ru.length, sizeLine_eq]
    omega
  refine wpAny_call (PySem.HandSPX.call_own F.excBase_ValueError (fun Y => PySem.HandSPX.refsVE_contains Y bm rf) (I1.kIn _ _ lkC) (PySem.W.looks_findIn I1.kIn E.ini) (fun self => PySem.W.bind_fn I1.kIn self E.fn) small
    (codeAny_mono (G.run _ X.stack _ _ ⟨_, []⟩ _ _ _ (fun _ _ _ => False) (hr.make C us []) (I2.env0.make C us []) b2 rv z1) fun r s2 q => ?_))
  cases r with
  | error er => exact False.elim q
  | ok fl =>
    cases fl with
    | ret u =>
      obtain ⟨v, H2, o2, n2, un, ok2, ru2, ev, d, fs, ea, ed, nd, q2⟩ := q
      subst ev
      obtain ⟨m2, g2, d2, t2, os'⟩ := s2
      obtain ⟨t0, M, J, kM, nM, eo, na⟩ := mk_end0 (d2 := d2) (t2 := t2) I1 le1 up un ok2 o2 n2 ea ed nd
      exact ⟨ru2, m.objs.size + 1, _, _, ⟨M, g2, d2, t2, os'⟩, _, .ref C, some d, rfl, J, kM, nM, eo, ⟨rfl, rfl, fun vs y => (by cases y; rfl)⟩, rfl, rfl, na, rfl, n2, raises_own E.o.exC E.o.tyC, q2⟩
    | next => exact q.elim
    | brk => exact q.elim
    | cont => exact q.elim
theorem ps_raiseN {X : Cx} {W : WX} {x fld : Str} {C : Addr} {e : Expr} {te : TE} {p pos pos2 : Pos} (hc : X.calm = true) (tk : L2N.Takes X W) (E : ErrF X.prog X.w X.K X.mg X.base x C fld) (hr : Room 2 X.A) (hg : Gl X x) (he : PE X e te)
    (hdb : (x == ("__debug__" : Str)) = false := by decide) (hs : starEach [e] X.env = (false, eval e X.env) :: starEach [] X.env := by rfl) : PS X (.Raise (some (.Call (.Name x p) [e] [] pos)) none pos2) (tRaise X.K C fld te W) := by
  obtain ⟨fI, fd, y, EC, G, b⟩ := E.ex
  exact L2N.ps_raise hc tk (pmk_errN EC G b hr hg E.g he hdb hs)
end L2.TB
/-! a tuple taken apart while an exception is handled -/
namespace HN
open PySem PySem.Spec PySem.Calls PyProof.Rows L2 HotX L2H
section
variable {prog : Program} {w : World} {A : Around} {E : Value → Shared → Prop} {s : Shared}
theorem hot_keep {A : Around} {x1 : Addr} {h h' : Heap} (hot : HotAt A x1 h) (k : ∀ o, h.get? x1 = some o → h'.get? x1 = some o) : HotAt A x1 h' := let ⟨e, o, vs, a, b⟩ := hot; ⟨e, o, vs, k _ a, b⟩
theorem tup_end {it t x1 : Addr} {i : Nat} {items : Array Value} {Q : Option Value → Shared → Prop} (hot : HotAt A x1 s.heap) (ne : x1 ≠ it) (hit : IsTupIter s.heap it t i) (ht : IsTup s.heap t items) (hx : items[i]? = none)
    (hQ : ∀ h', Heap.ExtBut it s.heap h' → Q none { s with heap := h' }) : wpAny (model prog w) A (pyNext (.ref it)) Q E s := by
  obtain ⟨o, e1, _, e2⟩ := id hit
  obtain ⟨ol, e3, _, nl, e4⟩ := ht
  unfold pyNext
  refine wpAny_bind (wpAny_attempt (wpAny_callSpecial?_slot (name := Str.ofString "__next__") hit.typeIs slot_tupleiter_next (wpAny_call_entry slot_tupleiter_next hit.typeIs entry_tupleiter_next ?_ (args_tupleiter_next _))))
  show wpAny _ _ (field (.ref it) 0 >>= _) _ _ _
  refine wpAny_bind (wpAny_field e1 e2 (x := .ref t) rfl ?_)
  show wpAny _ _ (if (Value.ref t == Value.none) = true then _ else _) _ _ _
  rw [if_neg (fun z : (Value.ref t == Value.none) = true => Bool.false_ne_true z)]
  show wpAny _ _ (field (.ref it) 1 >>= _) _ _ _
  refine wpAny_bind (wpAny_field e1 e2 (x := .int i 0) rfl ?_)
  show wpAny _ _ (seqItems? (.ref t) >>= _) _ _ _
  refine wpAny_bind (wpAny_seqItems e3 e4 ?_)
  simp only [hx, Int.toNat_natCast]
  refine wpAny_bind (wpAny_rule (wpAny_bind (wpAny_setField e1 e2 (by simp) ?_)))
  show wpAny _ _ (newExc (.type "StopIteration") [] >>= _) _ _ _
  refine wpAny_bind ?_
  simp only [newTuple, newExc]
  refine wpAny_bind (wpAny_newObj_type ?_ (by size_fits))
  refine wpAny_bind (m := firstArgMember _ _) (wpAny_of_eq (a := Value.none) (by first | rfl | (simp only [firstArgMember]; rfl)) ?_)
  refine wpAny_newObj_type ?_ (by size_fits)
  have k1 : ∀ (f : Obj → Obj) b o, b ≠ it → s.heap.get? b = some o → (s.heap.update it f).get? b = some o := fun f b o nb k => by
    rw [Heap.get?_update_other _ _ (Ne.symm nb)]
    exact k
  have k2 : ∀ (f : Obj → Obj) (o1 o2 : Obj) b o, b ≠ it → s.heap.get? b = some o → (((s.heap.update it f).push o1).push o2).get? b = some o := fun f o1 o2 b o nb k => Heap.get?_push_of_some _ (Heap.get?_push_of_some _ (k1 f b o nb k))
  have hot2 := fun (f : Obj → Obj) (o1 o2 : Obj) => hot_keep hot (fun o k => k2 f o1 o2 x1 o ne k)
  have lt : ∀ (f : Obj → Obj) (o1 : Obj) b o, b ≠ it → s.heap.get? b = some o → b ≠ ((s.heap.update it f).push o1).objs.size := fun f o1 b o nb k => Nat.ne_of_lt (Heap.lt_size (Heap.get?_push_of_some o1 (k1 f b o nb k)))
  obtain ⟨_, ox, vx, ex, _⟩ := id hot
  refine raiseNew_hot (hot2 _ _ _) (lt _ _ x1 ox ne ex) (Heap.get?_push_size _ rfl) rfl (by first | (simp; done) | (simp; omega) | (simp only [Array.size_append]; simp; omega)) ?_
  refine wpAny_bind (wpAny_isInstance (T := "StopIteration") (b := true) ⟨_, Heap.get?_update_self _ (Heap.get?_push_size _ rfl) rfl, rfl⟩ isSubtype_stop (wpAny_pure (hQ _ fun b o nb k => ?_)))
  rw [Heap.get?_update_other _ _ (Ne.symm (lt _ _ b o nb k))]
  exact k2 _ _ _ b o nb k
theorem unpack_hot {t x1 : Addr} {items : Array Value} {Q : List Value → Shared → Prop} (hot : HotAt A x1 s.heap) (ht : IsTup s.heap t items) (hQ : ∀ h', Heap.ExtBut s.heap.objs.size s.heap h' → Q items.toList { s with heap := h' }) :
    wpAny (model prog w) A (unpackItems (.ref t) items.size none) Q E s := by
  have lt : t ≠ s.heap.objs.size := by
    obtain ⟨o, e, _⟩ := ht
    exact Nat.ne_of_lt (Heap.lt_size e)
  have lx : x1 ≠ s.heap.objs.size := by
    obtain ⟨_, o, _, e, _⟩ := hot
    exact Nat.ne_of_lt (Heap.lt_size e)
  unfold unpackItems notIterableAtAll
  refine wpAny_bind (wpAny_bind (wpAny_specialOf ht.typeIs slot_tuple_iter.lookup (wpAny_pure ?_)))
  simp only [if_false, Bool.false_eq_true]
  refine wpAny_bind (wpAny_holding (iter_tuple ht (wpAny_bind (wpAny_holding (draw_tuple lt items.size 0 _ _ ⟨_, Heap.get?_push_size _ rfl, rfl, rfl⟩ (ht.push _) (by omega) fun h1 i1 s1 => ?_)))))
  have all : List.take items.size (List.drop 0 items.toList) = items.toList := List.take_of_length_le (by simp)
  rw [all, if_neg (by simp)]
  refine wpAny_bind (wpAny_holding (tup_end (x1 := x1) (hot_keep hot fun o k => ?_) lx i1 ((ht.push _).extBut s1.extBut lt) (by simp) fun h2 x2 => ?_))
  · exact s1.extBut x1 o lx (Heap.get?_push_of_some _ k)
  · simp only [Bool.false_eq_true, Option.isSome_none, if_false]
    exact wpAny_pure (hQ h2 fun b o nb k => x2 b o nb (s1.extBut b o nb (Heap.get?_push_of_some _ k)))
end
theorem pg_hot {X : Cx} {pos : Pos} {es : List Expr} {k : Nat} {t : TGs} {n : Nat} (hc : HotC X) (h : PGs X es t) (hn : (assignEach es X.env).length = n := by rfl) (hst : (assignEach es X.env).findIdx? (·.1) = none := by rfl) : PG X (.Tuple es k pos) (gTup X.K n t) := by
  refine ⟨fun pins s σ H v u Q I r z => ?_⟩
  obtain ⟨a, xs, rfl, hq, hl, z⟩ := z
  cases r
  obtain ⟨its, rv, ht, _⟩ := I.tuple hq
  obtain ⟨x1, hot⟩ := hc.at I
  rw [assign_Tuple]
  refine wpAny_bind (wpAny_standAt ?_)
  unfold unpack
  rw [show (assignEach es X.env).length = its.toArray.size by simp [hn, ← hl, rv.length], hst]
  refine wpAny_bind (wpAny_holding (unpack_hot hot ht fun h' x => ?_))
  have I1 : Inv X pins σ H { s with heap := h' } := I.kept (t' := s.toks) fun b o e => x b o (Nat.ne_of_lt (Heap.lt_size e)) e
  exact h.run pins _ σ H xs _ Q I1 (by simpa using rv) z
end HN
/-! try: return e / finally: suite, the suite run while the error is handled -/
namespace HN
open PySem PySem.Spec PyProof.Rows L2 HotX L2H
section
variable {X : Cx} {e : Expr} {f0 : Stmt} {fs : List Stmt} {rp pos : Pos} {te : WX → TE} {tf tfs : TS} {Wout : WX}
theorem fin_fly {pins : List (Addr × Obj)} {D : Ends} {u : Value} {s' : Shared} (hs : X.stack = X.env :: X.outer) (hf : X.env.frame = some X.env.locals) (hex : X.ex = []) (ok : X.Ok) (tk : L2N.Takes X Wout)
    (su : ∀ (a : Addr) (pn : List (Addr × Obj)), HotC (X.suite a pn) → PSs (X.suite a pn) (f0 :: fs) tfs)
    (xx : L2N.XE (X.tr (X.pn ++ pins) (fun x t => wpAny (model X.prog X.w) X.A (noteFrame x X.env) (fun _ t2 => FinallyRaised X.prog X.w X.A X.xe X.env (f0 :: fs) (SP X pins D) x t2) (FinallyRaised X.prog X.w X.A X.xe X.env (f0 :: fs) (SP X pins D)) t)) (wFin tfs Wout) u s') :
    wpAny (model X.prog X.w) X.A (noteFrame u X.env) (fun _ t2 => FinallyRaised X.prog X.w X.A X.xe X.env (f0 :: fs) (SP X pins D) u t2) (FinallyRaised X.prog X.w X.A X.xe X.env (f0 :: fs) (SP X pins D)) s' := by
  have fr : X.A.frames = some (X.env :: X.outer) := by
    rw [ok.frames, hs]
  obtain ⟨a, B, t0, pins', σ1, H1, cls, d, rfl, J0, ground, up0, air, na, eo, bare, hw⟩ := xx
  have J : Inv X pins σ1 H1 t0 := J0.ofTry ok
  rw [show (X.tr (X.pn ++ pins) _).stack = X.env :: X.outer from hs] at air
  have steady := L2N.Zn.steady (cls := cls) (d := d)
  have go : ∀ m1, HandSPX.HeldZ B (X.env :: X.outer) a (L2N.Zn cls d) X.env.locals m1 → s'.heap.UpToSlots m1 → FinallyRaised X.prog X.w X.A X.xe X.env (f0 :: fs) (SP X pins D) (.ref a) { s' with heap := m1 } := fun m1 held up1 => by
    refine ⟨ref_ne_byPass a, HandSPX.againZ hf held.2.2.2 (HandSPX.landsZ held fun m3 fly up3 => ?_)⟩
    have J3 : Inv X pins σ1 H1 { s' with heap := m3 } := J.landed ground fly.1 ((up0.trans up1).trans up3) eo bare
    obtain ⟨_, goneA, frames3, oe, vs, T, oT, ts, getA, zn, flds, at1, goneT, notT, getT, fldT, szT⟩ := id fly
    have nT : H1 T = none := (J.inGround ground).gone goneT
    have noFrame : ∀ (b : Addr) (o : Obj) (fv : Array Value), m3.get? b = some o → o.data = .fields fv → ¬ b ∈ frs (X.env :: X.outer) := fun b o fv k dd mem => by
      obtain ⟨_, o2, k2, bad⟩ := frames3.mem mem
      rw [k] at k2
      cases k2
      exact bad _ dd
    have own : X.env.locals ∈ frs (X.env :: X.outer) := List.mem_filterMap.mpr ⟨_, List.mem_cons_self, hf⟩
    have below : ∀ b ∈ X.fs, b ∈ frs (X.env :: X.outer) := fun b mem => by
      obtain ⟨v, hv, k⟩ := List.mem_filterMap.mp mem
      exact List.mem_filterMap.mpr ⟨v, List.mem_cons_of_mem _ hv, k⟩
    have fa := noFrame a oe vs getA flds
    have fT := noFrame T oT ts getT fldT
    have hot : HotC (X.suite a ((a, oe) :: (T, oT) :: (X.pn ++ pins))) := ⟨(a, oe), ⟨rfl, vs, flds, zn.2.2 vs flds⟩, List.mem_cons_self⟩
    have one : ∀ (b : Addr) (o : Obj) (fv : Array Value), m3.get? b = some o → o.data = .fields fv → H1 b = none → ¬ b ∈ frs (X.env :: X.outer) → m3.get? b = some o ∧ H1 b = none ∧ b ≠ X.env.locals ∧ b ∉ X.fs ∧ ∀ v, o.data ≠ .cell v := fun b o fv k dd n nf =>
      ⟨k, n, fun z => nf (z ▸ own), fun z => nf (below _ z), fun v z => by rw [dd] at z; cases z⟩
    have S3 : Inv (X.suite a ((a, oe) :: (T, oT) :: (X.pn ++ pins))) [] σ1 H1 { s' with heap := m3 } :=
      { ok := J3.ok.suite _ _, os := J3.os, bare := J3.bare, base := J3.base, loc := J3.loc, cell := J3.cell, free := J3.free, freeC := J3.freeC, hok := J3.hok, len := J3.len
        pin := fun p mem => by
          rw [List.append_nil] at mem
          rcases List.mem_cons.mp mem with z | mem
          · rw [z]
            exact one a oe vs getA flds na fa
          · rcases List.mem_cons.mp mem with z | mem
            · rw [z]
              exact one T oT ts getT fldT nT fT
            · exact J3.pin p mem }
    refine wpAny_mono ((su a _ hot).run [] { s' with heap := m3 } σ1 H1 { nx := fun σ2 H2 => Wout cls d σ2 H2, rt := fun _ _ => False } S3 hw) (fun fl s6 end_ => ?_) fun _ _ z => z.elim
    cases fl with
    | ret u =>
      obtain ⟨_, _, _, _, _, z⟩ := end_
      exact z.elim
    | brk =>
      obtain ⟨_, _, _, z⟩ := end_
      exact z.elim
    | cont =>
      obtain ⟨_, _, _, z⟩ := end_
      exact z.elim
    | next =>
      obtain ⟨σ6, H6, S6, w6⟩ := end_
      have J6 : Inv X pins σ6 H6 s6 := { ok := ok, os := S6.os, bare := S6.bare, base := S6.base, loc := S6.loc, cell := S6.cell, free := S6.free, freeC := S6.freeC, hok := S6.hok, len := S6.len
                                         pin := fun p mem => S6.pin p (List.mem_append_left _ (List.mem_cons_of_mem _ (List.mem_cons_of_mem _ mem))) }
      obtain ⟨gA, nA6, _⟩ := S6.pin (a, oe) (List.mem_append_left _ List.mem_cons_self)
      obtain ⟨gT, nT6, _⟩ := S6.pin (T, oT) (List.mem_append_left _ (List.mem_cons_of_mem _ List.mem_cons_self))
      have away : ∀ b o, t0.heap.get? b = some o → b ≠ a ∧ b ≠ T := fun b o k => by
        by_cases mem : b ∈ frs X.stack
        · rw [hs] at mem
          exact ⟨fun z => fa (z ▸ mem), fun z => fT (z ▸ mem)⟩
        · have z := ground b o k mem
          refine ⟨fun y => ?_, fun y => ?_⟩
          · rw [y, goneA] at z; cases z
          · rw [y, goneT] at z; cases z
      have away0 : ∀ b o, X.s_0.heap.get? b = some o → b ≠ a ∧ b ≠ T := fun b o k => by
        obtain ⟨o2, z⟩ := J.base.there b o k (by rw [hex]; simp)
        exact away b o2 z
      obtain ⟨G, inG, outG⟩ := restrict s6.heap fun b => !(decide (b = a) || decide (b = T))
      have keepG : ∀ b o, b ≠ a → b ≠ T → s6.heap.get? b = some o → G.get? b = some o := fun b o n1 n2 k => (inG b (by simp [n1, n2])).trans k
      have ofG : ∀ b o, G.get? b = some o → s6.heap.get? b = some o ∧ b ≠ a ∧ b ≠ T := fun b o k => by
        by_cases n1 : b = a
        · rw [outG b (by simp [n1])] at k; cases k
        · by_cases n2 : b = T
          · rw [outG b (by simp [n2])] at k; cases k
          · exact ⟨(inG b (by simp [n1, n2])).symm.trans k, n1, n2⟩
      have I6 : Inv X pins σ6 H6 { s6 with heap := G } := J6.less (fun b o k => (ofG b o k).1) keepG ⟨oe, vs, gA, flds⟩ ⟨oT, ts, gT, fldT⟩ nA6 nT6 away0 fun p mem => away p.1 p.2 (J.pin p mem).1
      have hid : ∀ b, (b = a ∨ b = T) → (PySem.W.hideAll G (frs X.stack)).get? b = none := fun b two => by
        cases z : (PySem.W.hideAll G (frs X.stack)).get? b with
        | none => rfl
        | some o =>
          obtain ⟨_, n1, n2⟩ := ofG b o (PySem.W.of_hideAll _ z)
          exact two.elim (fun y => absurd y n1) fun y => absurd y n2
      have ff := funFrames_none (B := PySem.W.hideAll G (frs X.stack)) J6.stack fun b mem => PySem.W.hideAll_none _ mem
      have fly6 : HandSPX.FlyingZ (PySem.W.hideAll G (frs X.stack)) X.stack a (L2N.Zn cls d) s6.heap :=
        ⟨fun b o k => (ofG b o (PySem.W.of_hideAll _ k)).1, hid a (.inl rfl), ff, oe, vs, T, oT, ts, gA, zn, flds, at1, hid T (.inr rfl), notT, gT, fldT, szT⟩
      show wpAny (model X.prog X.w) X.A (PySem.passOn "try.finally" (.ref a) X.env) (SP X pins D) X.xe s6
      unfold PySem.passOn
      refine wpAny_bind (wpAny_field gA flds at1 ?_)
      rw [if_neg (show ¬ ((Value.ref T == Value.none) = true) from by simp)]
      have on_ : wpAny (model X.prog X.w) X.A (setFlight (.ref a) X.env.frame) (fun _ t7 => wpAny (model X.prog X.w) X.A (throw (.ref a) : Sem Flow) (SP X pins D) X.xe t7) X.xe s6 := by
        rw [hs] at fly6
        rw [hf]
        refine HandSPX.setFlight_upZ fly6 fun m7 held7 up7 => wpAny_throw (tk _ _ ⟨a, PySem.W.hideAll G (frs X.stack), { s6 with heap := G }, pins, σ6, H6, cls, d, rfl, I6, fun b o k nf => PySem.W.hideAll_get _ k nf, ?_, .inr (.inr ?_), nA6, rfl, J6.bare, w6⟩)
        · exact (Heap.UpToSlots.of_keeps fun b o k => (ofG b o k).1).trans up7
        · rw [hs]
          exact held7
      first
        | exact wpAny_bind on_
        | exact wpAny_bind (wpAny_pure (wpAny_bind on_))
  show wpAny (model X.prog X.w) X.A (noteFrame (.ref a) X.env) _ _ _
  rcases air with ⟨st, nB, fF, oe, vs, k0, zn, flds, at1⟩ | fly | held
  · exact PXN.look_newZ steady fr fF hf k0 st nB flds at1 zn go
  · exact PXN.looks_onZ steady fr hf fly go
  · exact HandSPX.againZ hf held.2.2.2 (go s'.heap held (Heap.UpToSlots.refl _))
theorem ps_finN (hs : X.stack = X.env :: X.outer) (hf : X.env.frame = some X.env.locals) (hex : X.ex = []) (tk : L2N.Takes X Wout)
    (he : ∀ (W : WX) (pn : List (Addr × Obj)) (xe : Value → Shared → Prop), L2N.Takes (X.tr pn xe) W → PE (X.tr pn xe) e (te W)) (fin : PSs X.nox (f0 :: fs) tf) (su : ∀ (a : Addr) (pn : List (Addr × Obj)), HotC (X.suite a pn) → PSs (X.suite a pn) (f0 :: fs) tfs) :
    PS X (.Try [.Return (some e) rp] [] [] (f0 :: fs) pos) (tRetFinX te tf tfs Wout) := by
  refine ⟨fun pins s σ H D I h => ?_⟩
  have ok := I.ok
  refine wpAny_Try_finally (wpAny_execs_cons (wpAny_Return_some (wpAny_mono ((he (wFin tfs Wout) (X.pn ++ pins) _ (fun u s' xx => ?_)).run [] s σ H (fun v H1 => tf { D with nx := fun _ H2 => D.rt v H2 } σ H1) (I.toTry _) h) (fun u s1 z => ?_) (fun x s1 hx => hx))))
  · exact fin_fly hs hf hex ok tk su xx
  · obtain ⟨v, H1, I1, r1, q1⟩ := z
    exact fin_ret fin (I1.ofTry ok) r1 q1
end
end HN
/-! trial -/
namespace LM
open PySem PySem.Spec PyProof.Rows L2
/-- o.f = .., as a target among several -/
def gFld (K : PySem.W.Frag) (to : TE) (f : Str) : TG := fun v σ H Q => to σ H fun x H1 => ∃ (a C dx : Addr) (fs : List (Str × V)), x = .ref a ∧ H1 a = some (.ins C dx fs) ∧ Cls K C ∧ NoAttr K C f ∧ fs.length < 1000 ∧ Q σ (upd H1 a (.ins C dx (putF f v fs)))
theorem pg_fld {X : Cx} {o : Expr} {to : TE} {f : Str} {pos : Pos} (ho : PE X o to) : PG X (.Attribute o f pos) (gFld X.K to f) := by
  refine ⟨fun pins s σ H v u Q I r h => ?_⟩
  rw [assign_Attribute]
  refine wpAny_bind (wpAny_holding (thn (ho.run pins s σ H _ I h) fun ov s1 ⟨x, H1, I1, r1, a, C, dx, fs, ex, ea, c, n, l, z⟩ => ?_))
  subst ex
  obtain rfl : ov = Value.ref a := r1
  exact wpAny_bind (wpAny_standAt (wpAny_bind (wpAny_holding (setattr_ok I1 ea c n l r fun s2 I2 => wpAny_release ⟨σ, _, I2, z⟩))))
end LM
namespace L2.TB
open PySem PySem.Spec PyProof.Rows LM
/-- the file's fields are put back -/
def Back (p C : Addr) (tn tp tu : V) (H2 : Hp) (k : Hp → Prop) : Prop := ∃ (dx : Addr) (fa tn' tp' tu' : V), H2 p = some (.ins C dx (fF fa tn' tp' tu')) ∧
  ∀ H3, H3 p = some (.ins C dx (fF fa tn tp tu)) → (∀ b o, b ≠ p → H2 b = some o → H3 b = some o) → (∀ b, b ≠ p → H3 b = none → H2 b = none) → k H3
def TTrial (C : Addr) : (V → XK → Hp → VK → Prop) → V → Hp → VK → XK → Prop := fun tl u H Q E => ∃ (p dx : Addr) (fa tn tp tu : V), u = .ref p ∧ H p = some (.ins C dx (fF fa tn tp tu)) ∧
  ∀ (E' : XK) (Q' : VK), (∀ cls d H2, Back p C tn tp tu H2 (fun H3 => E cls d H3) → E' cls d H2) → (∀ v H2, Back p C tn tp tu H2 (fun H3 => Q v H3) → Q' v H2) → tl u E' H Q'
abbrev NTr : List Str := ["self", "work", "now", "past", "future"]
theorem scTr : FnScope NTr ["self", "work"] (defScope sTrial) := ⟨rfl, rfl, rfl, by decide +kernel, rfl, by decide +kernel, by decide +kernel⟩
section
variable {X : Cx} {g C : Addr} {cdg : Value} {q : Str}
theorem back_run {T : FilC X.K C} {p dx : Addr} {fa tn tp tu tn' tp' tu' : V} {H2 : Hp} {σ : L2.St} (h0 : σ[0]? = some (some (.ref p))) (h2 : σ[2]? = some (some tn)) (h3 : σ[3]? = some (some tp)) (h4 : σ[4]? = some (some tu)) {D : Ends}
    (hp : H2 p = some (.ins C dx (fF fa tn' tp' tu'))) (go : ∀ H3, H3 p = some (.ins C dx (fF fa tn tp tu)) → (∀ b o, b ≠ p → H2 b = some o → H3 b = some o) → (∀ b, b ≠ p → H3 b = none → H2 b = none) → D.nx σ H3) :
    tAsg (tTup (tCons (tVar 2) (tCons (tVar 3) (tCons (tVar 4) tNil)))) (gTup X.K 3 (gCons (gFld X.K (tVar 0) "_now") (gCons (gFld X.K (tVar 0) "_past") (gCons (gFld X.K (tVar 0) "_future") gNil)))) D σ H2 := by
  refine ⟨tn, h2, tp, h3, tu, h4, (by show 3 ≤ sizeLine; decide), fun t nt => ?_⟩
  have np : t ≠ p := (ne_of_none hp nt).symm
  refine ⟨t, _, rfl, SqT.of upd_same, rfl, ?_⟩
  refine ⟨_, _, rfl, _, h0, p, C, dx, _, rfl, by rw [upd_ne np.symm]; exact hp, T.cl, T.nN, (by show 4 < 1000; omega), ?_⟩
  refine ⟨_, _, rfl, _, h0, p, C, dx, _, rfl, upd_same, T.cl, T.nP, (by show 4 < 1000; omega), ?_⟩
  refine ⟨_, _, rfl, _, h0, p, C, dx, _, rfl, upd_same, T.cl, T.nU, (by show 4 < 1000; omega), rfl, ?_⟩
  refine go _ upd_same (fun b o nb e => ?_) fun b nb e => ?_
  · rw [upd_ne nb, upd_ne nb, upd_ne nb, upd_ne (ne_of_none e nt)]
    exact e
  · rw [upd_ne nb, upd_ne nb, upd_ne nb] at e
    exact NdefX.upd_none e
theorem trial_gives (T : FilC X.K C) : LM.Gives1 X NTr "File.trial" (defScope sTrial) g cdg (defBody sTrial) "work" q (TTrial C) := by
  intro f c P2 s H Q E u tl act hco h
  have nd := scTr.nd
  let Z := cxOf (L2N.CX X.prog X.w) X.prog X.w X.K X.mg X.base NTr "File.trial" (defScope sTrial) g cdg X.A X.stack s H E
  refine ⟨_, pss_cons (ps_par3 (i := 2) (j := 3) (l := 4) rfl nd rfl rfl rfl (by decide) (by decide) (by decide) rfl rfl rfl (pa_cons (pe_fld (pv 0) rfl) (pa_cons (pe_fld (pv 0) rfl) (pa_cons (pe_fld (pv 0) rfl) pa_nil))) rfl)
    (pss_one (HN.ps_finN (tf := tAsg (tTup (tCons (tVar 2) (tCons (tVar 3) (tCons (tVar 4) tNil)))) (gTup X.K 3 (gCons (gFld X.K (tVar 0) "_now") (gCons (gFld X.K (tVar 0) "_past") (gCons (gFld X.K (tVar 0) "_future") gNil))))) (tfs := tAsg (tTup (tCons (tVar 2) (tCons (tVar 3) (tCons (tVar 4) tNil)))) (gTup X.K 3 (gCons (gFld X.K (tVar 0) "_now") (gCons (gFld X.K (tVar 0) "_past") (gCons (gFld X.K (tVar 0) "_future") gNil))))) (Wout := fun cls d _ H => E cls d H) (te := fun W σ H Q => σ[1]? = some (some (.ref f)) ∧ tVar 0 σ H fun v H1 => H1 c = some (CodeP c q P2) ∧ tl v (WE W σ) H1 Q)
      rfl rfl rfl (L2N.takes_of rfl rfl rfl rfl) (fun W pn xe tk => act W pn xe _ _ _ _ tk (pv 0) rfl)
      (pss_one (ps_asg (pe_tup (pa_cons (pv 2) (pa_cons (pv 3) (pa_cons (pv 4) pa_nil)))) (pg_tup rfl (pgs_cons (pg_fld (pv 0)) (pgs_cons (pg_fld (pv 0)) (pgs_cons (pg_fld (pv 0)) pgs_nil))))))
      (fun a pn hc => pss_one (X := Z.suite a pn) (ps_asg (X := Z.suite a pn) (pe_tup (X := Z.suite a pn) (pa_cons (pv 2) (pa_cons (pv 3) (pa_cons (pv 4) pa_nil)))) (HN.pg_hot (X := Z.suite a pn) hc (pgs_cons (pg_fld (pv 0)) (pgs_cons (pg_fld (pv 0)) (pgs_cons (pg_fld (pv 0)) pgs_nil)))))))), ?_⟩
  obtain ⟨p, dx, fa, tn, tp, tu, rfl, hp, ht⟩ := h
  refine ⟨_, rfl, p, C, dx, _, _, rfl, hp, T.cl, T.nN, rfl, _, rfl, p, C, dx, _, _, rfl, hp, T.cl, T.nP, rfl, _, rfl, p, C, dx, _, _, rfl, hp, T.cl, T.nU, rfl, _, _, _, rfl, ?_⟩
  refine ⟨rfl, _, rfl, hco, ?_⟩
  refine ht _ _ (fun cls d H2 ⟨dx', fa', tn', tp', tu', h2, go⟩ => ?_) fun v H2 ⟨dx', fa', tn', tp', tu', h2, go⟩ => ?_
  · exact back_run (T := T) rfl rfl rfl rfl h2 go
  · exact back_run (T := T) rfl rfl rfl rfl h2 go
end
end L2.TB
namespace L2.TB
open PySem PySem.Spec PyProof.Rows
/-! the law's own look at pairs of rows -/
theorem ints_shape : ∀ ks : List Int, PyData.canLayAll0 (ks.map PyData.int) = true ∧ PyData.depthAll (ks.map PyData.int) = 0
  | [] => ⟨by simp [PyData.canLayAll0], by simp [PyData.depthAll]⟩
  | b :: bs => by
    obtain ⟨h1, h2⟩ := ints_shape bs
    exact ⟨by simp [PyData.canLayAll0, PyData.canLay0, h1], by simp [PyData.depthAll, PyData.depth, h2]⟩
theorem tup_shaped (ks : List Int) : SeqAt.shaped (.tuple (ks.map PyData.int)) = true := by
  obtain ⟨h1, h2⟩ := ints_shape ks
  unfold SeqAt.shaped
  simp [PyData.canLay0, PyData.depth, h1, h2]
theorem tup_eqvAll : ∀ a b : List Int, PyData.eqvAll (a.map PyData.int) (b.map PyData.int) = decide (a = b)
  | [], [] => by simp [PyData.eqvAll]
  | [], _ :: _ => by simp [PyData.eqvAll]
  | _ :: _, [] => by simp [PyData.eqvAll]
  | x :: a, y :: b => by
    rw [List.map_cons, List.map_cons, PyData.eqvAll, tup_eqvAll a b, PyData.eqv]
    by_cases h1 : x = y
    · by_cases h2 : a = b <;> simp [h1, h2]
    · simp [h1]
theorem tup_eqv (a b : List Int) : PyData.eqv (.tuple (a.map PyData.int)) (.tuple (b.map PyData.int)) = decide (a = b) := by rw [PyData.eqv, tup_eqvAll]
theorem dk_av {ns : List Str} {vs : List Int} {x : Str} (nd : ns.Nodup) (hl : vs.length = ns.length) (xin : x ∈ ns) : valV (dk ns vs) (Sum.inr x) = some (.int (av ns vs x)) := by
  have lt : idx ns x < ns.length := List.idxOf_lt_length_of_mem xin
  have e1 : ns[idx ns x]? = some x := by
    rw [List.getElem?_eq_getElem lt]
    exact congrArg some (List.getElem_idxOf lt)
  have e2 : vs[idx ns x]? = some (av ns vs x) := by
    unfold av
    rw [List.getD_eq_getElem?_getD, List.getElem?_eq_getElem (by omega)]
    rfl
  have edk : (dk ns vs)[idx ns x]? = some (Sum.inr x, V.int (av ns vs x)) := by
    unfold dk
    rw [List.getElem?_map, List.getElem?_zip_eq_some.mpr (show ns[idx ns x]? = some (x, av ns vs x).1 ∧ vs[idx ns x]? = some (x, av ns vs x).2 from ⟨e1, e2⟩)]
    rfl
  obtain ⟨z', n', q1, q2, _, hv⟩ := dk_at edk nd hl.symm
  obtain rfl := Sum.inr.inj q1
  obtain rfl := V.int.inj q2
  exact hv
theorem SqA.ho {K : PySem.W.Frag} {H : Hp} {a : Addr} {xs : List V} (h : SqA K H a xs) : ∃ o, H a = some o ∧ (o = .lst xs ∨ o = .tup xs) := by
  rcases h with e | e
  · exact ⟨_, e, .inl rfl⟩
  · exact ⟨_, e, .inr rfl⟩
theorem rd_same {H H' : Hp} {d : Addr} {u : HO} (h : Rd H d u) (s : Same H H') : Rd H' d u := h.imp (s _ _) fun ⟨o, e⟩ => ⟨o, s _ _ e⟩
theorem dget_r {H : Hp} {a : Addr} {kvs : List (Key × V)} {k : Key} (e : Rd H a (.dK kvs)) : DGet H a (kV k) (valV kvs k) := .inl ⟨kvs, k, e, rfl, rfl⟩
/-- rows that are read, one of them perhaps being walked -/
def RRows (H : Hp) (ns : List Str) : List Addr → List (List Int) → Prop := Paired fun a vs => Rd H a (.dK (dk ns vs)) ∧ vs.length = ns.length
theorem RRows.same {H H' : Hp} {ns : List Str} {as : List Addr} {tbl : List (List Int)} (r : RRows H ns as tbl) (s : Same H H') : RRows H' ns as tbl := Paired.mapP r fun a vs h => ⟨rd_same h.1 s, h.2⟩
theorem DRows.rd {H : Hp} {ns : List Str} {as : List Addr} {tbl : List (List Int)} (r : DRows H ns as tbl) : RRows H ns as tbl := Paired.mapP r fun a vs h => ⟨.inl h.1, h.2⟩
def spKey (K : PySem.W.Frag) : Sp := fun vs H Q _ => ∃ (a c : Addr) (ns known : List Str) (us : List Int), vs = [.ref a, .ref c] ∧ Rd H a (.dK (dk ns us)) ∧ us.length = ns.length ∧ ns.Nodup ∧ SqA K H c (known.map V.str) ∧ (∀ x ∈ known, x ∈ ns) ∧ known.length < 1000 ∧
  ∀ H' t, H t = none → H' t = some (.tup ((keyR ns known us).map V.int)) → Same H H' → Q (.ref t) H'
structure Told (K : PySem.W.Frag) (H : Hp) (r c : Addr) (as : List Addr) (ns known : List Str) (tbl : List (List Int)) : Prop where
  r : H r = some (.lst (as.map V.ref))
  rows : RRows H ns as tbl
  k : SqA K H c (known.map V.str)
  sub : ∀ x ∈ known, x ∈ ns
  short : known.length < 1000
  ndn : ns.Nodup
theorem Told.same {K : PySem.W.Frag} {H H' : Hp} {r c : Addr} {as : List Addr} {ns known : List Str} {tbl : List (List Int)} (h : Told K H r c as ns known tbl) (s : Same H H') : Told K H' r c as ns known tbl :=
  ⟨s _ _ h.r, h.rows.same s, h.k.same s, h.sub, h.short, h.ndn⟩
def spTells (K : PySem.W.Frag) : Sp := fun vs H Q _ => ∃ (r c : Addr) (as : List Addr) (ns known : List Str) (x : Str) (tbl : List (List Int)), vs = [.ref r, .ref c, .str x] ∧ Told K H r c as ns known tbl ∧ x ∈ ns ∧ ∀ H', Same H H' → Q (.bl (decide (Tells ns tbl known x))) H'
abbrev NK : List Str := ["row", "known", "name"]
theorem scKey : FnScope NK ["row", "known"] (defScope sKey) := ⟨rfl, rfl, rfl, by decide +kernel, rfl, by decide +kernel, by decide +kernel⟩
abbrev NTl : List Str := ["rows", "known", "asked", "one", "other"]
theorem scTells : FnScope NTl ["rows", "known", "asked"] (defScope sTells) := ⟨rfl, rfl, rfl, by decide +kernel, rfl, by decide +kernel, by decide +kernel⟩
section
variable {P : Program} {w : World} {K : PySem.W.Frag} {mg : Str → Option Value} {base : Heap} {f fK : Addr} {fd fdK : FuncData}
theorem ok_key (F : Fun K "_law_t_key" "_law_t_key" sKey f fd) (gT : mg "tuple" = none) : FnOk P w K mg base CX0 1 f fd ["row", "known"] (spKey K) := by
  refine F.ok scKey (fun vs H Q E h => by obtain ⟨a, c, ns, known, us, e, _⟩ := h; rw [e]; rfl) fun cdv A outer s H vs Q E hr hsp => ?_
  obtain ⟨a, c, ns, known, us, rfl, ha, hl, ndn, hc, sub, short, hq⟩ := hsp
  have nd := scKey.nd
  have hu := hu_of hr
  refine ⟨_, pss_one (ps_ret (pe_callTy (r := rTupOf K) call_tuple_of rfl gT boot_tuple' (pa_cons (pe_lc (own := [("name", 2)]) (tt := tYes) rfl nd (pi_seq (pv 1)) (blkOk_by (N := NK) (sc := defScope sKey) (by decide +kernel)) (fun _ _ _ _ _ => pg_name (i := 2) nd rfl (Or.inl rfl)) (fun _ _ _ _ _ => pts_nil)
    (fun _ _ _ _ _ => pe_dget hu (pv 0) (pv 2) (fun _ _ => rfl))) pa_nil))), ?_⟩
  obtain ⟨o, ho, ko⟩ := hc.ho
  refine ⟨_, rfl, lc_seq ko ho (by rw [List.length_map]; omega) (fun _ => true) (fun v => match v with | .str x => .int (av ns us x) | _ => .non) ?_ ?_⟩
  · rintro i v H2 Cn Nn ev s2 yes no
    rw [List.getElem?_map] at ev
    obtain ⟨x, ex, rfl⟩ := Option.map_eq_some_iff.mp ev
    have xin : x ∈ ns := sub x (List.mem_of_getElem? ex)
    refine ⟨rfl, ?_⟩
    exact ⟨_, rfl, _, rfl, a, _, rfl, dk_av ndn hl xin ▸ dget_r (k := Sum.inr x) (rd_same ha s2), yes rfl H2 (Same.refl _)⟩
  · intro H2 D nD oD s2
    have e : ((known.map V.str).filter fun _ => true).map (fun v => match v with | .str x => V.int (av ns us x) | _ => .non) = (keyR ns known us).map V.int := by
      rw [List.filter_eq_self.mpr (fun _ _ => rfl), List.map_map]
      unfold keyR
      rw [List.map_map]
      rfl
    rw [e] at oD
    exact ⟨D, _, rfl, .inl ⟨SqL.of oD, fun t nt => hq _ t (s2.free nt) upd_same (s2.trans (same_new nt))⟩⟩
theorem ok_tells (F : Fun K "_law_t_tells" "_law_t_tells" sTells f fd) (FK : Fun K "_law_t_key" "_law_t_key" sKey fK fdK) (gK : mg "_law_t_key" = some (.ref fK)) (gT : mg "tuple" = none) : FnOk P w K mg base CX0 2 f fd ["rows", "known", "asked"] (spTells K) := by
  have G : FnOk P w K mg base CX0 1 fK fdK ["row", "known"] (spKey K) := ok_key FK gT
  have b := FK.binds (ps := ["row", "known"]) fun _ _ _ _ _ _ us hl => match us, hl with | [_, _], _ => rfl
  refine F.ok scTells (fun vs H Q E h => by obtain ⟨r, c, as, ns, known, x, tbl, e, _⟩ := h; rw [e]; rfl) fun cdv A outer s H vs Q E hr hsp => ?_
  obtain ⟨r, c, as, ns, known, x, tbl, rfl, T, xin, hq⟩ := hsp
  have nd := scTells.nd
  have hu := hu_of hr
  have hu64 := hr.units
  refine ⟨_, pss_cons (ps_for PassesOwn.never rfl (pi_list (pv 0)) (pg_name (i := 3) nd rfl (Or.inl rfl))
      (pss_one (ps_for PassesOwn.never rfl (pi_list (pv 0)) (pg_name (i := 4) nd rfl (Or.inl rfl))
        (pss_one (ps_if (PW.pt (pw_and (pt_cmpR (op_eqD hu64) (pe_call G hr rfl gK FK.kp b .nil pass0 (pa_cons (pv 3) (pa_cons (pv 1) pa_nil))) (pe_call G hr rfl gK FK.kp b .nil pass0 (pa_cons (pv 4) (pa_cons (pv 1) pa_nil))) (nomark _))
          (pw_and1 (pt_cmpR op_ne (pe_dget hu (pv 3) (pv 2) (fun _ _ => rfl)) (pe_dget hu (pv 4) (pv 2) (fun _ _ => rfl)) (nomark _))))) (pss_one (ps_ret pe_bl)) pss_nil)))))
    (pss_one (ps_ret pe_bl)), ?_⟩
  have las : as.length = tbl.length := Paired.length T.rows
  have lm : (as.map V.ref).length = tbl.length := by rw [List.length_map, las]
  refine ⟨_, rfl, r, rfl, ⟨_, SqL.of T.r⟩, for_list (xs := as.map V.ref) (fun i σ H' => Same H H' ∧ (∃ s3 s4, σ = [some (.ref r), some (.ref c), some (.str x), s3, s4]) ∧ ∀ u ∈ tbl.take i, ∀ v ∈ tbl, keyR ns known u = keyR ns known v → av ns u x = av ns v x)
    ⟨Same.refl _, ⟨_, _, rfl⟩, fun u hu => by simp at hu⟩ (fun i σ H' _ h => SqL.of (h.1 _ _ T.r)) ?_ ?_⟩
  · rintro i v σ H2 ev ⟨s2, ⟨s3', s4', rfl⟩, all⟩
    rw [List.getElem?_map] at ev
    obtain ⟨a, ea, rfl⟩ := Option.map_eq_some_iff.mp ev
    obtain ⟨u, eu, oa, lu⟩ := paired_get T.rows ea
    have uin : u ∈ tbl := List.mem_of_getElem? eu
    refine ⟨_, rfl, r, rfl, ⟨_, SqL.of (s2 _ _ T.r)⟩, for_list (xs := as.map V.ref) (fun j σ H' => Same H H' ∧ (∃ s4, σ = [some (.ref r), some (.ref c), some (.str x), some (.ref a), s4]) ∧ ∀ v ∈ tbl.take j, keyR ns known u = keyR ns known v → av ns u x = av ns v x)
      ⟨s2, ⟨_, rfl⟩, fun v hv => by simp at hv⟩ (fun i σ H' _ h => SqL.of (h.1 _ _ T.r)) ?_ ?_⟩
    · rintro j w' σ H3 ew ⟨s3, ⟨s4, rfl⟩, allj⟩
      rw [List.getElem?_map] at ew
      obtain ⟨a', ea', rfl⟩ := Option.map_eq_some_iff.mp ew
      obtain ⟨v, ev2, oa', lv⟩ := paired_get T.rows ea'
      have vin : v ∈ tbl := List.mem_of_getElem? ev2
      have e1 : tbl.take (j + 1) = tbl.take j ++ [v] := by rw [List.take_succ, ev2]; rfl
      refine ⟨_, rfl, _, rfl, a, c, ns, known, u, rfl, rd_same oa s3, lu, T.ndn, T.k.same s3, T.sub, T.short, fun H4 t4 n4 o4 s4 => ?_⟩
      have s34 := s3.trans s4
      refine ⟨_, rfl, _, rfl, a', c, ns, known, v, rfl, rd_same oa' s34, lv, T.ndn, T.k.same s34, T.sub, T.short, fun H5 t5 n5 o5 s5 => ?_⟩
      have s35 := s34.trans s5
      refine ⟨_, _, .tup (SqT.of (s5 _ _ o4)) (dp_ints _), .tup (SqT.of o5) (dp_ints _), tup_shaped _, tup_shaped _, _, rfl, ?_⟩
      rw [tup_eqv]
      have step : (keyR ns known u = keyR ns known v → av ns u x = av ns v x) → ∀ v ∈ tbl.take (j + 1), keyR ns known u = keyR ns known v → av ns u x = av ns v x := fun z v' hv' => by
        rw [e1] at hv'
        rcases List.mem_append.mp hv' with q | q
        · exact allj v' q
        · rw [List.mem_singleton.mp q]; exact z
      by_cases ek : keyR ns known u = keyR ns known v
      · rw [decide_eq_true ek]
        refine iteT ⟨_, rfl, _, rfl, a, _, rfl, dk_av T.ndn lu xin ▸ dget_r (k := Sum.inr x) (rd_same oa s35), _, rfl, _, rfl, a', _, rfl, dk_av T.ndn lv xin ▸ dget_r (k := Sum.inr x) (rd_same oa' s35), rfl, _, rfl, ?_⟩
        rw [dec_int2]
        by_cases ea : av ns u x = av ns v x
        · rw [decide_eq_true ea]
          exact iteF ⟨s35, ⟨_, rfl⟩, step fun _ => ea⟩
        · rw [decide_eq_false ea]
          refine iteT ?_
          have z := hq H5 s35
          rw [decide_eq_false (fun T' : Tells ns tbl known x => ea (T' u uin v vin ek))] at z
          exact z
      · rw [decide_eq_false ek]
        exact iteF (iteF ⟨s35, ⟨_, rfl⟩, step fun z => absurd z ek⟩)
    · rintro σ H3 ⟨s3, ⟨s4, rfl⟩, allj⟩
      have et : tbl.take (as.map V.ref).length = tbl := List.take_of_length_le (by omega)
      rw [et] at allj
      have e1 : tbl.take (i + 1) = tbl.take i ++ [u] := by rw [List.take_succ, eu]; rfl
      refine ⟨s3, ⟨_, _, rfl⟩, fun u' hu' => ?_⟩
      rw [e1] at hu'
      rcases List.mem_append.mp hu' with q | q
      · exact all u' q
      · rw [List.mem_singleton.mp q]; exact allj
  · rintro σ H2 ⟨s2, ⟨s3', s4', rfl⟩, all⟩
    have et : tbl.take (as.map V.ref).length = tbl := List.take_of_length_le (by omega)
    rw [et] at all
    have z := hq H2 s2
    rw [decide_eq_true (show Tells ns tbl known x from all)] at z
    exact z
end
end L2.TB
namespace L2.TB
open PySem PySem.Spec PyProof.Rows
/-! the law's look whether two things are the same -/
theorem kit_none2 {K : PySem.W.Frag} {t : String} (h1 : kitB t "list" = some false) (h2 : kitB t "tuple" = some false) : PySem.W.kitAny K (.type t) [.type "list", .type "tuple"] = some false := by
  unfold PySem.W.kitAny
  rw [kit_ty (K := K) h1]
  dsimp only
  unfold PySem.W.kitAny
  rw [kit_ty (K := K) h2]
  rfl
theorem kit_none3 {K : PySem.W.Frag} {t : String} (h0 : kitB t "int" = some false) (h1 : kitB t "list" = some false) (h2 : kitB t "tuple" = some false) : PySem.W.kitAny K (.type t) [.type "int", .type "list", .type "tuple"] = some false := by
  unfold PySem.W.kitAny
  rw [kit_ty (K := K) h0]
  exact kit_none2 h1 h2
abbrev NSm : List Str := ["found", "due", "x", "y"]
theorem scSame : FnScope NSm ["found", "due"] (defScope sSame) := ⟨rfl, rfl, rfl, by decide +kernel, rfl, by decide +kernel, by decide +kernel⟩
/-- the names that it reads -/
structure Sm (mg : Str → Option Value) : Prop where
  nI : mg "isinstance" = none
  nL : mg "list" = none
  nT : mg "tuple" = none
  nInt : mg "int" = none
  nB : mg "bool" = none
  nN : mg "len" = none
  nA : mg "all" = none
  nZ : mg "zip" = none
/-- alike, lists to this depth -/
inductive Alk (H : Hp) : Nat → V → V → Prop
  | int (k : Int) : Alk H 0 (.int k) (.int k)
  | bl (k : Bool) : Alk H 0 (.bl k) (.bl k)
  | str (x : Str) : Alk H 0 (.str x) (.str x)
  | lst {n : Nat} {a b : Addr} {xs ys : List V} : H a = some (.lst xs) → H b = some (.lst ys) → xs.length = ys.length → xs.length < 1000 → (∀ (i : Nat) (x y : V), xs[i]? = some x → ys[i]? = some y → Alk H n x y) → Alk H (n + 1) (.ref a) (.ref b)
  | up {n : Nat} {x y : V} : Alk H n x y → Alk H (n + 1) x y
theorem Alk.same {H H' : Hp} (s : Same H H') {n : Nat} {x y : V} (h : Alk H n x y) : Alk H' n x y := by
  induction h with
  | int k => exact .int k
  | bl k => exact .bl k
  | str x => exact .str x
  | lst ha hb l sh _ ih => exact .lst (s _ _ ha) (s _ _ hb) l sh ih
  | up _ ih => exact .up ih
def spSameT (n : Nat) : Sp := fun vs H Q _ => ∃ x y : V, vs = [x, y] ∧ Alk H n x y ∧ ∀ H', Same H H' → Q (.bl true) H'
/-- two promises of one def -/
theorem fnOr {P : Program} {w : World} {K : PySem.W.Frag} {mg : Str → Option Value} {base : Heap} {CX : CXT} {k : Nat} {f : Addr} {fd : FuncData} {ps : List Str} {sp sp1 sp2 : Sp} (F1 : FnOk P w K mg base CX k f fd ps sp1) (F2 : FnOk P w K mg base CX k f fd ps sp2)
    (h : ∀ vs H Q E, sp vs H Q E → sp1 vs H Q E ∨ sp2 vs H Q E) : FnOk P w K mg base CX k f fd ps sp :=
  ⟨fun vs H Q E q => (h _ _ _ _ q).elim (F1.len vs H Q E) (F2.len vs H Q E), fun A outer s H args us vs Q E hr he hb hv hs => (h _ _ _ _ hs).elim (F1.run A outer s H args us vs Q E hr he hb hv) (F2.run A outer s H args us vs Q E hr he hb hv)⟩
section
variable {P : Program} {w : World} {K : PySem.W.Frag} {mg : Str → Option Value} {base : Heap} {f : Addr} {fd : FuncData}
theorem ok_sameT (F : Fun K "_law_same" "_law_same" sSame f fd) (gSm : mg "_law_same" = some (.ref f)) (M : Sm mg) : ∀ n : Nat, FnOk P w K mg base CX0 (n + 1) f fd ["found", "due"] (spSameT n)
  | 0 => by
    refine F.ok scSame (fun vs H Q E h => by obtain ⟨x, y, e, _⟩ := h; rw [e]; rfl) fun cdv A outer s H vs Q E hr hsp => ?_
    obtain ⟨x, y, rfl, al, hq⟩ := hsp
    cases al with
    | int k =>
      refine ⟨_, pss_cons (ps_if (pt_val (pe_callB (r := rIsiT K) call_isiT rfl M.nI boot_isi (pa_cons (pv 1) (pa_cons (pe_tup (pa_cons (pe_bltn (v := .ty "list") rfl M.nL boot_list' rfl) (pa_cons (pe_bltn (v := .ty "tuple") rfl M.nT boot_tuple' rfl) pa_nil))) pa_nil)))) (pss_cons ps_never (pss_one ps_never)) pss_nil)
        (pss_cons (ps_if (pt_val (pe_callB (r := rIsi K) call_isi rfl M.nI boot_isi (pa_cons (pv 1) (pa_cons (pe_bltn (v := .ty "int") rfl M.nInt boot_int' rfl) pa_nil))))
          (pss_one (ps_ret (pe_and (pe_callB (r := rIsi K) call_isi rfl M.nI boot_isi (pa_cons (pv 0) (pa_cons (pe_bltn (v := .ty "int") rfl M.nInt boot_int' rfl) pa_nil)))
            (pe_and (pe_cmpR op_eq (pe_callB (r := rIsi K) call_isi rfl M.nI boot_isi (pa_cons (pv 0) (pa_cons (pe_bltn (v := .ty "bool") rfl M.nB boot_bool' rfl) pa_nil))) (pe_callB (r := rIsi K) call_isi rfl M.nI boot_isi (pa_cons (pv 1) (pa_cons (pe_bltn (v := .ty "bool") rfl M.nB boot_bool' rfl) pa_nil))) (nomark _))
            (pe_one (pe_cmpR op_eq (pv 0) (pv 1) (nomark _))))))) pss_nil)
        (pss_one ps_never)), ?_⟩
      refine ⟨_, rfl, (by show 2 ≤ sizeLine; decide), fun t nt => ?_⟩
      have st := same_new (o := .tup [.ty "list", .ty "tuple"]) nt
      refine ⟨_, _, _, _, _, false, rfl, upd_same, .cons (.ty _) (.cons (.ty _) .nil), .base (.int k), kit_none2 (by decide +kernel) (by decide +kernel), _, rfl, iteF ?_⟩
      refine ⟨_, rfl, _, _, _, _, true, rfl, .ty _, .base (.int k), kit_ty (by decide +kernel), _, rfl, iteT ?_⟩
      refine ⟨_, rfl, _, _, _, _, true, rfl, .ty _, .base (.int k), kit_ty (by decide +kernel), _, rfl, iteT ?_⟩
      refine ⟨_, rfl, _, _, _, _, false, rfl, .ty _, .base (.int k), kit_ty (by decide +kernel), _, rfl, _, _, _, _, false, rfl, .ty _, .base (.int k), kit_ty (by decide +kernel), rfl, _, rfl, iteT ⟨_, rfl, _, rfl, rfl, ?_⟩⟩
      rw [decide_eq_true rfl]
      exact hq _ st
    | bl k =>
      refine ⟨_, pss_cons (ps_if (pt_val (pe_callB (r := rIsiT K) call_isiT rfl M.nI boot_isi (pa_cons (pv 1) (pa_cons (pe_tup (pa_cons (pe_bltn (v := .ty "list") rfl M.nL boot_list' rfl) (pa_cons (pe_bltn (v := .ty "tuple") rfl M.nT boot_tuple' rfl) pa_nil))) pa_nil)))) (pss_cons ps_never (pss_one ps_never)) pss_nil)
        (pss_cons (ps_if (pt_val (pe_callB (r := rIsi K) call_isi rfl M.nI boot_isi (pa_cons (pv 1) (pa_cons (pe_bltn (v := .ty "int") rfl M.nInt boot_int' rfl) pa_nil))))
          (pss_one (ps_ret (pe_and (pe_callB (r := rIsi K) call_isi rfl M.nI boot_isi (pa_cons (pv 0) (pa_cons (pe_bltn (v := .ty "int") rfl M.nInt boot_int' rfl) pa_nil)))
            (pe_and (pe_cmpR op_eq (pe_callB (r := rIsi K) call_isi rfl M.nI boot_isi (pa_cons (pv 0) (pa_cons (pe_bltn (v := .ty "bool") rfl M.nB boot_bool' rfl) pa_nil))) (pe_callB (r := rIsi K) call_isi rfl M.nI boot_isi (pa_cons (pv 1) (pa_cons (pe_bltn (v := .ty "bool") rfl M.nB boot_bool' rfl) pa_nil))) (nomark _))
            (pe_one (pe_cmpR op_eq (pv 0) (pv 1) (nomark _))))))) pss_nil)
        (pss_one ps_never)), ?_⟩
      refine ⟨_, rfl, (by show 2 ≤ sizeLine; decide), fun t nt => ?_⟩
      have st := same_new (o := .tup [.ty "list", .ty "tuple"]) nt
      refine ⟨_, _, _, _, _, false, rfl, upd_same, .cons (.ty _) (.cons (.ty _) .nil), .base (.bl k), kit_none2 (by decide +kernel) (by decide +kernel), _, rfl, iteF ?_⟩
      refine ⟨_, rfl, _, _, _, _, true, rfl, .ty _, .base (.bl k), kit_ty (by decide +kernel), _, rfl, iteT ?_⟩
      refine ⟨_, rfl, _, _, _, _, true, rfl, .ty _, .base (.bl k), kit_ty (by decide +kernel), _, rfl, iteT ?_⟩
      refine ⟨_, rfl, _, _, _, _, true, rfl, .ty _, .base (.bl k), kit_ty (by decide +kernel), _, rfl, _, _, _, _, true, rfl, .ty _, .base (.bl k), kit_ty (by decide +kernel), rfl, _, rfl, iteT ⟨_, rfl, _, rfl, rfl, ?_⟩⟩
      rw [decide_eq_true rfl]
      exact hq _ st
    | str x =>
      refine ⟨_, pss_cons (ps_if (pt_val (pe_callB (r := rIsiT K) call_isiT rfl M.nI boot_isi (pa_cons (pv 1) (pa_cons (pe_tup (pa_cons (pe_bltn (v := .ty "list") rfl M.nL boot_list' rfl) (pa_cons (pe_bltn (v := .ty "tuple") rfl M.nT boot_tuple' rfl) pa_nil))) pa_nil)))) (pss_cons ps_never (pss_one ps_never)) pss_nil)
        (pss_cons (ps_if (pt_val (pe_callB (r := rIsi K) call_isi rfl M.nI boot_isi (pa_cons (pv 1) (pa_cons (pe_bltn (v := .ty "int") rfl M.nInt boot_int' rfl) pa_nil)))) (pss_one ps_never) pss_nil)
        (pss_one (ps_ret (pe_and (pe_cmpR op_isBl (pe_callB (r := rIsiT K) call_isiT rfl M.nI boot_isi (pa_cons (pv 0) (pa_cons (pe_tup (pa_cons (pe_bltn (v := .ty "int") rfl M.nInt boot_int' rfl) (pa_cons (pe_bltn (v := .ty "list") rfl M.nL boot_list' rfl) (pa_cons (pe_bltn (v := .ty "tuple") rfl M.nT boot_tuple' rfl) pa_nil)))) pa_nil))) pe_bl (nomark _))
          (pe_one (pe_cmpR op_eq (pv 0) (pv 1) (nomark _))))))), ?_⟩
      refine ⟨_, rfl, (by show 2 ≤ sizeLine; decide), fun t nt => ?_⟩
      have st := same_new (o := .tup [.ty "list", .ty "tuple"]) nt
      refine ⟨_, _, _, _, _, false, rfl, upd_same, .cons (.ty _) (.cons (.ty _) .nil), .base (.str x), kit_none2 (by decide +kernel) (by decide +kernel), _, rfl, iteF ?_⟩
      refine ⟨_, rfl, _, _, _, _, false, rfl, .ty _, .base (.str x), kit_ty (by decide +kernel), _, rfl, iteF ?_⟩
      refine ⟨_, rfl, (by show 3 ≤ sizeLine; decide), fun t2 nt2 => ?_⟩
      have st2 := same_new (o := .tup [.ty "int", .ty "list", .ty "tuple"]) nt2
      refine ⟨_, _, _, _, _, false, rfl, upd_same, .cons (.ty _) (.cons (.ty _) (.cons (.ty _) .nil)), .base (.str x), kit_none3 (by decide +kernel) (by decide +kernel) (by decide +kernel), _, _, rfl, rfl, _, rfl, iteT ⟨_, rfl, _, rfl, rfl, ?_⟩⟩
      rw [decide_eq_true rfl]
      exact hq _ (st.trans st2)
  | n + 1 => by
    have G := ok_sameT F gSm M n
    have b := F.binds (ps := ["found", "due"]) fun _ _ _ _ _ _ us hl => match us, hl with | [_, _], _ => rfl
    refine L2.TB.fnOr (sp1 := fun vs H Q E => ∃ x y : V, vs = [x, y] ∧ Alk H n x y ∧ ∀ H', Same H H' → Q (.bl true) H') (sp2 := fun vs H Q _ => ∃ (a b : Addr) (xs ys : List V), vs = [.ref a, .ref b] ∧ H a = some (.lst xs) ∧ H b = some (.lst ys) ∧ xs.length = ys.length ∧ xs.length < 1000 ∧ (∀ (i : Nat) (x y : V), xs[i]? = some x → ys[i]? = some y → Alk H n x y) ∧ ∀ H', Same H H' → Q (.bl true) H') (G.mono (Nat.le_succ _)) ?_ fun vs H Q E h => ?_
    rotate_left
    · obtain ⟨x, y, rfl, al, hq⟩ := h
      cases al with
      | lst ha hb l sh al => exact .inr ⟨_, _, _, _, rfl, ha, hb, l, sh, al, hq⟩
      | up al => exact .inl ⟨_, _, rfl, al, hq⟩
    refine F.ok scSame (fun vs H Q E h => by obtain ⟨a, b, xs, ys, e, _⟩ := h; rw [e]; rfl) fun cdv A outer s H vs Q E hr hsp => ?_
    obtain ⟨a, bb, xs, ys, rfl, ha, hb, len, short, al, hq⟩ := hsp
    have nd := scSame.nd
    refine ⟨_, pss_cons (ps_if (pt_val (pe_callB (r := rIsiT K) call_isiT rfl M.nI boot_isi (pa_cons (pv 1) (pa_cons (pe_tup (pa_cons (pe_bltn (v := .ty "list") rfl M.nL boot_list' rfl) (pa_cons (pe_bltn (v := .ty "tuple") rfl M.nT boot_tuple' rfl) pa_nil))) pa_nil))))
        (pss_cons (ps_if (PW.pt (pw_or (pt_cmpR op_ne (pe_callB (r := rIsi K) call_isi rfl M.nI boot_isi (pa_cons (pv 0) (pa_cons (pe_bltn (v := .ty "list") rfl M.nL boot_list' rfl) pa_nil))) (pe_callB (r := rIsi K) call_isi rfl M.nI boot_isi (pa_cons (pv 1) (pa_cons (pe_bltn (v := .ty "list") rfl M.nL boot_list' rfl) pa_nil))) (nomark _))
            (pw_or1 (pt_cmpR op_ne (pe_callB (r := rIsi K) call_isi rfl M.nI boot_isi (pa_cons (pv 0) (pa_cons (pe_bltn (v := .ty "tuple") rfl M.nT boot_tuple' rfl) pa_nil))) (pe_callB (r := rIsi K) call_isi rfl M.nI boot_isi (pa_cons (pv 1) (pa_cons (pe_bltn (v := .ty "tuple") rfl M.nT boot_tuple' rfl) pa_nil))) (nomark _))))) (pss_one ps_never) pss_nil)
        (pss_one (ps_ret (pe_and (pe_cmpR op_eq (pe_callB call_len_seq rfl M.nN boot_len (pa_cons (pv 0) pa_nil)) (pe_callB call_len_seq rfl M.nN boot_len (pa_cons (pv 1) pa_nil)) (nomark _))
          (pe_one (pe_callB (cr_all rfl) rfl M.nA boot_all' (pa_cons (pe_lc (own := [("x", 2), ("y", 3)]) (tt := tYes) (g := gTup K 2 (gCons (gName 2) (gCons (gName 3) gNil))) rfl nd (pi_zip rfl M.nZ (pa_cons (pv 0) (pa_cons (pv 1) pa_nil))) (blkOk_by (N := NSm) (sc := defScope sSame) (by decide +kernel))
            (fun _ _ _ _ _ => pg_tup rfl (pgs_cons (pg_name (i := 2) nd rfl (Or.inl rfl)) (pgs_cons (pg_name (i := 3) nd rfl (Or.inl rfl)) pgs_nil))) (fun _ _ _ _ _ => pts_nil)
            (fun _ _ _ _ _ => pe_call G hr rfl gSm F.kp b .nil pass0 (pa_cons (pv 2) (pa_cons (pv 3) pa_nil)))) pa_nil))))))) pss_nil)
      (pss_cons ps_never (pss_one ps_never)), ?_⟩
    refine ⟨_, rfl, (by show 2 ≤ sizeLine; decide), fun t nt => ?_⟩
    have st := same_new (o := .tup [.ty "list", .ty "tuple"]) nt
    refine ⟨_, _, _, _, _, true, rfl, upd_same, .cons (.ty _) (.cons (.ty _) .nil), .base (.lst (st _ _ hb)), kit_two_l, _, rfl, iteT ?_⟩
    generalize upd H t (.tup [.ty "list", .ty "tuple"]) = H1 at st
    have ha := st _ _ ha
    have hb := st _ _ hb
    refine ⟨_, rfl, _, _, _, _, true, rfl, .ty _, .base (.lst ha), kit_ty (by decide +kernel), _, rfl, _, _, _, _, true, rfl, .ty _, .base (.lst hb), kit_ty (by decide +kernel), rfl, _, rfl, iteF ?_⟩
    refine ⟨_, rfl, _, _, _, _, false, rfl, .ty _, .base (.lst ha), kit_ty (by decide +kernel), _, rfl, _, _, _, _, false, rfl, .ty _, .base (.lst hb), kit_ty (by decide +kernel), rfl, _, rfl, iteF ?_⟩
    refine ⟨_, rfl, a, _, rfl, .inl (SqL.of ha), _, rfl, bb, _, rfl, .inl (SqL.of hb), rfl, _, rfl, ?_⟩
    rw [dec_int2, decide_eq_true (by omega : ((xs.length : Nat) : Int) = (ys.length : Nat))]
    refine iteT ⟨_, rfl, _, rfl, a, bb, _, _, rfl, SqL.of ha, SqL.of hb, ?_⟩
    refine lc_gen (bools xs.length) (by rw [bools_len]; omega) (fun i H' s lt => ?_) (fun H' s => ?_) ?_ ?_
    · rw [bools_len] at lt
      exact ⟨_, _, _, _, SqL.of (s _ _ ha), SqL.of (s _ _ hb), List.getElem?_eq_getElem (by omega), List.getElem?_eq_getElem (by omega)⟩
    · exact ⟨_, _, SqL.of (s _ _ ha), SqL.of (s _ _ hb), .inl (by rw [bools_len]; exact Nat.le_refl _)⟩
    · rintro i v y H2 H3 Cn Nn ey s2 ⟨T, u1, u2, rfl, nT, rfl, e1, e2⟩ yes
      obtain ⟨rfl, lt⟩ := bools_at ey
      have e1 := e1 _ (SqL.of (s2 _ _ ha))
      have e2 := e2 _ (SqL.of (s2 _ _ hb))
      have sT := same_new (o := .tup [u1, u2]) nT
      refine ⟨T, _, rfl, SqT.of upd_same, rfl, _, _, rfl, _, _, rfl, rfl, rfl, ?_⟩
      exact ⟨_, rfl, _, rfl, u1, u2, rfl, (al i u1 u2 e1 e2).same ((st.trans s2).trans sT), fun H4 s4 => yes H4 (sT.trans s4)⟩
    · intro H2 D nD oD s2
      rw [bools_map] at oD
      refine ⟨D, _, rfl, SqL.of oD, ?_⟩
      rw [all_true]
      exact hq _ (st.trans s2)
end
end L2.TB
/-! told_by of a table; learn, forget -/
namespace L2.TB
open PySem PySem.Spec PyProof.Rows
def spToldBy (K : PySem.W.Frag) (C : Addr) : Sp := fun vs H Q _ => ∃ (a b : Addr) (ns known : List Str) (tbl : List (List Int)), vs = [.ref a, .ref b] ∧ Asked K H C a b ns known tbl ∧ ∀ H' q, H q = none → H' q = some (.lst ((toldL ns tbl known).map V.str)) → Same H H' → Q (.ref q) H'
abbrev NT : List Str := ["field", "known", "questions", "name"]
theorem scTb : FnScope NT ["field", "known"] (defScope sToldBy) := ⟨rfl, rfl, rfl, by decide +kernel, rfl, by decide +kernel, by decide +kernel⟩
theorem scLearn : FnScope ["self", "name"] ["self", "name"] (defScope sLearn) := ⟨rfl, rfl, rfl, by decide +kernel, rfl, by decide +kernel, by decide +kernel⟩
theorem scForget : FnScope ["self", "name", "one"] ["self", "name"] (defScope sForget) := ⟨rfl, rfl, rfl, by decide +kernel, rfl, by decide +kernel, by decide +kernel⟩
def spIsOneT (K : PySem.W.Frag) : Sp := fun vs H Q _ => ∃ (c : Addr) (ns : List Str) (v : V), vs = [.ref c, v] ∧ H c = some (.tup (ns.map V.str)) ∧ ((∃ x, v = .str x ∧ Q (.bl (decide (x ∈ ns))) H) ∨ (NoStr K H v ∧ Q (.bl false) H))
/-- a new deed is done: here is known now -/
def Did (C : Addr) (p dx a tn : Addr) (ps : List V) (here : List Str) (H H' : Hp) : Prop := ∃ t0 t1 t2 : Addr, H' p = some (.ins C dx (fF (.ref a) (.ref t0) (.ref t1) (.ref t2))) ∧ H' t0 = some (.tup (here.map V.str)) ∧ H' t1 = some (.tup (ps ++ [.ref tn])) ∧ H' t2 = some (.tup []) ∧ ∀ b o, b ≠ p → H b = some o → H' b = some o
def spLearn (C CT CQ CK : Addr) (K : PySem.W.Frag) : Sp := fun vs H Q E => ∃ (p dx a tn tp : Addr) (tu v : V) (ns here : List Str) (tbl : List (List Int)) (ps : List V), vs = [.ref p, v] ∧ H p = some (.ins C dx (fF (.ref a) (.ref tn) (.ref tp) tu)) ∧ TabAt H CT a ns tbl ∧ H tn = some (.tup (here.map V.str)) ∧ here.length < 1000 ∧ H tp = some (.tup ps) ∧ ps.length < 1000 ∧
  ((BadAsk K H ns v ∧ Flies CQ "name" v H E) ∨ ∃ x, v = .str x ∧ x ∈ ns ∧ (x ∈ here → Flies CK "name" v H E) ∧ (x ∉ here → ∀ H', Did C p dx a tn ps (here ++ [x]) H H' → Q .non H'))
def spForget (C CN : Addr) (K : PySem.W.Frag) : Sp := fun vs H Q E => ∃ (p dx a tn tp : Addr) (tu v : V) (here : List Str) (ps : List V), vs = [.ref p, v] ∧ H p = some (.ins C dx (fF (.ref a) (.ref tn) (.ref tp) tu)) ∧ H tn = some (.tup (here.map V.str)) ∧ here.length < 1000 ∧ H tp = some (.tup ps) ∧ ps.length < 1000 ∧
  ((BadAsk K H here v ∧ Flies CN "name" v H E) ∨ ∃ x, v = .str x ∧ x ∈ here ∧ ∀ H', Did C p dx a tn ps (here.filter fun y => !decide (y = x)) H H' → Q .non H')
theorem dec_str (a b : Str) : decide (V.str a = V.str b) = decide (a = b) := by
  by_cases h : a = b
  · rw [h]; simp
  · rw [decide_eq_false h]
    exact decide_eq_false fun z => h (V.str.inj z)
section
variable {P : Program} {w : World} {K : PySem.W.Frag} {mg : Str → Option Value} {base : Heap} {f C CT CQ CK CN fQ fI fPl fPr aF aL aO aK aA aB fD : Addr} {fd fdD fdA fdO : FuncData}
theorem ok_tb (F : Fun K "told_by" "told_by" sToldBy f fd) (T : TabM K C fQ fI fPl fPr) (Ck : Chk K mg aF aL aO aK aA aB) : FnOk P w K mg base CX0 6 f fd ["field", "known"] (spToldBy K C) := by
  obtain ⟨fdK, FK⟩ := Ck.CK
  have GK := ok_ckK (P := P) (w := w) (base := base) Ck FK
  have bK := FK.binds (ps := ["names", "known"]) fun _ _ _ _ _ _ us hl => match us, hl with | [_, _], _ => rfl
  obtain ⟨fdQ, FQ⟩ := T.Q
  have GQ := ok_qs (P := P) (w := w) (mg := mg) (base := base) FQ T.toTabC Ck.nL
  have bQ := FQ.binds (ps := ["self"]) fun _ _ _ _ _ _ us hl => match us, hl with | [_], _ => rfl
  obtain ⟨fdI, FI⟩ := T.I
  have GI := ok_isTold (P := P) (w := w) (base := base) FI T Ck
  have bI := FI.binds (ps := ["self", "known", "asked"]) fun _ _ _ _ _ _ us hl => match us, hl with | [_, _, _], _ => rfl
  refine F.ok scTb (fun vs H Q E h => by obtain ⟨a, b, ns, known, tbl, e, _⟩ := h; rw [e]; rfl) fun cdv A outer s H vs Q E hr hsp => ?_
  obtain ⟨a, b, ns, known, tbl, rfl, ask, hq⟩ := hsp
  have nd := scTb.nd
  refine ⟨_, pss_cons (ps_set (i := 2) nd rfl (Or.inl rfl) (pe_meth0 (pv 0) T.cl T.mQ GQ (hr.mono (by decide)) bQ .nil pass0))
    (pss_cons (ps_expr (pe_call GK (hr.mono (by decide)) rfl Ck.gCK FK.kp bK .nil pass0 (pa_cons (pv 2) (pa_cons (pv 1) pa_nil))))
    (pss_one (ps_ret (pe_lc (own := [("name", 3)]) (te := tVar 3) rfl nd (pi_seq (pv 2)) (blkOk_by (N := NT) (sc := defScope sToldBy) (by decide +kernel)) (fun _ _ _ _ _ => pg_name (i := 3) nd rfl (Or.inl rfl))
      (fun _ _ _ _ _ => pts_one (pt_val (pe_meth (pv 0) T.cl T.mI GI hr bI .nil pass0 (pa_cons (pv 1) (pa_cons (pv 3) pa_nil))))) (fun _ _ _ _ _ => pv 3))))), ?_⟩
  obtain ⟨dx, qa, ra, ha, hqa, hra⟩ := ask.t.ex
  refine ⟨_, rfl, a, dx, _, rfl, ha, rfl, a, ns, tbl, rfl, ask.t, fun H1 q nq oq s1 => ?_⟩
  refine ⟨_, rfl, _, rfl, q, b, ns, known, rfl, oq, ask.k.same s1, ask.nd, ask.sub, ask.short, fun H2 s2 => ?_⟩
  have s12 := s1.trans s2
  refine ⟨_, rfl, lc_seq (.inl rfl) (s2 _ _ oq) (by rw [List.length_map]; have := ask.s1; omega) (isStr fun x => decide (Tells ns tbl known x)) id ?_ ?_⟩
  · rintro i v H3 Cn Nn ev s3 yes no
    rw [List.getElem?_map] at ev
    obtain ⟨x, ex, rfl⟩ := Option.map_eq_some_iff.mp ev
    have xin : x ∈ ns := List.mem_of_getElem? ex
    refine ⟨rfl, ?_⟩
    refine ⟨_, rfl, a, dx, _, rfl, s3 _ _ (s12 _ _ ha), rfl, _, rfl, _, rfl, a, b, ns, known, x, tbl, rfl, ask.same (s12.trans s3), xin, fun H4 s4 => ⟨_, rfl, ?_⟩⟩
    cases k : decide (Tells ns tbl known x) with
    | true => exact ⟨_, rfl, yes k H4 s4⟩
    | false => exact no k H4 s4
  · intro H3 D nD oD s3
    rw [filter_strs] at oD
    refine hq H3 D ?_ oD (s12.trans s3)
    exact s12.free nD
theorem ok_isOneT (F : Fun K "is_one_of" "is_one_of" sIsOne f fd) (gI : mg "isinstance" = none) (gS : mg "str" = none) : FnOk P w K mg base CX0 1 f fd ["names", "thing"] (spIsOneT K) := by
  refine F.ok scIsOne (fun vs H Q E h => by obtain ⟨c, ns, x, e, _⟩ := h; rw [e]; rfl) fun cdv A outer s H vs Q E hr hsp => ?_
  obtain ⟨c, ns, v, rfl, hS, hq⟩ := hsp
  refine ⟨_, pss_one (ps_ret (pe_and (pe_callB (r := rIsi K) call_isi rfl gI boot_isi (pa_cons (pv 1) (pa_cons (pe_bltn (v := .ty "str") rfl gS boot_str' rfl) pa_nil)))
    (pe_one (pe_cmpR op_in_seq (pv 1) (pv 0) rfl)))), ?_⟩
  rcases hq with ⟨x, rfl, hq⟩ | ⟨⟨t, h1, h2⟩, hq⟩
  · refine ⟨_, rfl, _, _, _, _, true, rfl, .ty _, .base (.str x), kit_ty (by decide +kernel), true, rfl, _, rfl, _, rfl, c, _, rfl, .inr (SqT.of hS), rfl, flat_strs ns, ?_⟩
    rw [inV_strs]
    exact hq
  · exact ⟨_, rfl, _, _, _, _, false, rfl, .ty _, h1, kit_ty h2, false, rfl, hq⟩
theorem ok_ckAN (Ck : Chk K mg aF aL aO aK aA aB) (EQ : ErrF P w K mg base "NoQuestion" CQ "name") (F : Fun K "check_asked" "check_asked" sCkA f fd) : FnOk P w K mg base (L2N.CX P w) 3 f fd ["names", "asked"] (spCkAX K CQ) := by
  obtain ⟨fdO, FO⟩ := Ck.O
  have G : FnOk P w K mg base CX0 1 aO fdO ["names", "thing"] (spIsOneG K) := ok_isOneG FO Ck.nI Ck.nS
  have b := FO.binds (ps := ["names", "thing"]) fun _ _ _ _ _ _ us hl => match us, hl with | [_, _], _ => rfl
  refine F.okN scCkA (fun vs H Q E h => by obtain ⟨c, ns, x, e, _⟩ := h; rw [e]; rfl) fun cdv A outer s H vs Q E hr hsp => ?_
  obtain ⟨c, ns, v, rfl, hc, hq⟩ := hsp
  refine ⟨_, pss_one (ps_if (pt_not (pt_val (pe_call G (hr.mono (by decide)) rfl Ck.gO FO.kp b .nil pass0 (pa_cons (pv 0) (pa_cons (pv 1) pa_nil))))) (pss_one (ps_raiseN rfl (L2N.takes_of rfl rfl rfl rfl) EQ hr rfl (pv 1))) pss_nil), ?_⟩
  refine ⟨_, rfl, _, rfl, c, ns, v, rfl, hc, ?_⟩
  rcases hq with ⟨x, rfl, xin, hq⟩ | ⟨⟨x, rfl, xin⟩ | hN, hf⟩
  · exact .inl ⟨x, rfl, _, rfl, by rw [decide_eq_true xin]; exact iteF hq⟩
  · exact .inl ⟨x, rfl, _, rfl, by rw [decide_eq_false xin]; exact iteT ⟨_, rfl, hf.up EQ⟩⟩
  · exact .inr ⟨hN, _, rfl, iteT ⟨_, rfl, hf.up EQ⟩⟩
theorem ok_learn (F : Fun K "learn" "File.learn" sLearn f fd) (T : FilC K C) (TM : TabM K CT fQ fI fPl fPr) (Ck : Chk K mg aF aL aO aK aA aB) (EQ : ErrF P w K mg base "NoQuestion" CQ "name") (EK : ErrF P w K mg base "Known" CK "name") (FD : Fun K "_do" "File._do" sDo fD fdD) (mD : Meth K C "_do" fD) :
    FnOk P w K mg base (L2N.CX P w) 4 f fd ["self", "name"] (spLearn C CT CQ CK K) := by
  obtain ⟨fdA, FA⟩ := Ck.CA
  have GA : FnOk P w K mg base (L2N.CX P w) 3 aA fdA ["names", "asked"] (spCkAX K CQ) := ok_ckAN Ck EQ FA
  have bA := FA.binds (ps := ["names", "asked"]) fun _ _ _ _ _ _ us hl => match us, hl with | [_, _], _ => rfl
  obtain ⟨fdQ, FQ⟩ := TM.Q
  have GQ := ok_qs (P := P) (w := w) (mg := mg) (base := base) FQ TM.toTabC Ck.nL
  have bQ := FQ.binds (ps := ["self"]) fun _ _ _ _ _ _ us hl => match us, hl with | [_], _ => rfl
  have GD := ok_do (P := P) (w := w) (mg := mg) (base := base) FD T
  have bD := FD.binds (ps := NDo) fun _ _ _ _ _ _ us hl => match us, hl with | [_, _], _ => rfl
  refine F.okN scLearn (fun vs H Q E h => by obtain ⟨_, _, _, _, _, _, _, _, _, _, _, e, _⟩ := h; rw [e]; rfl) fun cdv A outer s H vs Q E hr hsp => ?_
  obtain ⟨p, dx, a, tn, tp, tu, v, ns, here, tbl, ps, rfl, hp, tab, hn, shn, ht, sht, hq⟩ := hsp
  refine ⟨_, pss_cons (ps_expr (pe_callS GA hr rfl Ck.gCA FA.kp bA (fun σ => L2N.passAt (L2N.takes_of rfl rfl rfl rfl) σ) (pa_cons (pe_meth0 (pe_fld (pv 0) rfl) TM.cl TM.mQ GQ (hr.mono (by decide)) bQ .nil pass0) (pa_cons (pv 1) pa_nil))))
    (pss_cons (ps_if (pt_cmpR op_in_seq (pv 1) (pe_fld (pv 0) rfl) rfl) (pss_one (ps_raiseN rfl (L2N.takes_of rfl rfl rfl rfl) EK (hr.mono (by decide)) rfl (pv 1))) pss_nil)
    (pss_one (ps_expr (pe_meth (pv 0) T.cl mD GD (hr.mono (by decide)) bD .nil pass0 (pa_cons (pe_tup (StX.pa_star (pe_fld (pv 0) rfl) (pa_cons (pv 1) pa_nil))) pa_nil))))), ?_⟩
  obtain ⟨dx', qa, ra, ha, hqa, hra⟩ := id tab.ex
  refine ⟨_, rfl, p, C, dx, _, _, rfl, hp, T.cl, T.nF, rfl, a, dx', _, rfl, ha, rfl, a, ns, tbl, rfl, tab, fun H1 q1 n1 o1 k1 => ?_⟩
  refine ⟨_, rfl, q1, ns, v, rfl, SqL.of o1, ?_⟩
  rcases hq with ⟨hb, hf⟩ | ⟨x, rfl, xin, h1, h2⟩
  · exact .inr ⟨hb.same k1, hf.same k1⟩
  refine .inl ⟨x, rfl, xin, ?_⟩
  refine ⟨_, rfl, _, rfl, p, C, dx, _, _, rfl, k1 _ _ hp, T.cl, T.nN, rfl, tn, _, rfl, .inr (SqT.of (k1 _ _ hn)), rfl, flat_strs here, ?_⟩
  rw [inV_strs]
  by_cases xh : x ∈ here
  · rw [decide_eq_true xh]
    exact ⟨_, rfl, iteT ⟨_, rfl, ((h1 xh).same k1).up EK⟩⟩
  rw [decide_eq_false xh]
  refine ⟨_, rfl, iteF ⟨_, rfl, p, dx, _, rfl, k1 _ _ hp, rfl, ?_⟩⟩
  refine ⟨_, rfl, p, C, dx, _, _, rfl, k1 _ _ hp, T.cl, T.nN, rfl, tn, here.map V.str, rfl, .inl (SqT.of (k1 _ _ hn)), _, rfl, ?_, fun t n => ?_⟩
  · show (here.map V.str ++ [V.str x]).length ≤ sizeLine
    rw [sizeLine_eq, List.length_append, List.length_map]
    show here.length + 1 ≤ _
    omega
  have st := same_new (o := .tup (here.map V.str ++ [V.str x])) n
  have pt : t ≠ p := (ne_of_none (k1 _ _ hp) n).symm
  have tt : t ≠ tp := (ne_of_none (k1 _ _ ht) n).symm
  refine ⟨p, dx, tp, .ref a, .ref tn, tu, .ref t, ps, rfl, st _ _ (k1 _ _ hp), SqT.of (st _ _ (k1 _ _ ht)), fun z => (by rw [z, hp] at ht; cases ht), sht, fun H' t1 t2 n1 n2 e0 e1 e2 keep => ?_⟩
  refine h2 xh H' ⟨t, t1, t2, e0, keep _ _ pt (by rw [upd_same, List.map_append]; rfl), e1, e2, fun b o nb e => keep b o nb (st _ _ (k1 _ _ e))⟩
theorem ok_forget (F : Fun K "forget" "File.forget" sForget f fd) (T : FilC K C) (Ck : Chk K mg aF aL aO aK aA aB) (EN : ErrF P w K mg base "NotKnown" CN "name") (FD : Fun K "_do" "File._do" sDo fD fdD) (mD : Meth K C "_do" fD) :
    FnOk P w K mg base (L2N.CX P w) 4 f fd ["self", "name"] (spForget C CN K) := by
  obtain ⟨fdO, FO⟩ := Ck.O
  have G : FnOk P w K mg base CX0 1 aO fdO ["names", "thing"] (spIsOneT K) := ok_isOneT FO Ck.nI Ck.nS
  have b := FO.binds (ps := ["names", "thing"]) fun _ _ _ _ _ _ us hl => match us, hl with | [_, _], _ => rfl
  have GD := ok_do (P := P) (w := w) (mg := mg) (base := base) FD T
  have bD := FD.binds (ps := NDo) fun _ _ _ _ _ _ us hl => match us, hl with | [_, _], _ => rfl
  refine F.okN scForget (fun vs H Q E h => by obtain ⟨_, _, _, _, _, _, _, _, _, e, _⟩ := h; rw [e]; rfl) fun cdv A outer s H vs Q E hr hsp => ?_
  obtain ⟨p, dx, a, tn, tp, tu, v, here, ps, rfl, hp, hn, shn, ht, sht, hq⟩ := hsp
  have nd := scForget.nd
  refine ⟨_, pss_cons (ps_if (pt_not (pt_val (pe_call G (hr.mono (by decide)) rfl Ck.gO FO.kp b .nil pass0 (pa_cons (pe_fld (pv 0) rfl) (pa_cons (pv 1) pa_nil))))) (pss_one (ps_raiseN rfl (L2N.takes_of rfl rfl rfl rfl) EN (hr.mono (by decide)) rfl (pv 1))) pss_nil)
    (pss_one (ps_expr (pe_meth (pv 0) T.cl mD GD (hr.mono (by decide)) bD .nil pass0 (pa_cons (pe_callTy (r := rTupOf K) call_tuple_of rfl Ck.nT boot_tuple' (pa_cons (pe_lc (own := [("one", 2)]) (te := tVar 2) rfl nd (pi_seq (pe_fld (pv 0) rfl)) (blkOk_by (N := ["self", "name", "one"]) (sc := defScope sForget) (by decide +kernel)) (fun _ _ _ _ _ => pg_name (i := 2) nd rfl (Or.inl rfl))
      (fun _ _ _ _ _ => pts_one (pt_cmpR op_ne (pv 2) (pv 1) (nomark _))) (fun _ _ _ _ _ => pv 2)) pa_nil)) pa_nil)))), ?_⟩
  refine ⟨_, rfl, p, C, dx, _, _, rfl, hp, T.cl, T.nN, rfl, _, rfl, tn, here, v, rfl, hn, ?_⟩
  rcases hq with ⟨⟨x, rfl, xin⟩ | hN, hf⟩ | ⟨x, rfl, xin, hq⟩
  · exact .inl ⟨x, rfl, _, rfl, by rw [decide_eq_false xin]; exact iteT ⟨_, rfl, hf.up EN⟩⟩
  · exact .inr ⟨hN, _, rfl, iteT ⟨_, rfl, hf.up EN⟩⟩
  refine .inl ⟨x, rfl, _, rfl, ?_⟩
  rw [decide_eq_true xin]
  refine iteF ⟨_, rfl, p, dx, _, rfl, hp, rfl, ?_⟩
  refine ⟨_, rfl, p, C, dx, _, _, rfl, hp, T.cl, T.nN, rfl, lc_seq (.inr rfl) hn (by rw [List.length_map]; omega) (isStr fun y => !decide (y = x)) id ?_ ?_⟩
  · rintro i v H3 Cn Nn ev s3 yes no
    rw [List.getElem?_map] at ev
    obtain ⟨y, ey, rfl⟩ := Option.map_eq_some_iff.mp ev
    refine ⟨rfl, _, rfl, _, rfl, rfl, _, rfl, ?_⟩
    rw [dec_str]
    cases k : !decide (y = x) with
    | true => exact ⟨_, rfl, yes k H3 (Same.refl _)⟩
    | false => exact no k H3 (Same.refl _)
  · intro H3 D nD oD s3
    rw [filter_strs] at oD
    refine ⟨D, _, rfl, .inl ⟨SqL.of oD, fun t n => ?_⟩⟩
    have st := same_new (o := .tup ((here.filter fun y => !decide (y = x)).map V.str)) n
    have pt : t ≠ p := (ne_of_none (s3 _ _ hp) n).symm
    refine ⟨p, dx, tp, .ref a, .ref tn, tu, .ref t, ps, rfl, st _ _ (s3 _ _ hp), SqT.of (st _ _ (s3 _ _ ht)), fun z => (by rw [z, hp] at ht; cases ht), sht, fun H' t1 t2 n1 n2 e0 e1 e2 keep => ?_⟩
    exact hq H' ⟨t, t1, t2, e0, keep _ _ pt upd_same, e1, e2, fun b o nb e => keep b o nb (st _ _ (s3 _ _ e))⟩
end
end L2.TB
/-! told, tells, copy -/
namespace L2.TB
open PySem PySem.Spec PyProof.Rows
theorem pe_never {X : Cx} {e : Expr} : PE X e (fun _ _ _ => False) := ⟨fun _ _ _ _ _ _ h => h.elim⟩
/-- what a call lets out, whatever the slots -/
theorem passes {X : Cx} {E : XK} (tk : Takes X fun cls d _ H => E cls d H) : Passes (L2.CX X.prog X.w) X E := fun pins σ H s e s' I c => passAt tk σ pins H s e s' I c
abbrev NMt : List Str := ["self", "known", "asked"]
theorem scMt : FnScope NMt NMt (defScope sIsTold) := ⟨rfl, rfl, rfl, by decide +kernel, rfl, by decide +kernel, by decide +kernel⟩
theorem scFTold : FnScope NUn NUn (defScope sTold) := ⟨rfl, rfl, rfl, by decide +kernel, rfl, by decide +kernel, by decide +kernel⟩
theorem scFTells : FnScope ["self", "name"] ["self", "name"] (defScope sFTells) := ⟨rfl, rfl, rfl, by decide +kernel, rfl, by decide +kernel, by decide +kernel⟩
theorem scCopy : FnScope ["self", "other"] NUn (defScope sCopy) := ⟨rfl, rfl, rfl, by decide +kernel, rfl, by decide +kernel, by decide +kernel⟩
/-- a file of a table, here what is known -/
structure FTab (K : PySem.W.Frag) (H : Hp) (C CT p a : Addr) (ns here : List Str) (tbl : List (List Int)) : Prop where
  ex : ∃ (dx tn : Addr) (tp tu : V), H p = some (.ins C dx (fF (.ref a) (.ref tn) tp tu)) ∧ H tn = some (.tup (here.map V.str))
  tab : TabAt H CT a ns tbl
  nd : here.Nodup
  sub : ∀ x ∈ here, x ∈ ns
  s1 : ns.length < 1000
  s2 : tbl.length < 1000
  ndn : ns.Nodup
theorem FTab.same {K : PySem.W.Frag} {H H' : Hp} {C CT p a : Addr} {ns here : List Str} {tbl : List (List Int)} (h : FTab K H C CT p a ns here tbl) (s : Same H H') : FTab K H' C CT p a ns here tbl :=
  ⟨let ⟨dx, tn, tp, tu, e1, e2⟩ := h.ex; ⟨dx, tn, tp, tu, s _ _ e1, s _ _ e2⟩, h.tab.same s, h.nd, h.sub, h.s1, h.s2, h.ndn⟩
theorem FTab.short {K : PySem.W.Frag} {H : Hp} {C CT p a : Addr} {ns here : List Str} {tbl : List (List Int)} (h : FTab K H C CT p a ns here tbl) : here.length < 1000 := by
  have := List.Nodup.length_le_of_subset h.nd (fun x hx => h.sub x hx)
  have := h.s1
  omega
def spFTold (K : PySem.W.Frag) (C CT : Addr) : Sp := fun vs H Q _ => ∃ (p a : Addr) (ns here : List Str) (tbl : List (List Int)), vs = [.ref p] ∧ FTab K H C CT p a ns here tbl ∧ ∀ H' q, H q = none → H' q = some (.lst ((toldL ns tbl here).map V.str)) → Same H H' → Q (.ref q) H'
def spFTells (K : PySem.W.Frag) (C CT : Addr) : Sp := fun vs H Q _ => ∃ (p a : Addr) (ns here : List Str) (x : Str) (tbl : List (List Int)), vs = [.ref p, .str x] ∧ FTab K H C CT p a ns here tbl ∧ x ∈ ns ∧ ∀ H', Same H H' → Q (.bl (decide (Tells ns tbl here x))) H'
def spFTellsX (K : PySem.W.Frag) (C CT CQ : Addr) : Sp := fun vs H Q E => ∃ (p a : Addr) (ns here : List Str) (v : V) (tbl : List (List Int)), vs = [.ref p, v] ∧ FTab K H C CT p a ns here tbl ∧ BadAsk K H ns v ∧ Flies CQ "name" v H E
def spCopy (C : Addr) : Sp := fun vs H Q _ => ∃ (p dx : Addr) (fa tn tp tu : V), vs = [.ref p] ∧ H p = some (.ins C dx (fF fa tn tp tu)) ∧ ∀ H' p' dx', H p' = none → H' p' = some (.ins C dx' (fF fa tn tp tu)) → Same H H' → Q (.ref p') H'
section
variable {P : Program} {w : World} {K : PySem.W.Frag} {mg : Str → Option Value} {base : Heap} {f C CT CQ CK CN fQ fI fPl fPr aF aL aO aK aA aB fD fKn fT fN : Addr} {fd fdD fdK fdT fdN : FuncData}
/-- good known ones, what is asked is no question -/
def spCkQ (K : PySem.W.Frag) (CQ : Addr) : Sp := fun vs H Q E => ∃ (c d : Addr) (ns known : List Str) (v : V), vs = [.ref c, .ref d, v] ∧ H c = some (.lst (ns.map V.str)) ∧ SqA K H d (known.map V.str) ∧ known.Nodup ∧ (∀ x ∈ known, x ∈ ns) ∧ known.length < 1000 ∧ BadAsk K H ns v ∧ Flies CQ "name" v H E
def spToldQ (K : PySem.W.Frag) (C CQ : Addr) : Sp := fun vs H Q E => ∃ (a d : Addr) (ns known : List Str) (tbl : List (List Int)) (v : V), vs = [.ref a, .ref d, v] ∧ TabAt H C a ns tbl ∧ SqA K H d (known.map V.str) ∧ known.Nodup ∧ (∀ x ∈ known, x ∈ ns) ∧ known.length < 1000 ∧ BadAsk K H ns v ∧ Flies CQ "name" v H E
theorem ok_ckQ (Ck : Chk K mg aF aL aO aK aA aB) (EQ : ErrF P w K mg base "NoQuestion" CQ "name") (F : Fun K "check_both" "check_both" sCkB f fd) : FnOk P w K mg base (L2.CX P w) 4 f fd ["names", "known", "asked"] (spCkQ K CQ) := by
  obtain ⟨fdK, FK⟩ := Ck.CK
  obtain ⟨fdA, FA⟩ := Ck.CA
  have GK := ok_ckK (P := P) (w := w) (base := base) Ck FK
  have GA : FnOk P w K mg base (L2.CX P w) 3 aA fdA ["names", "asked"] (spCkAX K CQ) := ok_ckAX Ck EQ FA
  have bK := FK.binds (ps := ["names", "known"]) fun _ _ _ _ _ _ us hl => match us, hl with | [_, _], _ => rfl
  have bA := FA.binds (ps := ["names", "asked"]) fun _ _ _ _ _ _ us hl => match us, hl with | [_, _], _ => rfl
  refine F.okX scCkB (fun vs H Q E h => by obtain ⟨_, _, _, _, _, e, _⟩ := h; rw [e]; rfl) fun cdv A outer s H vs Q E hr hsp => ?_
  obtain ⟨q, d, ns, known, v, rfl, hc, hd, nd, sub, sh, hb, hf⟩ := hsp
  refine ⟨_, pss_cons (ps_expr (pe_call GK hr rfl Ck.gCK FK.kp bK .nil pass0 (pa_cons (pv 0) (pa_cons (pv 1) pa_nil))))
    (pss_one (ps_expr (pe_callS GA hr rfl Ck.gCA FA.kp bA (fun σ => passAt (takes_of rfl rfl rfl rfl) σ) (pa_cons (pv 0) (pa_cons (pv 2) pa_nil))))), ?_⟩
  exact ⟨_, rfl, _, rfl, q, d, ns, known, rfl, hc, hd, nd, sub, sh, fun H1 k1 => ⟨_, rfl, _, rfl, q, ns, v, rfl, SqL.of (k1 _ _ hc), .inr ⟨hb.same k1, hf.same k1⟩⟩⟩
theorem ok_toldQ (F : Fun K "is_told" "Table.is_told" sIsTold f fd) (T : TabC K CT) (Ck : Chk K mg aF aL aO aK aA aB) (EQ : ErrF P w K mg base "NoQuestion" CQ "name") : FnOk P w K mg base (L2.CX P w) 5 f fd ["self", "known", "asked"] (spToldQ K CT CQ) := by
  obtain ⟨fdB, FB⟩ := Ck.CB
  have GB := ok_ckQ Ck EQ FB
  have bB := FB.binds (ps := ["names", "known", "asked"]) fun _ _ _ _ _ _ us hl => match us, hl with | [_, _, _], _ => rfl
  refine F.okX scMt (fun vs H Q E h => by obtain ⟨_, _, _, _, _, _, e, _⟩ := h; rw [e]; rfl) fun cdv A outer s H vs Q E hr hsp => ?_
  obtain ⟨a, d, ns, known, tbl, v, rfl, tab, hd, nd, sub, sh, hb, hf⟩ := hsp
  refine ⟨_, pss_cons (ps_expr (pe_callS GB hr rfl Ck.gCB FB.kp bB (fun σ => passAt (takes_of rfl rfl rfl rfl) σ) (pa_cons (pe_fld (pv 0) rfl) (pa_cons (pv 1) (pa_cons (pv 2) pa_nil))))) pss_never, ?_⟩
  obtain ⟨dx, qa, ra, ha, hqa, hra⟩ := id tab.ex
  exact ⟨_, rfl, _, _, _, _, _, rfl, ha, T.cl, T.nQ, tabF_q _ _, _, rfl, _, rfl, qa, d, ns, known, v, rfl, hqa, hd, nd, sub, sh, hb, hf⟩
theorem ok_fTold (F : Fun K "told" "File.told" sTold f fd) (T : FilC K C) (TM : TabM K CT fQ fI fPl fPr) (Ck : Chk K mg aF aL aO aK aA aB) (FK : Fun K "known" "File.known" sKnown fKn fdK) (mK : Meth K C "known" fKn) (FT : Fun K "told_by" "told_by" sToldBy fT fdT) (gT : mg "told_by" = some (.ref fT)) :
    FnOk P w K mg base CX0 7 f fd NUn (spFTold K C CT) := by
  have GK := ok_kn (P := P) (w := w) (mg := mg) (base := base) FK T Ck.nL
  have bK := FK.binds (ps := NUn) fun _ _ _ _ _ _ us hl => match us, hl with | [_], _ => rfl
  have GT := ok_tb (P := P) (w := w) (base := base) FT TM Ck
  have bT := FT.binds (ps := ["field", "known"]) fun _ _ _ _ _ _ us hl => match us, hl with | [_, _], _ => rfl
  refine F.ok scFTold (fun vs H Q E h => by obtain ⟨_, _, _, _, _, e, _⟩ := h; rw [e]; rfl) fun cdv A outer s H vs Q E hr hsp => ?_
  obtain ⟨p, a, ns, here, tbl, rfl, ft, hq⟩ := hsp
  refine ⟨_, pss_one (ps_ret (pe_call GT hr rfl gT FT.kp bT .nil pass0 (pa_cons (pe_fld (pv 0) rfl) (pa_cons (pe_meth0 (pv 0) T.cl mK GK (hr.mono (by decide)) bK .nil pass0) pa_nil)))), ?_⟩
  obtain ⟨dx, tn, tp, tu, hp, hn⟩ := ft.ex
  refine ⟨_, rfl, p, C, dx, _, _, rfl, hp, T.cl, T.nF, rfl, _, rfl, p, dx, _, rfl, hp, rfl, p, dx, tn, _, _, _, _, rfl, hp, hn, by rw [List.length_map]; exact ft.short, fun q nq => ?_⟩
  have sq := same_new (o := .lst (here.map V.str)) nq
  exact ⟨a, q, ns, here, tbl, rfl, ⟨ft.tab.same sq, .inl upd_same, ft.nd, ft.sub, ft.s1, ft.s2, ft.ndn⟩, fun H' r nr or s => hq H' r (sq.free nr) or (sq.trans s)⟩
theorem ok_fTells (F : Fun K "tells" "File.tells" sFTells f fd) (T : FilC K C) (TM : TabM K CT fQ fI fPl fPr) (Ck : Chk K mg aF aL aO aK aA aB) (FK : Fun K "known" "File.known" sKnown fKn fdK) (mK : Meth K C "known" fKn) : FnOk P w K mg base CX0 6 f fd ["self", "name"] (spFTells K C CT) := by
  have GK := ok_kn (P := P) (w := w) (mg := mg) (base := base) FK T Ck.nL
  have bK := FK.binds (ps := NUn) fun _ _ _ _ _ _ us hl => match us, hl with | [_], _ => rfl
  obtain ⟨fdI, FI⟩ := TM.I
  have GI := ok_isTold (P := P) (w := w) (base := base) FI TM Ck
  have bI := FI.binds (ps := ["self", "known", "asked"]) fun _ _ _ _ _ _ us hl => match us, hl with | [_, _, _], _ => rfl
  refine F.ok scFTells (fun vs H Q E h => by obtain ⟨_, _, _, _, _, _, e, _⟩ := h; rw [e]; rfl) fun cdv A outer s H vs Q E hr hsp => ?_
  obtain ⟨p, a, ns, here, x, tbl, rfl, ft, xin, hq⟩ := hsp
  refine ⟨_, pss_one (ps_ret (pe_meth (pe_fld (pv 0) rfl) TM.cl TM.mI GI hr bI .nil pass0 (pa_cons (pe_meth0 (pv 0) T.cl mK GK (hr.mono (by decide)) bK .nil pass0) (pa_cons (pv 1) pa_nil)))), ?_⟩
  obtain ⟨dx, tn, tp, tu, hp, hn⟩ := ft.ex
  obtain ⟨dx', qa, ra, ha, hqa, hra⟩ := id ft.tab.ex
  refine ⟨_, rfl, p, C, dx, _, _, rfl, hp, T.cl, T.nF, rfl, a, dx', _, rfl, ha, rfl, _, rfl, p, dx, _, rfl, hp, rfl, p, dx, tn, _, _, _, _, rfl, hp, hn, by rw [List.length_map]; exact ft.short, fun q nq => ?_⟩
  have sq := same_new (o := .lst (here.map V.str)) nq
  exact ⟨_, rfl, a, q, ns, here, x, tbl, rfl, ⟨ft.tab.same sq, .inl upd_same, ft.nd, ft.sub, ft.s1, ft.s2, ft.ndn⟩, xin, fun H' s => hq H' (sq.trans s)⟩
theorem ok_fTellsX (F : Fun K "tells" "File.tells" sFTells f fd) (T : FilC K C) (TM : TabM K CT fQ fI fPl fPr) (Ck : Chk K mg aF aL aO aK aA aB) (EQ : ErrF P w K mg base "NoQuestion" CQ "name") (FK : Fun K "known" "File.known" sKnown fKn fdK) (mK : Meth K C "known" fKn) :
    FnOk P w K mg base (L2.CX P w) 6 f fd ["self", "name"] (spFTellsX K C CT CQ) := by
  have GK := ok_kn (P := P) (w := w) (mg := mg) (base := base) FK T Ck.nL
  have bK := FK.binds (ps := NUn) fun _ _ _ _ _ _ us hl => match us, hl with | [_], _ => rfl
  obtain ⟨fdI, FI⟩ := TM.I
  have GI := ok_toldQ FI TM.toTabC Ck EQ
  have bI := FI.binds (ps := ["self", "known", "asked"]) fun _ _ _ _ _ _ us hl => match us, hl with | [_, _, _], _ => rfl
  refine F.okX scFTells (fun vs H Q E h => by obtain ⟨_, _, _, _, _, _, e, _⟩ := h; rw [e]; rfl) fun cdv A outer s H vs Q E hr hsp => ?_
  obtain ⟨p, a, ns, here, v, tbl, rfl, ft, bad, hf⟩ := hsp
  refine ⟨_, pss_one (ps_ret (pe_meth (pe_fld (pv 0) rfl) TM.cl TM.mI GI hr bI .nil (passes (takes_of rfl rfl rfl rfl)) (pa_cons (pe_meth0 (pv 0) T.cl mK GK (hr.mono (by decide)) bK .nil pass0) (pa_cons (pv 1) pa_nil)))), ?_⟩
  obtain ⟨dx, tn, tp, tu, hp, hn⟩ := ft.ex
  obtain ⟨dx', qa, ra, ha, hqa, hra⟩ := id ft.tab.ex
  refine ⟨_, rfl, p, C, dx, _, _, rfl, hp, T.cl, T.nF, rfl, a, dx', _, rfl, ha, rfl, _, rfl, p, dx, _, rfl, hp, rfl, p, dx, tn, _, _, _, _, rfl, hp, hn, by rw [List.length_map]; exact ft.short, fun q nq => ?_⟩
  have sq := same_new (o := .lst (here.map V.str)) nq
  exact ⟨_, rfl, a, q, ns, here, tbl, v, rfl, ft.tab.same sq, .inl upd_same, ft.nd, ft.sub, ft.short, bad.same sq, hf.same sq⟩
theorem ok_copy (F : Fun K "copy" "File.copy" sCopy f fd) (T : FilC K C) (gC : mg "File" = some (.ref C)) (M : Mk K C fN) (FN : Fun K "__init__" "File.__init__" sFInit fN fdN) : FnOk P w K mg base CX0 3 f fd NUn (spCopy C) := by
  have GN := ok_fInit (P := P) (w := w) (mg := mg) (base := base) FN T
  have bN := FN.binds (ps := NFI) fun _ _ _ _ _ _ us hl => match us, hl with | [_, _], _ => rfl
  refine F.ok scCopy (fun vs H Q E h => by obtain ⟨_, _, _, _, _, _, e, _⟩ := h; rw [e]; rfl) fun cdv A outer s H vs Q E hr hsp => ?_
  obtain ⟨p, dx, fa, tn, tp, tu, rfl, hp, hq⟩ := hsp
  have nd := scCopy.nd
  refine ⟨_, pss_cons (ps_set (i := 1) nd rfl (Or.inl rfl) (pe_make M GN hr rfl gC bN .nil pass0 (pa_cons (pe_fld (pv 0) rfl) pa_nil)))
    (pss_cons (ps_fld (pv 1) (pe_fld (pv 0) rfl) rfl) (pss_cons (ps_fld (pv 1) (pe_fld (pv 0) rfl) rfl) (pss_cons (ps_fld (pv 1) (pe_fld (pv 0) rfl) rfl) (pss_one (ps_ret (pv 1)))))), ?_⟩
  refine ⟨_, rfl, p, C, dx, _, _, rfl, hp, T.cl, T.nF, rfl, fun x d nx nd' dnx => ?_⟩
  have px : p ≠ x := ne_of_none hp nx
  have pd : p ≠ d := ne_of_none hp nd'
  refine ⟨x, d, fa, rfl, upd_same, fun H' t0 t1 t2 n0 n1 n2 e _ _ _ keep => ⟨rfl, ?_⟩⟩
  have hp' : H' p = some (.ins C dx (fF fa tn tp tu)) := keep _ _ px (by rw [upd_ne px, upd_ne pd]; exact hp)
  refine ⟨_, rfl, p, C, dx, _, _, rfl, hp', T.cl, T.nN, rfl, _, rfl, x, C, d, _, rfl, e, T.cl, T.nN, (by show 4 < 1000; omega), ?_⟩
  refine ⟨_, rfl, p, C, dx, _, _, rfl, (by rw [upd_ne px]; exact hp'), T.cl, T.nP, rfl, _, rfl, x, C, d, _, rfl, upd_same, T.cl, T.nP, (by show 4 < 1000; omega), ?_⟩
  refine ⟨_, rfl, p, C, dx, _, _, rfl, (by rw [upd_ne px, upd_ne px]; exact hp'), T.cl, T.nU, rfl, _, rfl, x, C, d, _, rfl, upd_same, T.cl, T.nU, (by show 4 < 1000; omega), ?_⟩
  refine ⟨_, rfl, hq _ x d nx upd_same fun b o e => ?_⟩
  have bx : b ≠ x := ne_of_none e nx
  rw [upd_ne bx, upd_ne bx, upd_ne bx]
  exact keep b o bx (by rw [upd_ne bx, upd_ne (ne_of_none e nd')]; exact e)
end
end L2.TB
/-! == and != of pairs, a list beside the empty one -/
namespace LM
open PySem PySem.Spec PyProof.Rows L2
/-- x == y gives b -/
inductive E1 : V → V → Bool → Prop
  | same {v : V} : flatB v = true → E1 v v true
  | ref (a : Addr) : E1 (.ref a) (.ref a) true
  | str (x y : Str) : E1 (.str x) (.str y) (decide (x = y))
  | strnon (x : Str) : E1 (.str x) .non false
theorem E1.at_ {A : Around} {s : Shared} {x y : V} {b : Bool} {v u : Value} (h : E1 x y b) (rx : RelV x v) (ry : RelV y u) : SeqAt.EqAt A s v u b := by
  cases h with
  | same f => exact eqAt_same rx ry f
  | ref a =>
    cases (show v = Value.ref a from rx)
    cases (show u = Value.ref a from ry)
    exact SeqAt.EqAt.same _
  | str p q =>
    obtain ⟨t, rfl⟩ : ∃ t, v = Value.str p t := rx
    obtain ⟨t', rfl⟩ : ∃ t, u = Value.str q t := ry
    have z : decide (p = q) = (p == q) := by
      by_cases e : p = q
      · subst e; simp
      · rw [decide_eq_false e]; exact (beq_eq_false_iff_ne.mpr e).symm
    rw [z]
    exact SeqAt.EqAt.str_str p t q t'
  | strnon p =>
    obtain ⟨t, rfl⟩ : ∃ t, v = Value.str p t := rx
    cases (show u = Value.none from ry)
    exact SeqAt.EqAt.str_none p t
def pairB (b1 b2 : Bool) : Nat → Bool
  | 0 => b1
  | _ => b2
theorem pair_all (b1 b2 : Bool) : (List.range 2).all (pairB b1 b2) = (b1 && b2) := by
  show (pairB b1 b2 0 && (pairB b1 b2 1 && true)) = _
  simp [pairB]
def rPair (K : PySem.W.Frag) (f : Bool → Bool) : R2 := fun x y H Q => ∃ (a b : Addr) (x1 x2 y1 y2 : V) (b1 b2 : Bool), x = .ref a ∧ y = .ref b ∧ SqT K H a [x1, x2] ∧ SqT K H b [y1, y2] ∧ E1 x1 y1 b1 ∧ E1 x2 y2 b2 ∧ Q (.bl (f (b1 && b2))) H
section
variable {X : Cx}
theorem pair_vals {x1 x2 : V} : ∀ {us : List Value}, Vals [x1, x2] us → ∃ u1 u2, us = [u1, u2] ∧ RelV x1 u1 ∧ RelV x2 u2
  | _, .cons r1 (.cons r2 .nil) => ⟨_, _, rfl, r1, r2⟩
theorem pair_at {A : Around} {s : Shared} {x1 x2 y1 y2 : V} {b1 b2 : Bool} {u1 u2 w1 w2 : Value} (h1 : E1 x1 y1 b1) (h2 : E1 x2 y2 b2) (r1 : RelV x1 u1) (r2 : RelV x2 u2) (q1 : RelV y1 w1) (q2 : RelV y2 w2) :
    ∀ j (l1 : j < #[u1, u2].size) (l2 : j < #[w1, w2].size), SeqAt.EqAt A s #[u1, u2][j] #[w1, w2][j] (pairB b1 b2 j)
  | 0, _, _ => h1.at_ r1 q1
  | 1, _, _ => h2.at_ r2 q2
  | j + 2, l, _ => absurd (show j + 2 < 2 from l) (by omega)
theorem op_eqT (hu : X.A.units < cLine) : OpR X (compareOp .Eq) (rPair X.K id) := by
  intro pins s σ H x y v u Q I rx ry ⟨a, b, x1, x2, y1, y2, b1, b2, ex, ey, ha, hb, h1, h2, q⟩
  subst ex ey
  cases (show v = Value.ref a from rx)
  cases (show u = Value.ref b from ry)
  obtain ⟨us, rv, pa, _⟩ := I.tuple ha
  obtain ⟨ws, rw', pb, _⟩ := I.tuple hb
  obtain ⟨u1, u2, rfl, r1, r2⟩ := pair_vals rv
  obtain ⟨w1, w2, rfl, q1, q2⟩ := pair_vals rw'
  refine SeqAt.rcIn_tuples (e := pairB b1 b2) pa pb hu (fun j l1 l2 => SeqAt.EqAt.inModel (pair_at h1 h2 r1 r2 q1 q2 j l1 l2) _ _) ?_
  have e : ((List.range (min ([u1, u2].toArray).size ([w1, w2].toArray).size)).all (pairB b1 b2) && ([u1, u2].toArray).size == ([w1, w2].toArray).size) = (b1 && b2) := by
    show ((List.range 2).all (pairB b1 b2) && true) = _
    rw [pair_all, Bool.and_true]
  rw [e]
  exact ⟨.bl (b1 && b2), H, I, rfl, q⟩
theorem op_neT (hu : X.A.units < cLine) : OpR X (compareOp .NotEq) (rPair X.K not) := by
  intro pins s σ H x y v u Q I rx ry ⟨a, b, x1, x2, y1, y2, b1, b2, ex, ey, ha, hb, h1, h2, q⟩
  subst ex ey
  cases (show v = Value.ref a from rx)
  cases (show u = Value.ref b from ry)
  obtain ⟨us, rv, pa, _⟩ := I.tuple ha
  obtain ⟨ws, rw', pb, _⟩ := I.tuple hb
  obtain ⟨u1, u2, rfl, r1, r2⟩ := pair_vals rv
  obtain ⟨w1, w2, rfl, q1, q2⟩ := pair_vals rw'
  refine SeqAt.RcNeAt.tuples (e := pairB b1 b2) pa pb hu (pair_at h1 h2 r1 r2 q1 q2) _ _ _ _ ?_
  have e : (!((List.range (min ([u1, u2].toArray).size ([w1, w2].toArray).size)).all (pairB b1 b2) && ([u1, u2].toArray).size == ([w1, w2].toArray).size)) = !(b1 && b2) := by
    show (!((List.range 2).all (pairB b1 b2) && true)) = _
    rw [pair_all, Bool.and_true]
  rw [e]
  exact ⟨.bl (!(b1 && b2)), H, I, rfl, q⟩
/-- xs != [] -/
def rNeE (K : PySem.W.Frag) : R2 := fun x y H Q => ∃ (a b : Addr) (xs : List V), x = .ref a ∧ y = .ref b ∧ SqL K H a xs ∧ SqL K H b [] ∧ Q (.bl (!xs.isEmpty)) H
theorem op_neE (hu : X.A.units < cLine) : OpR X (compareOp .NotEq) (rNeE X.K) := by
  intro pins s σ H x y v u Q I rx ry ⟨a, b, xs, ex, ey, ha, hb, q⟩
  subst ex ey
  cases (show v = Value.ref a from rx)
  cases (show u = Value.ref b from ry)
  obtain ⟨us, rv, pa, _⟩ := I.list ha
  obtain ⟨ws, rw', pb, _⟩ := I.list hb
  have ew : ws = [] := by
    cases rw'
    rfl
  subst ew
  have la : s.heap.IsList a us.toArray := pa.isList
  have lb : s.heap.IsList b ([] : List Value).toArray := pb.isList
  cases xs with
  | nil =>
    have eu : us = [] := by
      cases rv
      rfl
    subst eu
    have z := SeqAt.RcNeAt.lists (A := X.A) (e := fun _ => true) la lb rfl hu (fun j l _ => absurd (show j < 0 from l) (by omega))
    exact z _ _ _ _ ⟨.bl false, H, I, rfl, q⟩
  | cons x xs =>
    obtain ⟨u, us', rfl⟩ : ∃ u us', us = u :: us' := by
      cases rv with
      | cons r rr => exact ⟨_, _, rfl⟩
    have z := SeqAt.RcNeAt.lists_lengths (A := X.A) la lb (by simp) hu
    exact z _ _ _ _ ⟨.bl true, H, I, rfl, q⟩
end
end LM
namespace L2.TB
open PySem PySem.Spec PyProof.Rows
/-! for x, y in zip(xs, ys), xs a list, ys a tuple of as many -/
section
/-- what the maker leaves, one cell after the other -/
abbrev mk1 (h : Heap) (l : Addr) : Heap := h.push { cls := .type "list_iterator", data := .fields #[.ref l, .int 0 0] }
abbrev mk2 (h : Heap) (l t : Addr) : Heap := (mk1 h l).push { cls := .type "tuple_iterator", data := .fields #[.ref t, .int 0 0] }
abbrev mk3 (h : Heap) (l t : Addr) : Heap := (mk2 h l t).push { cls := .type "tuple", data := .seq #[.ref h.objs.size, .ref (mk1 h l).objs.size] }
abbrev mk4 (h : Heap) (l t : Addr) : Heap := (mk3 h l t).push { cls := .type "tuple", data := .seq #[.none, .none] }
abbrev mk5 (h : Heap) (l t : Addr) : Heap := (mk4 h l t).push { cls := .type "zip", data := .fields #[.none, .bool false, .bool false, .ref (mk2 h l t).objs.size, .ref (mk3 h l t).objs.size] }
theorem made_zip (l t : Addr) (as bs : Array Value) : Meets (Builtin.«zip.__new__» ⟨[.type "zip", .ref l, .ref t], []⟩) fun _ done z =>
    z.heap.IsList l as ∧ z.heap.IsTuple t bs ∧ done (.ok (.ret (.ref (mk4 z.heap l t).objs.size))) { z with heap := mk5 z.heap l t } :=
  .of_wp fun _ _ _ _ z hz => by
    obtain ⟨h0, gs, ds, tk, os⟩ := z
    obtain ⟨isL, isT, fin⟩ := hz
    have sub := sub_zip
    have isL0 : Heap.IsList (Shared.heap ⟨h0, gs, ds, tk, os⟩) l as := isL
    have isT1 : Heap.IsTuple (Shared.heap ⟨mk1 h0 l, gs, ds, tk, os⟩) t bs := Heap.IsTuple.push isT _
    wp_walk using wpAny_pyIter_list isL0, wpAny_pyIter_tuple isT1
    exact ⟨_, rfl, fin⟩
theorem zip_mixed {P : Program} {w : World} {A : Around} {z : Shared} {E Q : Value → Shared → Prop} {l t : Addr} {as bs : Array Value} (isL : z.heap.IsList l as) (isT : z.heap.IsTuple t bs)
    (more : ∀ h', IsZip h' (z.heap.objs.size + 4) (z.heap.objs.size + 2) (z.heap.objs.size + 3) .none → IsTupOf2 h' (z.heap.objs.size + 2) (.ref z.heap.objs.size) (.ref (z.heap.objs.size + 1)) →
      IsTupOf2 h' (z.heap.objs.size + 3) .none .none → h'.IsListIter z.heap.objs.size l 0 → h'.IsTupleIter (z.heap.objs.size + 1) t 0 → (∀ c o, z.heap.get? c = some o → h'.get? c = some o) → Q (.ref (z.heap.objs.size + 4)) { z with heap := h' }) :
    wpAny (model P w) A (call (.type "zip") [.ref l, .ref t]) Q E z := by
  refine callType_new F.called_zip (by decide) (F.typeCall_zip_2 _ _) (F.newCall_zip_2 _ _) (fun o => F.args_object_init_3 o _ _) F.entry_zip_new (made_zip l t as bs) ⟨isL, isT, ?_⟩
  have s1 : (mk1 z.heap l).objs.size = z.heap.objs.size + 1 := Heap.size_push ..
  have s2 : (mk2 z.heap l t).objs.size = z.heap.objs.size + 2 := by rw [Heap.size_push, s1]
  have s3 : (mk3 z.heap l t).objs.size = z.heap.objs.size + 3 := by rw [Heap.size_push, s2]
  have s4 : (mk4 z.heap l t).objs.size = z.heap.objs.size + 4 := by rw [Heap.size_push, s3]
  have e5 : (mk5 z.heap l t).get? (mk4 z.heap l t).objs.size = some { cls := .type "zip", data := .fields #[.none, .bool false, .bool false, .ref (mk2 z.heap l t).objs.size, .ref (mk3 z.heap l t).objs.size] } := Heap.get?_push_size _ rfl
  have up5 : ∀ {c : Addr} {o : Obj}, (mk4 z.heap l t).get? c = some o → (mk5 z.heap l t).get? c = some o := fun e => Heap.get?_push_of_some _ e
  have up4 : ∀ {c : Addr} {o : Obj}, (mk3 z.heap l t).get? c = some o → (mk5 z.heap l t).get? c = some o := fun e => up5 (Heap.get?_push_of_some _ e)
  have up3 : ∀ {c : Addr} {o : Obj}, (mk2 z.heap l t).get? c = some o → (mk5 z.heap l t).get? c = some o := fun e => up4 (Heap.get?_push_of_some _ e)
  have up2 : ∀ {c : Addr} {o : Obj}, (mk1 z.heap l).get? c = some o → (mk5 z.heap l t).get? c = some o := fun e => up3 (Heap.get?_push_of_some _ e)
  have e4 : (mk5 z.heap l t).get? (mk3 z.heap l t).objs.size = some { cls := .type "tuple", data := .seq #[.none, .none] } := up5 (Heap.get?_push_size _ rfl)
  have e3 : (mk5 z.heap l t).get? (mk2 z.heap l t).objs.size = some { cls := .type "tuple", data := .seq #[.ref z.heap.objs.size, .ref (mk1 z.heap l).objs.size] } := up4 (Heap.get?_push_size _ rfl)
  have e2 : (mk5 z.heap l t).get? (mk1 z.heap l).objs.size = some { cls := .type "tuple_iterator", data := .fields #[.ref t, .int 0 0] } := up3 (Heap.get?_push_size _ rfl)
  have e1 : (mk5 z.heap l t).get? z.heap.objs.size = some { cls := .type "list_iterator", data := .fields #[.ref l, .int 0 0] } := up2 (Heap.get?_push_size _ rfl)
  show _ ∧ _
  rw [s2, s3, s4] at e5
  rw [s3] at e4
  rw [s1, s2] at e3
  rw [s1] at e2
  rw [s4]
  exact ⟨⟨_, e5, rfl⟩, more _ e5 e3 e4 ⟨_, e1, rfl, rfl⟩ ⟨_, e2, rfl, rfl⟩ fun c o e => up2 (Heap.get?_push_of_some _ e)⟩
end
/-- the items of the list at a and of the tuple at b, in new pairs -/
def ItzM (K : PySem.W.Frag) (a b : Addr) : It where
  go i H := ∃ (xs ys : List V) (x y : V), SqL K H a xs ∧ SqT K H b ys ∧ xs[i]? = some x ∧ ys[i]? = some y
  yld i H v H' := ∃ T x y, v = .ref T ∧ H T = none ∧ H' = upd H T (.tup [x, y]) ∧ (∀ xs, SqL K H a xs → xs[i]? = some x) ∧ ∀ ys, SqT K H b ys → ys[i]? = some y
  stop i H := ∃ xs ys : List V, SqL K H a xs ∧ SqT K H b ys ∧ xs.length = i ∧ ys.length = i
theorem five {p : Addr → Prop} {z u v i j b : Addr} (h : b ∈ [z, u, v, i, j]) (h1 : p z) (h2 : p u) (h3 : p v) (h4 : p i) (h5 : p j) : p b := by
  simp only [List.mem_cons, List.not_mem_nil, or_false] at h
  rcases h with rfl | rfl | rfl | rfl | rfl <;> assumption
theorem turn_zipM {P : Program} {w : World} {K : PySem.W.Frag} {elts : List Expr} {kk : Nat} {tpos : Pos} {a b z u v i1 i2 : Addr} (S : ZipSep2 z u v i1 i2 [i1, a] [i2, b]) :
    Turn P w K (.Tuple elts kk tpos) (ItzM K a b) [z, u, v, i1, i2] z (fun i h => IsZip h z u v .none ∧ IsTupOf2 h u (.ref i1) (.ref i2) ∧ (∃ x y, IsTupOf2 h v x y) ∧ h.IsListIter i1 a i ∧ h.IsTupleIter i2 b i) := by
  have list_ne : ∀ {h : Heap} {i : Nat} {as : Array Value}, h.IsListIter i1 a i → h.IsList a as → a ≠ i1 := by
    rintro h i as ⟨o, eo, co, _⟩ isL rfl
    obtain ⟨o', eo', co', _⟩ := isL
    rw [eo] at eo'
    cases eo'
    rw [co] at co'
    exact absurd co' (by decide)
  have tup_ne : ∀ {h : Heap} {i : Nat} {bs : Array Value}, h.IsTupleIter i2 b i → h.IsTuple b bs → b ≠ i2 := by
    rintro h i bs ⟨o, eo, co, _⟩ isT rfl
    obtain ⟨o', eo', co', _⟩ := isT
    rw [eo] at eo'
    cases eo'
    have co' : o.cls = Value.type "tuple" := co'
    rw [co] at co'
    exact absurd co' (by decide)
  refine ⟨List.mem_cons_self, fun i h st c hc => ?_, fun i h h' st same => ?_, ?_, ?_, fun A i s Q E st more => wpAny_pyIter_zip st.1 more⟩
  · obtain ⟨gz, gu, ⟨x, y, gv⟩, ⟨o1, e1, _, d1⟩, ⟨o2, e2, _, d2⟩⟩ := st
    exact five (p := fun c => ∃ o, h.get? c = some o ∧ ∀ v, o.data ≠ .cell v) hc ⟨_, gz, fun _ e => nomatch e⟩ ⟨_, gu, fun _ e => nomatch e⟩ ⟨_, gv, fun _ e => nomatch e⟩ ⟨o1, e1, fun _ e => by rw [d1] at e; exact nomatch e⟩ ⟨o2, e2, fun _ e => by rw [d2] at e; exact nomatch e⟩
  · obtain ⟨gz, gu, ⟨x, y, gv⟩, h1, h2⟩ := st
    exact ⟨same z (by simp) _ gz, same u (by simp) _ gu, ⟨x, y, same v (by simp) _ gv⟩, h1.at fun o e => same i1 (by simp) o e, h2.at fun o e => same i2 (by simp) o e⟩
  · rintro X rfl rfl rfl calm i pins s σ H E I room ⟨gz, gu, ⟨x0, y0, gv⟩, g1, g2⟩ ⟨xs, ys, x, y, isX, isY, nx, ny⟩
    obtain ⟨us, rel1, p1, _⟩ := I.list isX
    obtain ⟨vs, rel2, p2, _⟩ := I.tuple isY
    obtain ⟨c, nc, rc⟩ := rel1.get nx
    obtain ⟨d, ny', rd⟩ := rel2.get ny
    have isL : s.heap.IsList a us.toArray := p1.isList
    have isT : s.heap.IsTuple b vs.toArray := p2
    have D1 := Draws.list (prog := X.prog) (w := X.w) (A := X.A.in1) (I.ok.hd calm) i1 a (list_ne g1 isL) us.toArray
    have D2 := Draws.tuple (prog := X.prog) (w := X.w) (A := X.A.in1) (I.ok.hd calm) i2 b (tup_ne g2 isT) vs.toArray
    have in1 : i < us.toArray.size := by
      have := (List.getElem?_eq_some_iff.mp nc).1
      simpa using this
    have in2 : i < vs.toArray.size := by
      have := (List.getElem?_eq_some_iff.mp ny').1
      simpa using this
    have lz : z < s.heap.objs.size := Heap.lt_size gz
    refine wpAny_pyNext_zipD2_item S D1 D2 gz gu gv ⟨g1, isL⟩ ⟨g2, isT⟩ in1 in2 fun c' d' h1 tk ec ed gz' gv' st1 st2 newT _ kept => ?_
    obtain rfl : c' = c := by
      have ec : us.toArray[i]? = some c' := ec
      rw [List.getElem?_toArray, nc] at ec
      exact (Option.some.inj ec).symm
    obtain rfl : d' = d := by
      have ed : vs.toArray[i]? = some d' := ed
      rw [List.getElem?_toArray, ny'] at ed
      exact (Option.some.inj ed).symm
    refine ⟨_, rfl, wpAny_letOwnedTupleGo_zip (s := { s with heap := h1, toks := tk }) gz' fun h2 back same2 => ?_⟩
    have far : ∀ q o, q ∉ [z, u, v, i1, i2] → s.heap.get? q = some o → h2.get? q = some o := fun q o away e =>
      (same2.2 q fun k => away (by simp [k])).trans (kept q o (fun k => away (by simp [k])) (fun k => away (by simp [k])) (fun k => away (by simp [k])) (fun k => away (by simp [k])) e)
    have pair : ObjOk X.prog X.w (upd H s.heap.objs.size (.tup [x, y])) h2 s.heap.objs.size (.tup [x, y]) :=
      ⟨show 2 ≤ sizeLine by decide, [c', d'], .cons rc (.cons rd .nil), _, (same2.2 _ (Nat.ne_of_gt lz)).trans newT, rfl, _, rfl⟩
    refine ⟨.ref s.heap.objs.size, _, I.turnedNew (t' := tk) (ch := [z, u, v, i1, i2]) far room (Nat.le_refl _) pair, rfl, ⟨_, x, y, rfl, I.hok.fresh (Nat.le_refl _), rfl, fun l is' => ?_, fun l is' => ?_⟩, ⟨back, ?_, ⟨c', d', ?_⟩, ?_, ?_⟩, fun q hq => ?_⟩
    · rw [I.list_inj is' isX]; exact nx
    · rw [I.tuple_inj is' isY]; exact ny
    · exact (same2.2 _ S.TIz).trans (kept _ _ S.TIz S.TITO S.TIi1 S.TIi2 gu)
    · exact (same2.2 _ S.TOz).trans gv'
    · exact st1.1.at fun o e => (same2.2 _ fun k => S.zi1 k.symm).trans e
    · exact st2.1.at fun o e => (same2.2 _ fun k => S.zi2 k.symm).trans e
    · have lq : q < s.heap.objs.size := by
        obtain ⟨_, e1, _⟩ := g1
        obtain ⟨_, e2, _⟩ := g2
        exact five (p := fun q => q < s.heap.objs.size) hq lz (Heap.lt_size gu) (Heap.lt_size gv) (Heap.lt_size e1) (Heap.lt_size e2)
      rw [upd_ne (Nat.ne_of_lt lq)]
      exact (room q hq).1
  · rintro X rfl rfl rfl calm i pins s σ H E I room ⟨gz, gu, ⟨x0, y0, gv⟩, g1, g2⟩ ⟨xs, ys, isX, isY, l1, l2⟩
    obtain ⟨us, rel1, p1, _⟩ := I.list isX
    obtain ⟨vs, rel2, p2, _⟩ := I.tuple isY
    have isL : s.heap.IsList a us.toArray := p1.isList
    have isT : s.heap.IsTuple b vs.toArray := p2
    have D1 := Draws.list (prog := X.prog) (w := X.w) (A := X.A.in1) (I.ok.hd calm) i1 a (list_ne g1 isL) us.toArray
    have D2 := Draws.tuple (prog := X.prog) (w := X.w) (A := X.A.in1) (I.ok.hd calm) i2 b (tup_ne g2 isT) vs.toArray
    have n1 : i = us.toArray.size := by rw [List.size_toArray, ← rel1.length, l1]
    have n2 : i = vs.toArray.size := by rw [List.size_toArray, ← rel2.length, l2]
    refine wpAny_pyNext_zipD2_end S D1 D2 gz gu gv ⟨g1, isL⟩ ⟨g2, isT⟩ (by omega) (by omega) (.inl n1) fun h1 tk kept => ⟨rfl, ?_⟩
    exact I.turnedL (t' := tk) (ch := [z, u, v, i1, i2]) (fun c o away e => kept c o (fun k => away (by simp [k])) (fun k => away (by simp [k])) (fun k => away (by simp [k])) (fun k => away (by simp [k])) e) room
theorem sep_of (n a b : Nat) (la : a < n) (lb : b < n) : ZipSep2 (n + 4) (n + 2) (n + 3) n (n + 1) [n, a] [n + 1, b] := by
  have h1 : ¬ (n + 4 = a) := by omega
  have h2 : ¬ (n + 4 = b) := by omega
  have h3 : ¬ (n + 3 = a) := by omega
  have h4 : ¬ (n + 3 = b) := by omega
  have h5 : ¬ (n = b) := by omega
  have h6 : ¬ (n + 1 = a) := by omega
  constructor <;> simp [h1, h2, h3, h4, h5, h6]
/-- the reading of zip over a list and a tuple -/
def iZipM (K : PySem.W.Frag) (ta : TA) : TI := fun σ H R => ta σ H fun vs H1 => ∃ a b xs ys, vs = [.ref a, .ref b] ∧ SqL K H1 a xs ∧ SqT K H1 b ys ∧ R (ItzM K a b) H1
theorem pi_zipM {X : Cx} {e e2 : Expr} {ta : TA} {p pos tpos : Pos} {elts : List Expr} {kk : Nat} (hg : Gl X "zip") (hm : X.mg "zip" = none) (ha : PA X [e, e2] ta)
    (hs : starEach [e, e2] X.env = (false, eval e X.env) :: starEach [e2] X.env := by rfl) (hpl : (backTo pos (starEach [e2] X.env)).any (·.1) = false := by rfl) :
    PI X (.Tuple elts kk tpos) (.Call (.Name "zip" p) [e, e2] [] pos) (iZipM X.K ta) := by
  refine ⟨fun pins z σ H R I reading => Call_ (ld_blt I hg hm PyProof.Rows.boot_zip (PyProof.Rows.callWith_type1 (thn (ha.run pos pins z σ H _ I reading) fun us z1 got => ?_) hs hpl))⟩
  obtain ⟨vs, H1, I1, rel, a, b, xs, ys, rfl, isX, isY, q⟩ := got
  match us, rel with
  | [c, d], .cons rc (.cons rd .nil) =>
    obtain rfl : c = Value.ref a := rc
    obtain rfl : d = Value.ref b := rd
    obtain ⟨us, rel1, p1, _⟩ := I1.list isX
    obtain ⟨vs, rel2, p2, _⟩ := I1.tuple isY
    have isL : z1.heap.IsList a us.toArray := p1.isList
    have isT : z1.heap.IsTuple b vs.toArray := p2
    have la : a < z1.heap.objs.size := p1.lt
    have lb : b < z1.heap.objs.size := by
      obtain ⟨o, e, _⟩ := isT
      exact Heap.lt_size e
    refine zip_mixed isL isT fun h' gz gu gv g1 g2 kept => wpAny_pyIter_zip gz ?_
    have fresh : ∀ c ∈ [z1.heap.objs.size + 4, z1.heap.objs.size + 2, z1.heap.objs.size + 3, z1.heap.objs.size, z1.heap.objs.size + 1], FpOk X pins H1 c := fun c hc =>
      have far : z1.heap.objs.size ≤ c := five (p := fun c => z1.heap.objs.size ≤ c) hc (by omega) (by omega) (by omega) (by omega) (by omega)
      I1.fpOk far (I1.hok.fresh far)
    refine ⟨_, _, _, _, H1, rfl, I1.kept (t' := z1.toks) kept, turn_zipM (a := a) (b := b) (z := z1.heap.objs.size + 4) (u := z1.heap.objs.size + 2) (v := z1.heap.objs.size + 3) (i1 := z1.heap.objs.size) (i2 := z1.heap.objs.size + 1) ?_, ⟨gz, gu, ⟨_, _, gv⟩, g1, g2⟩, fresh, q⟩
    exact sep_of _ a b la lb
end L2.TB
/-! what the law's defs know of the program; _law_stands -/
namespace L2.TB
open PySem PySem.Spec PyProof.Rows LM
theorem alk_strs {H : Hp} {a b : Addr} {l : List Str} (ha : H a = some (.lst (l.map V.str))) (hb : H b = some (.lst (l.map V.str))) (sh : l.length < 1000) : Alk H 1 (.ref a) (.ref b) := by
  refine .lst ha hb rfl (by rw [List.length_map]; exact sh) fun i x y e1 e2 => ?_
  rw [e1] at e2
  obtain rfl := Option.some.inj e2
  rw [List.getElem?_map] at e1
  obtain ⟨z, _, rfl⟩ := Option.map_eq_some_iff.mp e1
  exact .str z
/-- the program's and the law's defs -/
structure LwF (P : Program) (w : World) (K : PySem.W.Frag) (mg : Str → Option Value) (base : Heap) (C CT CQ CK CN : Addr) : Prop where
  T : FilC K C
  TC : TabC K CT
  learn : ∃ f fd, Fun K "learn" "File.learn" sLearn f fd ∧ Meth K C "learn" f ∧ FnOk P w K mg base (L2N.CX P w) 4 f fd ["self", "name"] (spLearn C CT CQ CK K)
  forget : ∃ f fd, Fun K "forget" "File.forget" sForget f fd ∧ Meth K C "forget" f ∧ FnOk P w K mg base (L2N.CX P w) 4 f fd ["self", "name"] (spForget C CN K)
  known : ∃ f fd, Fun K "known" "File.known" sKnown f fd ∧ Meth K C "known" f ∧ FnOk P w K mg base CX0 1 f fd NUn (spKn C)
  told : ∃ f fd, Fun K "told" "File.told" sTold f fd ∧ Meth K C "told" f ∧ FnOk P w K mg base CX0 7 f fd NUn (spFTold K C CT)
  tells : ∃ f fd, Fun K "tells" "File.tells" sFTells f fd ∧ Meth K C "tells" f ∧ FnOk P w K mg base CX0 6 f fd ["self", "name"] (spFTells K C CT) ∧ FnOk P w K mg base (L2.CX P w) 6 f fd ["self", "name"] (spFTellsX K C CT CQ)
  undo : ∃ f fd, Fun K "undo" "File.undo" sUndo f fd ∧ Meth K C "undo" f ∧ FnOk P w K mg base CX0 1 f fd NUn (spUndo C)
  again : ∃ f fd, Fun K "again" "File.again" sAgain f fd ∧ Meth K C "again" f ∧ FnOk P w K mg base CX0 1 f fd NUn (spAgain C)
  copy : ∃ f fd, Fun K "copy" "File.copy" sCopy f fd ∧ Meth K C "copy" f ∧ FnOk P w K mg base CX0 3 f fd NUn (spCopy C)
  trial : ∃ f fd, Fun K "trial" "File.trial" sTrial f fd ∧ Meth K C "trial" f
  draw : ∃ f fd, mg "_law_draw" = some (.ref f) ∧ Fun K "_law_draw" "_law_draw" sDraw f fd ∧ FnOk P w K mg base CX0 1 f fd ["stream", "many"] spDraw
  pick : ∃ f fd, mg "_law_pick" = some (.ref f) ∧ Fun K "_law_pick" "_law_pick" sPick f fd ∧ FnOk P w K mg base CX0 2 f fd ["stream", "some"] (spPick K)
  lt : ∃ f fd, mg "_law_t_tells" = some (.ref f) ∧ Fun K "_law_t_tells" "_law_t_tells" sTells f fd ∧ FnOk P w K mg base CX0 2 f fd ["rows", "known", "asked"] (spTells K)
  same : ∃ f fd, mg "_law_same" = some (.ref f) ∧ Fun K "_law_same" "_law_same" sSame f fd ∧ FnOk P w K mg base CX0 3 f fd ["found", "due"] (spSameT 2)
  tried : ∃ f fd, mg "_law_tried" = some (.ref f) ∧ Fun K "_law_tried" "_law_tried" sTried f fd
  O : ClzOk K mg (clz3 ⟨CQ, CK, CN⟩)
  M : Sm mg
  bi : ∃ P0, base.BuiltinsAt mg P0
abbrev NSt : List Str := ["file", "rows", "here", "names", "told", "name"]
theorem scSt : FnScope NSt ["file", "rows", "here"] (defScope sStands) := ⟨rfl, rfl, rfl, by decide +kernel, rfl, by decide +kernel, by decide +kernel⟩
/-- a file of a table whose rows the law has -/
structure FRow (K : PySem.W.Frag) (H : Hp) (C CT p a r : Addr) (as : List Addr) (ns here : List Str) (tbl : List (List Int)) : Prop where
  f : FTab K H C CT p a ns here tbl
  r : H r = some (.lst (as.map V.ref))
  rows : DRows H ns as tbl
  tne : tbl ≠ []
theorem FRow.same {K : PySem.W.Frag} {H H' : Hp} {C CT p a r : Addr} {as : List Addr} {ns here : List Str} {tbl : List (List Int)} (h : FRow K H C CT p a r as ns here tbl) (s : Same H H') : FRow K H' C CT p a r as ns here tbl :=
  ⟨h.f.same s, s _ _ h.r, h.rows.same s, h.tne⟩
def spStands (K : PySem.W.Frag) (C CT : Addr) : Sp := fun vs H Q _ => ∃ (p a r h : Addr) (as : List Addr) (ns here : List Str) (tbl : List (List Int)), vs = [.ref p, .ref r, .ref h] ∧ FRow K H C CT p a r as ns here tbl ∧ H h = some (.tup (here.map V.str)) ∧ ∀ H', Same H H' → Q (.bl true) H'
theorem first_keys {H : Hp} {ns : List Str} {as : List Addr} {tbl : List (List Int)} (rows : DRows H ns as tbl) (tne : tbl ≠ []) : ∃ (a0 : Addr) (vs0 : List Int), atI (as.map V.ref) ((0 : Nat) : Int) = some (.ref a0) ∧ H a0 = some (.dK (dk ns vs0)) ∧ (dk ns vs0).map (fun kv => kV kv.1) = ns.map V.str := by
  have las : as.length = tbl.length := Paired.length rows
  have pos : 0 < tbl.length := List.length_pos_iff.mpr tne
  obtain ⟨a0, ea0⟩ : ∃ a0, as[0]? = some a0 := ⟨as[0]'(by omega), List.getElem?_eq_getElem _⟩
  obtain ⟨vs0, ev0, oa0, lv0⟩ := paired_get rows ea0
  refine ⟨a0, vs0, atI_nat (by rw [List.getElem?_map, ea0]; rfl), oa0, ?_⟩
  have z := congrArg (List.map kV) (dk_keys lv0.symm)
  rw [List.map_map, List.map_map] at z
  exact z
section
variable {P : Program} {w : World} {K : PySem.W.Frag} {mg : Str → Option Value} {base : Heap} {f C CT CQ CK CN : Addr} {fd : FuncData}
theorem ok_stands (FS : Fun K "_law_stands" "_law_stands" sStands f fd) (L : LwF P w K mg base C CT CQ CK CN) : FnOk P w K mg base CX0 8 f fd ["file", "rows", "here"] (spStands K C CT) := by
  obtain ⟨fK, fdK, FK, mK, GK⟩ := L.known
  have bK := FK.binds (ps := NUn) fun _ _ _ _ _ _ us hl => match us, hl with | [_], _ => rfl
  obtain ⟨fT, fdT, FT, mT, GT⟩ := L.told
  have bT := FT.binds (ps := NUn) fun _ _ _ _ _ _ us hl => match us, hl with | [_], _ => rfl
  obtain ⟨fL, fdL, FL, mL, GL, _⟩ := L.tells
  have bL := FL.binds (ps := ["self", "name"]) fun _ _ _ _ _ _ us hl => match us, hl with | [_, _], _ => rfl
  obtain ⟨fX, fdX, gX, FX, GX⟩ := L.lt
  have bX := FX.binds (ps := ["rows", "known", "asked"]) fun _ _ _ _ _ _ us hl => match us, hl with | [_, _, _], _ => rfl
  obtain ⟨fE, fdE, gE, FE, GE⟩ := L.same
  have bE := FE.binds (ps := ["found", "due"]) fun _ _ _ _ _ _ us hl => match us, hl with | [_, _], _ => rfl
  refine FS.ok scSt (fun vs H Q E h => by obtain ⟨_, _, _, _, _, _, _, _, e, _⟩ := h; rw [e]; rfl) fun cdv A outer s H vs Q E hr hsp => ?_
  obtain ⟨p, a, r, h, as, ns, here, tbl, rfl, FR, hh, hq⟩ := hsp
  have nd := scSt.nd
  refine ⟨_, pss_cons (ps_set (i := 3) nd rfl (Or.inl rfl) (pe_callTy (call_listD rfl) rfl L.M.nL boot_list' (pa_cons (pe_ix ix_list (pv 1) pe_int (fun _ _ => rfl)) pa_nil)))
    (pss_cons (ps_set (i := 4) nd rfl (Or.inr rfl) (pe_lc (own := [("name", 5)]) (te := tVar 5) rfl nd (pi_seq (pv 3)) (blkOk_by (N := NSt) (sc := defScope sStands) (by decide +kernel)) (fun _ _ _ _ _ => pg_name (i := 5) nd rfl (Or.inl rfl))
      (fun _ _ _ _ _ => pts_one (pt_val (pe_call GX (hr.mono (by decide)) rfl gX FX.kp bX .nil pass0 (pa_cons (pv 1) (pa_cons (pv 2) (pa_cons (pv 5) pa_nil)))))) (fun _ _ _ _ _ => pv 5)))
    (pss_cons (ps_if (pt_not (pt_val (pe_call GE (hr.mono (by decide)) rfl gE FE.kp bE .nil pass0 (pa_cons (pe_lst (pa_cons (pe_meth0 (pv 0) L.T.cl mK GK (hr.mono (by decide)) bK .nil pass0) (pa_cons (pe_meth0 (pv 0) L.T.cl mT GT hr bT .nil pass0) pa_nil)))
        (pa_cons (pe_lst (pa_cons (pe_callTy call_list_of rfl L.M.nL boot_list' (pa_cons (pv 2) pa_nil)) (pa_cons (pv 4) pa_nil))) pa_nil))))) (pss_one ps_never) pss_nil)
    (pss_cons (ps_expr (pe_bm PySem.F.plainAttrs_list PySem.F.slot_list_append PySem.F.type_list_append mt_append (pe_meth0 (pv 0) L.T.cl mK GK (hr.mono (by decide)) bK .nil pass0) (pa_cons pe_str pa_nil)))
    (pss_cons (ps_expr (pe_bm PySem.F.plainAttrs_list PySem.F.slot_list_append PySem.F.type_list_append mt_append (pe_meth0 (pv 0) L.T.cl mT GT hr bT .nil pass0) (pa_cons pe_str pa_nil)))
    (pss_one (ps_ret (pe_call GE (hr.mono (by decide)) rfl gE FE.kp bE .nil pass0
      (pa_cons (pe_lc (own := [("name", 5)]) (tt := tYes) rfl nd (pi_seq (pv 3)) (blkOk_by (N := NSt) (sc := defScope sStands) (by decide +kernel)) (fun _ _ _ _ _ => pg_name (i := 5) nd rfl (Or.inl rfl)) (fun _ _ _ _ _ => pts_nil)
          (fun _ _ _ _ _ => pe_meth (pv 0) L.T.cl mL GL (hr.mono (by decide)) bL .nil pass0 (pa_cons (pv 5) pa_nil)))
      (pa_cons (pe_lc (own := [("name", 5)]) (tt := tYes) (te := tOp (rIn K false) (tVar 5) (tVar 4)) rfl nd (pi_seq (pv 3)) (blkOk_by (N := NSt) (sc := defScope sStands) (by decide +kernel)) (fun _ _ _ _ _ => pg_name (i := 5) nd rfl (Or.inl rfl)) (fun _ _ _ _ _ => pts_nil)
          (fun _ _ _ _ _ => pe_cmpR op_in_seq (pv 5) (pv 4) rfl)) pa_nil))))))))), ?_⟩
  obtain ⟨a0, vs0, at0, oa0, ek⟩ := first_keys FR.rows FR.tne
  have shn : ns.length < 1000 := FR.f.s1
  refine ⟨_, rfl, _, _, _, _, rfl, rfl, SqL.of FR.r, at0, a0, _, rfl, .inl oa0, fun q nq => ?_⟩
  rw [ek]
  have sq := same_new (o := .lst (ns.map V.str)) nq
  have oq : upd H q (.lst (ns.map V.str)) q = some (.lst (ns.map V.str)) := upd_same
  generalize upd H q (.lst (ns.map V.str)) = H1 at sq oq
  have FR1 := FR.same sq
  have hh1 := sq _ _ hh
  refine ⟨_, rfl, lc_seq (.inl rfl) oq (by rw [List.length_map]; omega) (isStr fun x => decide (Tells ns tbl here x)) id ?_ ?_⟩
  · rintro i v H3 Cn Nn ev s3 yes no
    rw [List.getElem?_map] at ev
    obtain ⟨x, ex, rfl⟩ := Option.map_eq_some_iff.mp ev
    have xin : x ∈ ns := List.mem_of_getElem? ex
    have FR3 := FR1.same s3
    refine ⟨rfl, _, rfl, _, rfl, _, rfl, r, h, as, ns, here, x, tbl, rfl, ⟨FR3.r, FR3.rows.rd, .inr (s3 _ _ hh1), FR3.f.sub, FR3.f.short, FR3.f.ndn⟩, xin, fun H4 s4 => ⟨_, rfl, ?_⟩⟩
    cases k : decide (Tells ns tbl here x) with
    | true => exact ⟨_, rfl, yes k H4 s4⟩
    | false => exact no k H4 s4
  · intro H3 D nD oD s3
    rw [filter_strs] at oD
    have oD : H3 D = some (.lst ((toldL ns tbl here).map V.str)) := oD
    have FR3 := FR1.same s3
    have hh3 := s3 _ _ hh1
    have oq3 := s3 _ _ oq
    have sh3 : here.length < 1000 := FR3.f.short
    have sht : (toldL ns tbl here).length < 1000 := Nat.lt_of_le_of_lt (List.length_filter_le _ _) shn
    obtain ⟨dx, tn, tp, tu, hp, hn⟩ := FR3.f.ex
    refine ⟨_, rfl, p, dx, _, rfl, hp, rfl, p, dx, tn, _, _, _, _, rfl, hp, hn, by rw [List.length_map]; exact sh3, fun k1 nk1 => ?_⟩
    have sk1 := same_new (o := .lst (here.map V.str)) nk1
    have ok1 : upd H3 k1 (.lst (here.map V.str)) k1 = some (.lst (here.map V.str)) := upd_same
    generalize upd H3 k1 (.lst (here.map V.str)) = H4 at sk1 ok1
    refine ⟨_, rfl, p, dx, _, rfl, sk1 _ _ hp, rfl, p, a, ns, here, tbl, rfl, FR3.f.same sk1, fun H5 t1 nt1 ot1 s5 => ?_⟩
    refine ⟨(by show 2 ≤ sizeLine; decide), fun l1 nl1 => ?_⟩
    have sl1 := same_new (o := .lst [.ref k1, .ref t1]) nl1
    have ol1 : upd H5 l1 (.lst [.ref k1, .ref t1]) l1 = some (.lst [.ref k1, .ref t1]) := upd_same
    generalize upd H5 l1 (.lst [.ref k1, .ref t1]) = H6 at sl1 ol1
    have s36 := sk1.trans (s5.trans sl1)
    refine ⟨_, rfl, h, _, rfl, .inr (SqT.of (s36 _ _ hh3)), fun k2 nk2 => ?_⟩
    have sk2 := same_new (o := .lst (here.map V.str)) nk2
    have ok2 : upd H6 k2 (.lst (here.map V.str)) k2 = some (.lst (here.map V.str)) := upd_same
    generalize upd H6 k2 (.lst (here.map V.str)) = H7 at sk2 ok2
    refine ⟨_, rfl, (by show 2 ≤ sizeLine; decide), fun l2 nl2 => ?_⟩
    have sl2 := same_new (o := .lst [.ref k2, .ref D]) nl2
    have s78 := sk2.trans sl2
    refine ⟨.ref l1, .ref l2, rfl, .lst (s78 _ _ ol1) upd_same rfl (by show 2 < 1000; omega) (fun i x y e1 e2 => ?_), fun H8 s8 => ⟨_, rfl, iteF ?_⟩⟩
    · match i, e1, e2 with
      | 0, e1, e2 =>
        obtain rfl := Option.some.inj e1
        obtain rfl := Option.some.inj e2
        exact alk_strs ((s5.trans (sl1.trans s78)) _ _ ok1) (sl2 _ _ ok2) sh3
      | 1, e1, e2 =>
        obtain rfl := Option.some.inj e1
        obtain rfl := Option.some.inj e2
        exact alk_strs ((sl1.trans s78) _ _ ot1) ((s36.trans s78) _ _ oD) sht
      | i + 2, e1, e2 => cases e1
    have s38 := s36.trans (s78.trans s8)
    clear sl2
    have FR8 := FR3.same s38
    have oq8 := s38 _ _ oq3
    have oD8 := s38 _ _ oD
    have hp8 := s38 _ _ hp
    have hn8 := s38 _ _ hn
    have s18 := sq.trans (s3.trans s38)
    generalize H8 = G0 at *
    refine ⟨_, rfl, p, dx, _, rfl, hp8, rfl, p, dx, tn, _, _, _, _, rfl, hp8, hn8, by rw [List.length_map]; exact sh3, fun k3 nk3 => ?_⟩
    refine ⟨.inl ⟨rfl, _, SqL.of upd_same⟩, k3, _, .str "late", rfl, rfl, upd_same, by rw [List.length_map, sizeLine_eq]; omega, ?_⟩
    have sg1 : Same G0 (upd (upd G0 k3 (.lst (here.map V.str))) k3 (.lst (here.map V.str ++ [V.str "late"]))) := fun b o e => by
      have nb := ne_of_none e nk3
      rw [upd_ne nb, upd_ne nb]
      exact e
    generalize upd (upd G0 k3 (.lst (here.map V.str))) k3 (.lst (here.map V.str ++ [V.str "late"])) = G1 at sg1
    refine ⟨_, rfl, p, dx, _, rfl, sg1 _ _ hp8, rfl, p, a, ns, here, tbl, rfl, FR8.f.same sg1, fun G2 t3 nt3 ot3 s2 => ?_⟩
    refine ⟨.inl ⟨rfl, _, SqL.of ot3⟩, t3, _, .str "late", rfl, rfl, ot3, by rw [List.length_map, sizeLine_eq]; omega, ?_⟩
    have sg3 : Same G0 (upd G2 t3 (.lst ((toldL ns tbl here).map V.str ++ [V.str "late"]))) := fun b o e => by
      have nb := ne_of_none (sg1 _ _ e) nt3
      rw [upd_ne nb]
      exact s2 _ _ (sg1 _ _ e)
    generalize upd G2 t3 (.lst ((toldL ns tbl here).map V.str ++ [V.str "late"])) = G3 at sg3
    have FR9 := FR8.same sg3
    refine ⟨_, rfl, lc_seq (.inl rfl) (sg3 _ _ oq8) (by rw [List.length_map]; omega) (fun _ => true) (fun v => match v with | .str x => .bl (decide (Tells ns tbl here x)) | _ => .non) ?_ ?_⟩
    · rintro i v G4 Cn Nn ev s4 yes no
      rw [List.getElem?_map] at ev
      obtain ⟨x, ex, rfl⟩ := Option.map_eq_some_iff.mp ev
      have xin : x ∈ ns := List.mem_of_getElem? ex
      refine ⟨rfl, _, rfl, p, dx, _, rfl, s4 _ _ (sg3 _ _ hp8), rfl, _, rfl, p, a, ns, here, x, tbl, rfl, FR9.f.same s4, xin, fun G5 s5 => yes rfl G5 s5⟩
    intro G4 B1 nB1 oB1 s4
    refine ⟨_, rfl, lc_seq (.inl rfl) (s4 _ _ (sg3 _ _ oq8)) (by rw [List.length_map]; omega) (fun _ => true) (fun v => match v with | .str x => .bl (decide (x ∈ toldL ns tbl here)) | _ => .non) ?_ ?_⟩
    · rintro i v G5 Cn Nn ev s5 yes no
      rw [List.getElem?_map] at ev
      obtain ⟨x, ex, rfl⟩ := Option.map_eq_some_iff.mp ev
      refine ⟨rfl, _, rfl, _, rfl, D, _, rfl, .inl (SqL.of (s5 _ _ (s4 _ _ (sg3 _ _ oD8)))), rfl, flat_strs _, ?_⟩
      rw [inV_strs]
      exact yes rfl G5 (Same.refl _)
    intro G5 B2 nB2 oB2 s5
    rw [List.filter_eq_self.mpr (fun _ _ => rfl), List.map_map] at oB1 oB2
    refine ⟨.ref B1, .ref B2, rfl, .up (.lst (s5 _ _ oB1) oB2 (by rw [List.length_map, List.length_map]) (by rw [List.length_map]; exact shn) (fun i x y e1 e2 => ?_)), fun G6 s6 => hq G6 (s18.trans (sg3.trans (s4.trans (s5.trans s6))))⟩
    rw [List.getElem?_map] at e1 e2
    obtain ⟨u, eu, rfl⟩ := Option.map_eq_some_iff.mp e1
    rw [eu] at e2
    obtain rfl := Option.some.inj e2
    have uin : u ∈ ns := List.mem_of_getElem? eu
    have e : decide (u ∈ toldL ns tbl here) = decide (Tells ns tbl here u) := by
      unfold toldL
      by_cases k : Tells ns tbl here u
      · rw [decide_eq_true k]
        exact decide_eq_true (List.mem_filter.mpr ⟨uin, decide_eq_true k⟩)
      · rw [decide_eq_false k]
        exact decide_eq_false fun z => k (of_decide_eq_true (List.mem_filter.mp z).2)
    show Alk _ 0 (.bl (decide (Tells ns tbl here u))) (.bl (decide (u ∈ toldL ns tbl here)))
    rw [e]
    exact .bl _
end
end L2.TB
/-! the state of the law: a file, what was and what is to come -/
namespace L2.TB
open PySem PySem.Spec PyProof.Rows LM LamX
/-- all but these stays -/
def KL (S : List Addr) (H H' : Hp) : Prop := ∀ b o, b ∉ S → H b = some o → H' b = some o
theorem KL.refl (S : List Addr) (H : Hp) : KL S H H := fun _ _ _ e => e
theorem KL.trans {S : List Addr} {H H1 H2 : Hp} (a : KL S H H1) (b : KL S H1 H2) : KL S H H2 := fun c o n e => b c o n (a c o n e)
theorem KL.of {S : List Addr} {H H' : Hp} (s : Same H H') : KL S H H' := fun b o _ e => s b o e
theorem KL.upd {S : List Addr} {H : Hp} {a : Addr} {o : HO} (h : a ∈ S) : KL S H (upd H a o) := fun b u n e => (upd_ne (fun z => n (by rw [z]; exact h))).trans e
theorem KL.one {S : List Addr} {H H' : Hp} {p : Addr} (h : p ∈ S) (k : ∀ b o, b ≠ p → H b = some o → H' b = some o) : KL S H H' := fun b o n e => k b o (fun z => n (by rw [z]; exact h)) e
def TupsAt (H : Hp) : List Addr → List (List Str) → Prop := Paired fun t xs => H t = some (.tup (xs.map V.str))
theorem TupsAt.keep {H H' : Hp} {ts : List Addr} {xss : List (List Str)} (h : TupsAt H ts xss) (k : ∀ b ys, H b = some (.tup ys) → H' b = some (.tup ys)) : TupsAt H' ts xss := Paired.mapP h fun t xs e => k _ _ e
def LstAt (H : Hp) (l : Addr) (xss : List (List Str)) : Prop := ∃ ts : List Addr, H l = some (.lst (ts.map V.ref)) ∧ TupsAt H ts xss
def FilAt (H : Hp) (C p a : Addr) (before : List (List Str)) (here : List Str) (fut : List (List Str)) : Prop := ∃ (dx tn tp tu : Addr) (ts us : List Addr), H p = some (.ins C dx (fF (.ref a) (.ref tn) (.ref tp) (.ref tu))) ∧
  H tn = some (.tup (here.map V.str)) ∧ H tp = some (.tup (ts.map V.ref)) ∧ TupsAt H ts before ∧ H tu = some (.tup (us.map V.ref)) ∧ TupsAt H us fut
/-- what stays -/
structure Fix (K : PySem.W.Frag) (CT : Addr) (H0 : Hp) (l ls p pa la r a : Addr) (as : List Addr) (ns : List Str) (tbl : List (List Int)) : Prop where
  nl : H0 l = none
  nls : H0 ls = none
  np : H0 p = none
  npa : H0 pa = none
  nla : H0 la = none
  nt : ∀ b ps, H0 b ≠ some (.tbl ps)
  r : H0 r = some (.lst (as.map V.ref))
  rows : DRows H0 ns as tbl
  tab : TabAt H0 CT a ns tbl
  tne : tbl ≠ []
  nne : ns ≠ []
  ndn : ns.Nodup
  s1 : ns.length < 1000
  s2 : tbl.length < 1000
  d1 : pa ≠ la
  d2 : pa ≠ l
  d3 : pa ≠ ls
  d4 : la ≠ l
  d5 : la ≠ ls
/-- the state -/
structure S7 (T : Tau) (C : Addr) (H : Hp) (l ls p pa la a : Addr) (ns : List Str) (before : List (List Str)) (here : List Str) (fut : List (List Str)) (N : Int) (m : Nat) : Prop where
  sp : Strm H l ls N
  fil : FilAt H C p a before here fut
  past : LstAt H pa (before ++ [here])
  later : LstAt H la fut
  tab : TabT T H
  good : ∀ h ∈ before ++ here :: fut, h.Nodup ∧ ∀ x ∈ h, x ∈ ns
  len : before.length + fut.length ≤ m
abbrev fv5 (l ls p pa la : Addr) : List Addr := [l, ls, p, pa, la]
section
variable {T : Tau} {K : PySem.W.Frag} {C CT l ls p pa la r a : Addr} {H0 H H' : Hp} {as : List Addr} {ns : List Str} {tbl : List (List Int)} {before fut before' fut' : List (List Str)} {here here' : List Str} {N N' : Int} {m m' : Nat}
theorem Fix.keep (F : Fix K CT H0 l ls p pa la r a as ns tbl) (s : Same H0 H) (k : KL (fv5 l ls p pa la) H H') : Same H0 H' := fun b o e => k b o (fun z => by
  simp only [fv5, List.mem_cons, List.not_mem_nil, or_false] at z
  rcases z with z | z | z | z | z <;> rw [z] at e
  · rw [F.nl] at e; cases e
  · rw [F.nls] at e; cases e
  · rw [F.np] at e; cases e
  · rw [F.npa] at e; cases e
  · rw [F.nla] at e; cases e) (s b o e)
/-- the fv5 are lists and an object -/
theorem S7.ne (s : S7 T C H l ls p pa la a ns before here fut N m) {b : Addr} {o : HO} (e : H b = some o) (n1 : ∀ xs, o ≠ .lst xs) (n2 : ∀ C d f, o ≠ .ins C d f) : b ∉ fv5 l ls p pa la := fun z => by
  obtain ⟨cs, g, k, mm, S⟩ := s.sp
  obtain ⟨_, _, _, _, _, _, hp, _⟩ := s.fil
  obtain ⟨_, h1, _⟩ := s.past
  obtain ⟨_, h2, _⟩ := s.later
  simp only [fv5, List.mem_cons, List.not_mem_nil, or_false] at z
  rcases z with z | z | z | z | z <;> rw [z] at e
  · rw [S.o] at e; exact n1 _ (Option.some.inj e).symm
  · rw [S.c] at e; exact n1 _ (Option.some.inj e).symm
  · rw [hp] at e; exact n2 _ _ _ (Option.some.inj e).symm
  · rw [h1] at e; exact n1 _ (Option.some.inj e).symm
  · rw [h2] at e; exact n1 _ (Option.some.inj e).symm
theorem S7.there (s : S7 T C H l ls p pa la a ns before here fut N m) : ∀ b ∈ fv5 l ls p pa la, ∃ o, H b = some o := fun b z => by
  obtain ⟨cs, g, k, mm, S⟩ := s.sp
  obtain ⟨_, _, _, _, _, _, hp, _⟩ := s.fil
  obtain ⟨_, h1, _⟩ := s.past
  obtain ⟨_, h2, _⟩ := s.later
  simp only [fv5, List.mem_cons, List.not_mem_nil, or_false] at z
  rcases z with z | z | z | z | z <;> rw [z]
  · exact ⟨_, S.o⟩
  · exact ⟨_, S.c⟩
  · exact ⟨_, hp⟩
  · exact ⟨_, h1⟩
  · exact ⟨_, h2⟩
/-- what was not there is none of the fv5 -/
theorem S7.fresh (s : S7 T C H l ls p pa la a ns before here fut N m) {b : Addr} (n : H b = none) : b ∉ fv5 l ls p pa la := fun z => by
  obtain ⟨o, e⟩ := s.there b z
  rw [n] at e; cases e
theorem S7.tup (s : S7 T C H l ls p pa la a ns before here fut N m) (k : KL (fv5 l ls p pa la) H H') : ∀ b ys, H b = some (.tup ys) → H' b = some (.tup ys) := fun b ys e => k _ _ (s.ne e (fun _ z => by cases z) (fun _ _ _ z => by cases z)) e
theorem S7.lits (s : S7 T C H l ls p pa la a ns before here fut N m) (k : KL (fv5 l ls p pa la) H H') : Lits H H' := fun b o e z => by
  refine k _ _ (s.ne e (fun xs y => ?_) fun C d f y => ?_) e <;> rw [y] at z <;> rcases z with ⟨_, z⟩ | ⟨_, z⟩ <;> cases z
theorem S7.ins_ne (s : S7 T C H l ls p pa la a ns before here fut N m) {b : Addr} {xs : List V} (e : H b = some (.lst xs)) : b ≠ p := fun z => by
  obtain ⟨_, _, _, _, _, _, hp, _⟩ := s.fil
  rw [z, hp] at e; cases e
theorem S7.next (s : S7 T C H l ls p pa la a ns before here fut N m) (k : KL (fv5 l ls p pa la) H H') (sp : Strm H' l ls N') (fil : FilAt H' C p a before' here' fut') (past : LstAt H' pa (before' ++ [here'])) (later : LstAt H' la fut')
    (good : ∀ h ∈ before' ++ here' :: fut', h.Nodup ∧ ∀ x ∈ h, x ∈ ns) (len : before'.length + fut'.length ≤ m') : S7 T C H' l ls p pa la a ns before' here' fut' N' m' := ⟨sp, fil, past, later, s.tab.lits (s.lits k), good, len⟩
/-- the spring moved on, or new things were made -/
theorem S7.same (s : S7 T C H l ls p pa la a ns before here fut N m) (k : Same H H') : S7 T C H' l ls p pa la a ns before here fut N m := by
  have kk := KL.of (S := fv5 l ls p pa la) k
  have t := s.tup kk
  obtain ⟨dx, tn, tp, tu, ts, us, h1, h2, h3, h4, h5, h6⟩ := s.fil
  obtain ⟨t1, q1, q2⟩ := s.past
  obtain ⟨t2, q3, q4⟩ := s.later
  exact s.next kk (s.sp.same k) ⟨dx, tn, tp, tu, ts, us, k _ _ h1, t _ _ h2, t _ _ h3, h4.keep t, t _ _ h5, h6.keep t⟩ ⟨t1, k _ _ q1, q2.keep t⟩ ⟨t2, k _ _ q3, q4.keep t⟩ s.good s.len
theorem S7.drawn (s : S7 T C H l ls p pa la a ns before here fut N m) (F : Fix K CT H0 l ls p pa la r a as ns tbl) (B : But l ls H H') (sp : Strm H' l ls N') : S7 T C H' l ls p pa la a ns before here fut N' m := by
  have kk : KL (fv5 l ls p pa la) H H' := fun b o n e => B b o (fun z => n (by simp [fv5, z])) (fun z => n (by simp [fv5, z])) e
  have t := s.tup kk
  obtain ⟨cs, g, k, mm, S⟩ := s.sp
  obtain ⟨dx, tn, tp, tu, ts, us, h1, h2, h3, h4, h5, h6⟩ := s.fil
  obtain ⟨t1, q1, q2⟩ := s.past
  obtain ⟨t2, q3, q4⟩ := s.later
  have np1 : p ≠ l := fun z => by rw [z, S.o] at h1; cases h1
  have np2 : p ≠ ls := fun z => by rw [z, S.c] at h1; cases h1
  exact s.next kk sp ⟨dx, tn, tp, tu, ts, us, B _ _ np1 np2 h1, t _ _ h2, t _ _ h3, h4.keep t, t _ _ h5, h6.keep t⟩ ⟨t1, B _ _ F.d2 F.d3 q1, q2.keep t⟩ ⟨t2, B _ _ F.d4 F.d5 q3, q4.keep t⟩ s.good s.len
theorem S7.ftab (s : S7 T C H l ls p pa la a ns before here fut N m) (F : Fix K CT H0 l ls p pa la r a as ns tbl) (k : Same H0 H) : FTab K H C CT p a ns here tbl := by
  obtain ⟨dx, tn, tp, tu, ts, us, h1, h2, _⟩ := s.fil
  have g := s.good here (by simp)
  exact ⟨⟨dx, tn, _, _, h1, h2⟩, F.tab.same k, g.1, g.2, F.s1, F.s2, F.ndn⟩
theorem S7.frow (s : S7 T C H l ls p pa la a ns before here fut N m) (F : Fix K CT H0 l ls p pa la r a as ns tbl) (k : Same H0 H) : FRow K H C CT p a r as ns here tbl := ⟨s.ftab F k, k _ _ F.r, F.rows.same k, F.tne⟩
end
theorem tups_snoc {H : Hp} {ts : List Addr} {xss : List (List Str)} {t : Addr} {x : List Str} (h : TupsAt H ts xss) (e : H t = some (.tup (x.map V.str))) : TupsAt H (ts ++ [t]) (xss ++ [x]) := paired_snoc (F := fun (t : Addr) (xs : List Str) => H t = some (.tup (xs.map V.str))) e h
theorem paired_unsnoc {α β : Type} {R : α → β → Prop} : ∀ {ys : List β} {xs : List α} {y : β}, Paired R xs (ys ++ [y]) → ∃ xs0 x, xs = xs0 ++ [x] ∧ Paired R xs0 ys ∧ R x y
  | [], _, _, .cons a .nil => ⟨[], _, rfl, .nil, a⟩
  | _ :: ys, _, _, .cons a b => by
    obtain ⟨xs0, x, rfl, h1, h2⟩ := paired_unsnoc (ys := ys) b
    exact ⟨_ :: xs0, x, rfl, .cons a h1, h2⟩
section
variable {X : Cx} {C CT CQ CK CN c : Addr} {k : Nat} {q : Str} {params : Arguments} {body : Expr} {scope : Scope} {t : Addr → Addr → XK → TE} {p lpos pos : Pos}
theorem pe_tr (L : LwF X.prog X.w X.K X.mg X.base C CT CQ CK CN) (hg : Gl X "_law_tried") (hcode : X.env.code = .ref c) (hq : X.env.qual ++ "<lambda>" = q) (hr : Room (k + 2) X.A) (S : LamP X.env.scope scope []) (hdef : defaultsOf params X.env = ([], []))
    (hbind : ∀ (cl : List (Str × Addr)) (c : Addr) (pm ctv : Value), bindArgs (PySem.W.kla_fn "<lambda>" q params body scope cl pm (.ref c) ctv) ⟨[], []⟩ = pure [])
    (hbody : ∀ (A : Around) (outer : List Env) (s : Shared) (H : Hp) (E : XK) (f c' P2 : Addr), Room k (A.deeper (lamEnvQ X q scope s.heap.objs.size f c')) → PE (lamCxP X (L2.CX X.prog X.w) A outer s H E scope f c' q []) body (t c' P2 E)) :
    PE X (.Call (.Name "_law_tried" p) [.Lambda params body scope lpos] [] pos) (tLam0 X.base c q (TTr (clz3 ⟨CQ, CK, CN⟩)) t) := by
  obtain ⟨g, fd, gT, FT⟩ := L.tried
  have bT := FT.binds (ps := ["ask"]) fun _ _ _ _ _ _ us hl => match us, hl with | [_], _ => rfl
  have kp := FT.kp
  obtain ⟨oc, od, kV, doc, pm, an, cdv, ct, osl, rfl, lk, hcd⟩ := FT.ex
  exact pe_lam0 (Ng := NTd) (a := "ask") hg gT kp lk hcd bT scTd rfl (.inl rfl) (tried_gives L.O) hcode L.bi hq hr S hdef hbind hbody
end
theorem tups_unsnoc {H : Hp} {ts : List Addr} {xss : List (List Str)} {x : List Str} (h : TupsAt H ts (xss ++ [x])) : ∃ ts0 t, ts = ts0 ++ [t] ∧ TupsAt H ts0 xss ∧ H t = some (.tup (x.map V.str)) := paired_unsnoc h
/-- what _law_tried makes of an error -/
theorem tried_fly {CQ CK CN : Addr} {c : Clz} {v : V} {H1 : Hp} {E : XK} {Q : VK} (hc : c ∈ clz3 ⟨CQ, CK, CN⟩) (hE : ∀ cls d H', EchT (clz3 ⟨CQ, CK, CN⟩) Q cls d H' → E cls d H') (h : ∀ H' t, Same H1 H' → H' t = some (.tup [.str c.tag, v]) → Q (.ref t) H') : Flies c.C c.fld v H1 E := fun d H' s nd hd =>
  hE _ _ _ (.inl ⟨c, d, _, v, hc, rfl, rfl, hd, by simp [List.lookup], fun t nt => h _ t (s.trans (same_new nt)) upd_same⟩)
end L2.TB
/-! _law_deed -/
namespace L2.TB
open PySem PySem.Spec PyProof.Rows LM LamX
abbrev ND : List Str := ["stream", "file", "rows", "past", "later", "names", "here", "turn_of", "name", "due", "there", "one"]
theorem scDeed : FnScope ND ["stream", "file", "rows", "past", "later"] (defScope sDeed) := ⟨rfl, rfl, rfl, by decide +kernel, rfl, by decide +kernel, by decide +kernel⟩
def spDeed (K : PySem.W.Frag) (T : Tau) (C CT : Addr) : Sp := fun vs H Q _ => ∃ (H0 : Hp) (l ls p pa la r a : Addr) (as : List Addr) (ns : List Str) (tbl : List (List Int)) (before : List (List Str)) (here : List Str) (fut : List (List Str)) (N : Int) (m : Nat),
  vs = [.ref l, .ref p, .ref r, .ref pa, .ref la] ∧ Fix K CT H0 l ls p pa la r a as ns tbl ∧ Same H0 H ∧ S7 T C H l ls p pa la a ns before here fut N m ∧ N ≤ 800000 ∧ m < 500 ∧
  ∀ H' before' here' fut', Same H0 H' → S7 T C H' l ls p pa la a ns before' here' fut' (N + 2) (m + 1) → Q (.bl true) H'
theorem ExtN.tups {H H' : Hp} {ts : List Addr} {xss : List (List Str)} (h : TupsAt H ts xss) (e : ExtN H H') : TupsAt H' ts xss := h.keep fun b ys z => e _ _ z (fun _ y => by cases y)
theorem S7.ext {T : Tau} {C l ls p pa la a : Addr} {H H' : Hp} {ns : List Str} {before fut : List (List Str)} {here : List Str} {N : Int} {m : Nat} (s : S7 T C H l ls p pa la a ns before here fut N m) (e : ExtN H H') (tb : TabT T H') : S7 T C H' l ls p pa la a ns before here fut N m := by
  obtain ⟨cs, g, k, mm, Z⟩ := s.sp
  obtain ⟨dx, tn, tp, tu, ts, us, h1, h2, h3, h4, h5, h6⟩ := s.fil
  obtain ⟨t1, q1, q2⟩ := s.past
  obtain ⟨t2, q3, q4⟩ := s.later
  have ke : ∀ {b : Addr} {o : HO}, H b = some o → (∀ ps, o ≠ .tbl ps) → H' b = some o := fun z n => e _ _ z n
  exact ⟨⟨cs, g, k, mm, ke Z.o (fun _ y => by cases y), ke Z.c (fun _ y => by cases y), Z.ne, Z.g0, Z.k0, Z.k1, Z.m0, Z.m1, Z.sz⟩,
    ⟨dx, tn, tp, tu, ts, us, ke h1 (fun _ y => by cases y), ke h2 (fun _ y => by cases y), ke h3 (fun _ y => by cases y), ExtN.tups h4 e, ke h5 (fun _ y => by cases y), ExtN.tups h6 e⟩,
    ⟨t1, ke q1 (fun _ y => by cases y), ExtN.tups q2 e⟩, ⟨t2, ke q3 (fun _ y => by cases y), ExtN.tups q4 e⟩, tb, s.good, s.len⟩
theorem Fix.ext {K : PySem.W.Frag} {CT l ls p pa la r a : Addr} {H0 H H' : Hp} {as : List Addr} {ns : List Str} {tbl : List (List Int)} (F : Fix K CT H0 l ls p pa la r a as ns tbl) (s : Same H0 H) (e : ExtN H H') : Same H0 H' := fun b o z => e _ _ (s _ _ z) (fun ps y => F.nt b ps (y ▸ z))
/-- a new deed -/
theorem S7.push {T : Tau} {K : PySem.W.Frag} {C CT l ls p pa la r a dx tn tp th' : Addr} {tu : V} {H0 H H6 H7 : Hp} {as : List Addr} {ns : List Str} {tbl : List (List Int)} {before fut : List (List Str)} {here here' : List Str} {N : Int} {m : Nat} {ts : List Addr} (S : S7 T C H l ls p pa la a ns before here fut N m) (F : Fix K CT H0 l ls p pa la r a as ns tbl)
    (D : Did C p dx a tn (ts.map V.ref) here' H H6) (hp : H p = some (.ins C dx (fF (.ref a) (.ref tn) (.ref tp) tu))) (hn : H tn = some (.tup (here.map V.str))) (hts : TupsAt H ts before) (s : Same H6 H7) (oth : H7 th' = some (.tup (here'.map V.str))) (good : here'.Nodup ∧ ∀ x ∈ here', x ∈ ns) :
    ∃ xs ys : List V, H7 pa = some (.lst xs) ∧ H7 la = some (.lst ys) ∧ xs.length = before.length + 1 ∧ ∀ H8, Same H7 H8 → KL (fv5 l ls p pa la) H (upd (upd H8 pa (.lst (xs ++ [.ref th']))) la (.lst [])) ∧ S7 T C (upd (upd H8 pa (.lst (xs ++ [.ref th']))) la (.lst [])) l ls p pa la a ns (before ++ [here]) here' [] N (m + 1) := by
  obtain ⟨t0, t1, t2, e0, o0, o1, o2, kp⟩ := D
  obtain ⟨pts, opa, hpt⟩ := S.past
  obtain ⟨lts, ola, hlt⟩ := S.later
  have lpt : pts.length = before.length + 1 := by
    have z := Paired.length hpt
    rw [z, List.length_append]; rfl
  have ne1 : pa ≠ p := S.ins_ne opa
  have ne2 : la ≠ p := S.ins_ne ola
  have opa7 := s _ _ (kp _ _ ne1 opa)
  have ola7 := s _ _ (kp _ _ ne2 ola)
  refine ⟨_, _, opa7, ola7, by rw [List.length_map, lpt], fun H8 s8 => ?_⟩
  have s68 := s.trans s8
  have k8 : KL (fv5 l ls p pa la) H (upd (upd H8 pa (.lst (pts.map V.ref ++ [.ref th']))) la (.lst [])) := (((KL.one (by simp [fv5]) kp).trans (.of s68)).trans (.upd (by simp [fv5]))).trans (.upd (by simp [fv5]))
  refine ⟨k8, ?_⟩
  have tup := S.tup k8
  have fx : ∀ b o, b ≠ pa → b ≠ la → H8 b = some o → upd (upd H8 pa (.lst (pts.map V.ref ++ [.ref th']))) la (.lst []) b = some o := fun b o h1 h2 e => by
    rw [upd_ne h2, upd_ne h1]
    exact e
  have npa : ∀ {b : Addr} {o : HO}, H6 b = some o → (∀ xs, o ≠ .lst xs) → b ≠ pa ∧ b ≠ la := fun {b o} e n => ⟨fun z => by
    rw [z, kp _ _ ne1 opa] at e
    exact n _ (Option.some.inj e).symm, fun z => by
    rw [z, kp _ _ ne2 ola] at e
    exact n _ (Option.some.inj e).symm⟩
  have tk : ∀ {b : Addr} {ys : List V}, H6 b = some (.tup ys) → upd (upd H8 pa (.lst (pts.map V.ref ++ [.ref th']))) la (.lst []) b = some (.tup ys) := fun {b ys} e => fx _ _ (npa e (fun _ y => by cases y)).1 (npa e (fun _ y => by cases y)).2 (s68 _ _ e)
  have oth8 : upd (upd H8 pa (.lst (pts.map V.ref ++ [.ref th']))) la (.lst []) th' = some (.tup (here'.map V.str)) := fx _ _ (fun z => by rw [z, opa7] at oth; cases oth) (fun z => by rw [z, ola7] at oth; cases oth) (s8 _ _ oth)
  refine S.next k8 ?_ ?_ ?_ ?_ ?_ ?_
  · obtain ⟨cs, g, kk, mm, Z⟩ := S.sp
    have lp1 : l ≠ p := fun z => by have y := Z.o; rw [z, hp] at y; cases y
    have lp2 : ls ≠ p := fun z => by have y := Z.c; rw [z, hp] at y; cases y
    exact ⟨cs, g, kk, mm, fx _ _ F.d2.symm F.d4.symm (s68 _ _ (kp _ _ lp1 Z.o)), fx _ _ F.d3.symm F.d5.symm (s68 _ _ (kp _ _ lp2 Z.c)), Z.ne, Z.g0, Z.k0, Z.k1, Z.m0, Z.m1, Z.sz⟩
  · refine ⟨dx, t0, t1, t2, ts ++ [tn], [], fx _ _ ne1.symm ne2.symm (s68 _ _ e0), tk o0, ?_, tups_snoc (hts.keep tup) (tup _ _ hn), tk o2, .nil⟩
    rw [List.map_append]
    exact tk o1
  · refine ⟨pts ++ [th'], ?_, tups_snoc (hpt.keep tup) oth8⟩
    rw [upd_ne F.d1, upd_same, List.map_append]
    rfl
  · exact ⟨[], upd_same, .nil⟩
  · intro h hh
    simp only [List.mem_append, List.mem_cons, List.not_mem_nil, or_false] at hh
    rcases hh with (hh | hh) | hh
    · exact S.good h (by simp [hh])
    · exact S.good h (by simp [hh])
    · rw [hh]; exact good
  · have z := S.len
    rw [List.length_append]
    show before.length + 1 + 0 ≤ m + 1
    omega
theorem mem_last {α : Type} (xs : List α) (x : α) : (xs ++ [x])[(xs ++ [x]).length - 1]? = some x := by simp
theorem atI_neg (xs : List V) (x : V) : atI (xs ++ [x]) (-1) = some x := atI_last xs x
section
variable {P : Program} {w : World} {K : PySem.W.Frag} {mg : Str → Option Value} {base : Heap} {f C CT CQ CK CN c Pd : Addr} {fd : FuncData} {T : Tau}
theorem ok_deed (FD : Fun K "_law_deed" "_law_deed" sDeed f fd) (hcd0 : fd.code = .ref c) (L : LwF P w K mg base C CT CQ CK CN) (CH : PySem.W.CodeHd base c Pd) (hT : (Pd, [("_law_deed.<locals>.<lambda>" : Str)]) ∈ T) : FnOk P w K mg base CX0 10 f fd ["stream", "file", "rows", "past", "later"] (spDeed K T C CT) := by
  obtain ⟨fU, fdU, FU, mU, GU⟩ := L.undo
  have bU := FU.binds (ps := NUn) fun _ _ _ _ _ _ us hl => match us, hl with | [_], _ => rfl
  obtain ⟨fG, fdG, FG, mG, GG⟩ := L.again
  have bG := FG.binds (ps := NUn) fun _ _ _ _ _ _ us hl => match us, hl with | [_], _ => rfl
  obtain ⟨fL, fdL, FL, mL, GL⟩ := L.learn
  have bL := FL.binds (ps := ["self", "name"]) fun _ _ _ _ _ _ us hl => match us, hl with | [_, _], _ => rfl
  obtain ⟨fF, fdF, FF, mF, GF⟩ := L.forget
  have bF := FF.binds (ps := ["self", "name"]) fun _ _ _ _ _ _ us hl => match us, hl with | [_, _], _ => rfl
  obtain ⟨fE, fdE, gE, FE, GE⟩ := L.same
  have bE := FE.binds (ps := ["found", "due"]) fun _ _ _ _ _ _ us hl => match us, hl with | [_, _], _ => rfl
  obtain ⟨fR, fdR, gR, FR, GR⟩ := L.draw
  have bR := FR.binds (ps := ["stream", "many"]) fun _ _ _ _ _ _ us hl => match us, hl with | [_, _], _ => rfl
  obtain ⟨fK, fdK, gK, FK, GK⟩ := L.pick
  have bK := FK.binds (ps := ["stream", "some"]) fun _ _ _ _ _ _ us hl => match us, hl with | [_, _], _ => rfl
  obtain ⟨oc, od, kV, doc, pm, an, cdv, ct, osl, rfl, lk, hcd⟩ := FD.ex
  obtain rfl : cdv = .ref c := hcd0
  refine fn_of lk hcd scDeed (fun vs H Q E h => by obtain ⟨_, _, _, _, _, _, _, _, _, _, _, _, _, _, _, _, e, _⟩ := h; rw [e]; rfl) fun A outer s H vs Q E hr hsp => ?_
  obtain ⟨H0, l, ls, p, pa, la, r, a, as, ns, tbl, before, here, fut, N, m, rfl, F, k0, S, hN, hm, hq⟩ := hsp
  have nd := scDeed.nd
  let X := (cxOf CX0 P w K mg base ND "_law_deed" (defScope sDeed) f (.ref c) A outer s H E).nox
  have hu : X.A.units < cLine := by
    have z : X.A.units + 64 < cLine := hr.units
    omega
  obtain ⟨tl, ptl, hk, hp⟩ : ∃ tl, PSs X ((defBody sDeed).drop 5) tl ∧
      (∀ (σ : L2.St) (H1 : Hp) (du : Addr) (tag x : Str), σ[9]? = some (some (.ref du)) → H1 du = some (.tup [.str tag, .str x]) → tag ≠ "told" → (∀ H2, Same H1 H2 → Q (.bl true) H2) → tl { nx := fun _ H' => Q .non H', rt := Q } σ H1) ∧
      (∀ (σ : L2.St) (H1 : Hp) (du th : Addr) (xs ys : List V), σ[9]? = some (some (.ref du)) → σ[3]? = some (some (.ref pa)) → σ[4]? = some (some (.ref la)) → σ[10]? = some (some (.ref th)) → H1 du = some (.tup [.str "told", .non]) → H1 pa = some (.lst xs) → H1 la = some (.lst ys) → xs.length < 2000 →
        (∀ H2, Same H1 H2 → Q (.bl true) (upd (upd H2 pa (.lst (xs ++ [.ref th]))) la (.lst []))) → tl { nx := fun _ H' => Q .non H', rt := Q } σ H1) := by
    refine ⟨_, pss_cons (ps_if (pt_cmpR (op_eqT hu) (pv 9) (pe_tup (pa_cons pe_str (pa_cons pe_non pa_nil))) (nomark _))
        (pss_cons (ps_expr (pe_bm PySem.F.plainAttrs_list PySem.F.slot_list_append PySem.F.type_list_append mt_append (pv 3) (pa_cons (pv 10) pa_nil)))
        (pss_one (ps_expr (pe_bm0 PySem.F.plainAttrs_list PySem.F.slot_list_clear PySem.F.type_list_clear mt_clear (pv 4))))) pss_nil) (pss_one (ps_ret pe_bl)), ?_, ?_⟩
    · intro σ H1 du tag x h9 od nt go
      refine ⟨_, h9, (by show 2 ≤ sizeLine; decide), fun t nt' => ?_⟩
      have st := same_new (o := .tup [.str "told", .non]) nt'
      refine ⟨du, t, _, _, _, _, _, _, rfl, rfl, SqT.of (st _ _ od), SqT.of upd_same, .str tag "told", .strnon x, _, rfl, ?_⟩
      rw [decide_eq_false nt]
      exact iteF (go _ st)
    · intro σ H1 du th xs ys h9 h3 h4 h10 od op ol sz go
      refine ⟨_, h9, (by show 2 ≤ sizeLine; decide), fun t nt' => ?_⟩
      have st := same_new (o := .tup [.str "told", .non]) nt'
      refine ⟨du, t, _, _, _, _, _, _, rfl, rfl, SqT.of (st _ _ od), SqT.of upd_same, .str "told" "told", .same rfl, _, rfl, ?_⟩
      rw [decide_eq_true rfl]
      refine iteT ?_
      refine ⟨_, h3, .inl ⟨rfl, _, SqL.of (st _ _ op)⟩, _, h10, pa, xs, .ref th, rfl, rfl, st _ _ op, by rw [sizeLine_eq]; omega, ?_⟩
      have ol2 : upd (upd H1 t (.tup [.str "told", .non])) pa (.lst (xs ++ [.ref th])) la = some (.lst ys) := by
        rw [upd_ne F.d1.symm]
        exact st _ _ ol
      refine ⟨_, h4, .inl ⟨rfl, _, SqL.of ol2⟩, la, ys, rfl, rfl, ol2, ?_⟩
      exact go _ st
  refine (fun ⟨t, h1, h2⟩ => ⟨t, h1.nox, h2⟩ : (∃ t, PSs X (defBody sDeed) t ∧ t { nx := fun _ H' => Q .non H', rt := Q } (start ND [.ref l, .ref p, .ref r, .ref pa, .ref la]) H) → _) ?_
  refine ⟨_, pss_cons (ps_par3 (i := 5) (j := 6) (l := 7) rfl nd rfl rfl rfl (by decide) (by decide) (by decide) rfl rfl rfl (pa_cons (pe_callTy (call_listD rfl) rfl L.M.nL boot_list' (pa_cons (pe_ix ix_list (pv 2) pe_int (fun _ _ => rfl)) pa_nil))
      (pa_cons (pe_ix (r := rIxL K) ix_list (pv 3) (pe_un un_neg pe_int) (fun _ _ => rfl)) (pa_cons (pe_call GR (hr.mono (by decide)) rfl gR FR.kp bR .nil pass0 (pa_cons (pv 0) (pa_cons pe_int pa_nil))) pa_nil))) rfl)
    (pss_cons (ps_if (pt_cmpR op_eq (pv 7) pe_int (nomark _))
      (pss_cons (ps_if (pt_not (pt_val (pe_call GE (hr.mono (by decide)) rfl gE FE.kp bE .nil pass0 (pa_cons (pe_meth0 (pv 1) L.T.cl mU GU (hr.mono (by decide)) bU .nil pass0) (pa_cons (pe_cmpR op_gt (pe_callB call_len_seq rfl L.M.nN boot_len (pa_cons (pv 3) pa_nil)) pe_int (nomark _)) pa_nil))))) (pss_one ps_never) pss_nil)
      (pss_cons (ps_if (pt_cmpR op_gt (pe_callB call_len_seq rfl L.M.nN boot_len (pa_cons (pv 3) pa_nil)) pe_int (nomark _))
        (pss_one (ps_expr (pe_bm PySem.F.plainAttrs_list PySem.F.slot_list_append PySem.F.type_list_append mt_append (pv 4) (pa_cons (pe_bm0 PySem.F.plainAttrs_list PySem.F.slot_list_pop PySem.F.type_list_pop mt_pop (pv 3)) pa_nil)))) pss_nil)
      (pss_one (ps_ret pe_bl)))) pss_nil)
    (pss_cons (ps_if (pt_cmpR op_eq (pv 7) pe_int (nomark _))
      (pss_cons (ps_if (pt_not (pt_val (pe_call GE (hr.mono (by decide)) rfl gE FE.kp bE .nil pass0 (pa_cons (pe_meth0 (pv 1) L.T.cl mG GG (hr.mono (by decide)) bG .nil pass0) (pa_cons (pe_cmpR (op_neE hu) (pv 4) (pe_lst pa_nil) (nomark _)) pa_nil))))) (pss_one ps_never) pss_nil)
      (pss_cons (ps_if (pt_cmpR (op_neE hu) (pv 4) (pe_lst pa_nil) (nomark _))
        (pss_one (ps_expr (pe_bm PySem.F.plainAttrs_list PySem.F.slot_list_append PySem.F.type_list_append mt_append (pv 3) (pa_cons (pe_bm0 PySem.F.plainAttrs_list PySem.F.slot_list_pop PySem.F.type_list_pop mt_pop (pv 4)) pa_nil)))) pss_nil)
      (pss_one (ps_ret pe_bl)))) pss_nil)
    (pss_cons (ps_set (i := 8) nd rfl (Or.inr rfl) (pe_call GK (hr.mono (by decide)) rfl gK FK.kp bK .nil pass0 (pa_cons (pv 0) (pa_cons (pv 5) pa_nil))))
    (pss_cons (ps_if (pt_cmpR op_lt (pv 7) pe_int (nomark _))
      (pss_cons (ps_set (i := 9) nd rfl (Or.inl rfl) (pe_ifExp (pt_cmpR op_in_seq (pv 8) (pv 6) rfl) (pe_tup (pa_cons pe_str (pa_cons (pv 8) pa_nil))) (pe_tup (pa_cons pe_str (pa_cons pe_non pa_nil)))))
      (pss_cons (ps_if (pt_cmpR (op_neT hu) (pe_tr (k := 4) L rfl rfl rfl (hr.mono (by decide)) (lamP_by (sc := defScope sDeed) (by decide +kernel)) rfl (fun _ _ _ _ => rfl) (fun A outer s H E f' c' P2 hr2 => pe_meth (pv 1) L.T.cl mL (fnN GL) hr2 bL .nil (passes (takes_of rfl rfl rfl rfl)) (pa_cons (pv 8) pa_nil))) (pv 9) (nomark _)) (pss_one ps_never) pss_nil)
      (pss_one (ps_set (i := 10) nd rfl (Or.inl rfl) (pe_ifExp (pt_cmpR op_in_seq (pv 8) (pv 6) rfl) (pv 6) (pe_op op_catA (pv 6) (pe_tup (pa_cons (pv 8) pa_nil))))))))
      (pss_cons (ps_set (i := 9) nd rfl (Or.inl rfl) (pe_ifExp (pt_cmpR op_in_seq (pv 8) (pv 6) rfl) (pe_tup (pa_cons pe_str (pa_cons pe_non pa_nil))) (pe_tup (pa_cons pe_str (pa_cons (pv 8) pa_nil)))))
      (pss_cons (ps_if (pt_cmpR (op_neT hu) (pe_tr (k := 4) L rfl rfl rfl (hr.mono (by decide)) (lamP_by (sc := defScope sDeed) (by decide +kernel)) rfl (fun _ _ _ _ => rfl) (fun A outer s H E f' c' P2 hr2 => pe_meth (pv 1) L.T.cl mF (fnN GF) hr2 bF .nil (passes (takes_of rfl rfl rfl rfl)) (pa_cons (pv 8) pa_nil))) (pv 9) (nomark _)) (pss_one ps_never) pss_nil)
      (pss_one (ps_set (i := 10) nd rfl (Or.inl rfl) (pe_callTy (r := rTupOf K) call_tuple_of rfl L.M.nT boot_tuple' (pa_cons (pe_lc (own := [("one", 11)]) (te := tVar 11) rfl nd (pi_seq (pv 6)) (blkOk_by (N := ND) (sc := defScope sDeed) (by decide +kernel)) (fun _ _ _ _ _ => pg_name (i := 11) nd rfl (Or.inl rfl))
        (fun _ _ _ _ _ => pts_one (pt_cmpR op_ne (pv 11) (pv 8) (nomark _))) (fun _ _ _ _ _ => pv 11)) pa_nil)))))))
    ptl)))), ?_⟩
  obtain ⟨a0, vs0, at0, oa0, ek⟩ := first_keys (F.rows.same k0) F.tne
  obtain ⟨pts, opa, hpt⟩ := S.past
  obtain ⟨pts0, th, rfl, hpt0, oth⟩ := tups_unsnoc hpt
  obtain ⟨lts, ola, hlt⟩ := S.later
  have lpt : pts0.length = before.length := Paired.length hpt0
  have llt : lts.length = fut.length := Paired.length hlt
  have hlen := S.len
  rw [List.map_append] at opa
  have opa : H pa = some (.lst (pts0.map V.ref ++ [V.ref th])) := opa
  refine ⟨_, rfl, _, _, _, _, rfl, rfl, SqL.of (k0 _ _ F.r), at0, a0, _, rfl, .inl oa0, fun q nq => ?_⟩
  rw [ek]
  have sq := same_new (o := .lst (ns.map V.str)) nq
  have oq : upd H q (.lst (ns.map V.str)) q = some (.lst (ns.map V.str)) := upd_same
  have qf : q ∉ fv5 l ls p pa la := S.fresh nq
  generalize upd H q (.lst (ns.map V.str)) = H1 at sq oq
  have S1 := S.same sq
  refine ⟨_, rfl, 1, rfl, pa, _, -1, _, rfl, rfl, SqL.of (sq _ _ opa), atI_neg _ _, ?_⟩
  refine ⟨_, rfl, l, ls, 8, N, rfl, S1.sp, by omega, by decide, by decide, fun H2 d d0 d1 sp2 B2 => ⟨_, _, _, rfl, ?_⟩⟩
  have S2 := S1.drawn F B2 sp2
  have k12 : KL (fv5 l ls p pa la) H1 H2 := fun b o n e => B2 b o (fun z => n (by simp [fv5, z])) (fun z => n (by simp [fv5, z])) e
  have k2 : Same H0 H2 := F.keep (k0.trans sq) k12
  have oq2 := k12 _ _ qf oq
  have oth2 := S1.tup k12 _ _ (sq _ _ oth)
  have opa2 := B2 _ _ F.d2 F.d3 (sq _ _ opa)
  have ola2 := B2 _ _ F.d4 F.d5 (sq _ _ ola)
  have hpt2 : TupsAt H2 pts0 before := TupsAt.keep (H := H) hpt0 fun b ys e => S1.tup k12 _ _ (sq _ _ e)
  have hlt2 : TupsAt H2 lts fut := hlt.keep fun b ys e => S1.tup k12 _ _ (sq _ _ e)
  obtain ⟨dx, tn, tp, tu, ts, us, hp2, hn2, ht2, hts, hu2, hus⟩ := id S2.fil
  have lts' : ts.length = before.length := Paired.length hts
  have lus : us.length = fut.length := Paired.length hus
  clear opa ola hpt hpt0 oth hlt oq sq S S1
  have ne1 : pa ≠ p := S2.ins_ne opa2
  have ne2 : la ≠ p := S2.ins_ne ola2
  refine ⟨_, rfl, rfl, _, rfl, ?_⟩
  rw [dec_int2]
  by_cases e0 : d = 0
  · rw [decide_eq_true e0]
    refine iteT ?_
    refine ⟨_, rfl, p, dx, _, rfl, hp2, rfl, p, dx, tp, tu, _, _, _, _, rfl, hp2, ht2, hu2, by rw [List.length_map]; omega, fun en => ?_, fun qs v eqs H3 t1 t2 n1 n2 e1 e2 e3 kp => ?_⟩
    · have eb : before = [] := by
        cases ts with
        | nil => exact List.eq_nil_of_length_eq_zero (by rw [← lts']; rfl)
        | cons _ _ => cases en
      subst eb
      have ep : pts0 = [] := List.eq_nil_of_length_eq_zero lpt
      subst ep
      refine ⟨_, rfl, pa, _, rfl, .inl (SqL.of opa2), _, _, rfl, rfl, .bl false, _, rfl, ?_, fun H3 s3 => ⟨_, rfl, iteF ?_⟩⟩
      · show Alk _ 2 (.bl false) (.bl (decide ((1 : Int) < (([].map V.ref ++ [V.ref th] : List V).length : Int))))
        rw [show decide ((1 : Int) < (([].map V.ref ++ [V.ref th] : List V).length : Int)) = false from rfl]
        exact .up (.up (.bl _))
      refine ⟨_, rfl, pa, _, rfl, .inl (SqL.of (s3 _ _ opa2)), _, _, rfl, rfl, _, rfl, ?_⟩
      refine iteF (hq H3 [] here fut (k2.trans s3) ?_)
      have z := S2.same s3
      exact ⟨z.sp.mono (by omega), z.fil, z.past, z.later, z.tab, z.good, by have := z.len; omega⟩
    · obtain ⟨ts0, t0, rfl⟩ : ∃ ts0 t0, ts = ts0 ++ [t0] := by
        rcases List.eq_nil_or_concat ts with z | ⟨ts0, t0, z⟩
        · rw [z] at eqs; simp at eqs
        · exact ⟨ts0, t0, by rw [z, List.concat_eq_append]⟩
      rw [List.map_append] at eqs
      obtain ⟨rfl, ev⟩ := List.append_inj' eqs rfl
      obtain rfl : V.ref t0 = v := (List.cons.inj ev).1
      obtain ⟨b0, x, rfl⟩ : ∃ b0 x, before = b0 ++ [x] := by
        rcases List.eq_nil_or_concat before with z | ⟨b0, x, z⟩
        · rw [z] at lts'; simp at lts'
        · exact ⟨b0, x, by rw [z, List.concat_eq_append]⟩
      obtain ⟨ts1, t1', et, hts0, ht0⟩ := tups_unsnoc hts
      obtain ⟨rfl, et2⟩ := List.append_inj' et rfl
      obtain rfl : t0 = t1' := (List.cons.inj et2).1
      have k23 : KL (fv5 l ls p pa la) H2 H3 := KL.one (by simp [fv5]) kp
      have opa3 := kp _ _ ne1 opa2
      have ola3 := kp _ _ ne2 ola2
      have lp : (pts0.map V.ref ++ [V.ref th]).length = pts0.length + 1 := by simp
      have big : decide ((1 : Int) < ((pts0.map V.ref ++ [V.ref th] : List V).length : Int)) = true := by
        rw [lp, lpt, List.length_append]
        exact decide_eq_true (by simp; omega)
      refine ⟨_, rfl, pa, _, rfl, .inl (SqL.of opa3), _, _, rfl, rfl, .bl true, _, rfl, ?_, fun H4 s4 => ⟨_, rfl, iteF ?_⟩⟩
      · show Alk _ 2 (.bl true) (.bl (decide ((1 : Int) < ((pts0.map V.ref ++ [V.ref th] : List V).length : Int))))
        rw [big]
        exact .up (.up (.bl _))
      refine ⟨_, rfl, pa, _, rfl, .inl (SqL.of (s4 _ _ opa3)), _, _, rfl, rfl, _, rfl, ?_⟩
      show ite (decide ((1 : Int) < ((pts0.map V.ref ++ [V.ref th] : List V).length : Int)) = true) _ _
      rw [big]
      refine iteT ?_
      have opa4 := s4 _ _ opa3
      have ola4 : upd H4 pa (.lst (pts0.map V.ref)) la = some (.lst (lts.map V.ref)) := by
        rw [upd_ne F.d1.symm]
        exact s4 _ _ ola3
      refine ⟨_, rfl, .inl ⟨rfl, _, SqL.of (s4 _ _ ola3)⟩, _, rfl, .inl ⟨rfl, _, SqL.of opa4⟩, pa, _, .ref th, rfl, rfl, opa4, mem_last _ _, ?_⟩
      rw [List.dropLast_concat]
      refine ⟨la, _, .ref th, rfl, rfl, ola4, by rw [List.length_map, sizeLine_eq]; simp at hlen; omega, ?_⟩
      have k4 : KL (fv5 l ls p pa la) H2 (upd (upd H4 pa (.lst (pts0.map V.ref))) la (.lst (lts.map V.ref ++ [V.ref th]))) := ((k23.trans (.of s4)).trans (.upd (by simp [fv5]))).trans (.upd (by simp [fv5]))
      have tup4 := S2.tup k4
      have fx : ∀ b o, b ≠ pa → b ≠ la → H4 b = some o → upd (upd H4 pa (.lst (pts0.map V.ref))) la (.lst (lts.map V.ref ++ [V.ref th])) b = some o := fun b o h1 h2 e => by
        rw [upd_ne h2, upd_ne h1]
        exact e
      have np1 : p ≠ pa := ne1.symm
      have np2 : p ≠ la := ne2.symm
      have t1n : t1 ≠ pa ∧ t1 ≠ la := ⟨fun z => (by rw [z, opa2] at n1; cases n1), fun z => (by rw [z, ola2] at n1; cases n1)⟩
      have t2n : t2 ≠ pa ∧ t2 ≠ la := ⟨fun z => (by rw [z, opa2] at n2; cases n2), fun z => (by rw [z, ola2] at n2; cases n2)⟩
      refine hq _ b0 x (fut ++ [here]) (F.keep k2 k4) (S2.next k4 ?_ ?_ ?_ ?_ ?_ ?_)
      · obtain ⟨cs, g, kk, mm, Z⟩ := S2.sp
        have lp1 : l ≠ p := fun z => by have y := Z.o; rw [z, hp2] at y; cases y
        have lp2 : ls ≠ p := fun z => by have y := Z.c; rw [z, hp2] at y; cases y
        exact ⟨cs, g, kk, mm, fx _ _ F.d2.symm F.d4.symm (s4 _ _ (kp _ _ lp1 Z.o)), fx _ _ F.d3.symm F.d5.symm (s4 _ _ (kp _ _ lp2 Z.c)), Z.ne, Z.g0, Z.k0, by have := Z.k1; omega, Z.m0, Z.m1, Z.sz⟩
      · refine ⟨dx, t0, t1, t2, ts0, us ++ [tn], fx _ _ np1 np2 (s4 _ _ e1), tup4 _ _ ht0, fx _ _ t1n.1 t1n.2 (s4 _ _ e2), hts0.keep tup4, ?_, tups_snoc (hus.keep tup4) (tup4 _ _ hn2)⟩
        rw [List.map_append]
        exact fx _ _ t2n.1 t2n.2 (s4 _ _ e3)
      · exact ⟨pts0, by rw [upd_ne F.d1, upd_same], hpt2.keep tup4⟩
      · exact ⟨lts ++ [th], by rw [upd_same, List.map_append]; rfl, tups_snoc (hlt2.keep tup4) (tup4 _ _ oth2)⟩
      · intro h hh
        refine S2.good h ?_
        simp only [List.mem_append, List.mem_cons, List.not_mem_nil, or_false] at hh ⊢
        rcases hh with hh | hh | hh | hh
        · exact .inl (.inl hh)
        · exact .inl (.inr hh)
        · exact .inr (.inr hh)
        · exact .inr (.inl hh)
      · simp at hlen ⊢
        omega
  · rw [decide_eq_false e0]
    refine iteF ?_
    refine ⟨_, rfl, rfl, _, rfl, ?_⟩
    rw [dec_int2]
    by_cases e1' : d = 1
    · rw [decide_eq_true e1']
      refine iteT ?_
      refine ⟨_, rfl, p, dx, _, rfl, hp2, rfl, p, dx, tu, tp, _, _, _, _, rfl, hp2, hu2, ht2, by rw [List.length_map]; omega, fun en => ?_, fun qs v eqs H3 t1 t2 n1 n2 e1 e2 e3 kp => ?_⟩
      · have el : lts = [] := by
          cases us with
          | nil => exact List.eq_nil_of_length_eq_zero (by rw [llt, ← lus]; rfl)
          | cons _ _ => cases en
        subst el
        refine ⟨_, rfl, (by show 0 ≤ sizeLine; omega), fun e ne => ?_⟩
        have se := same_new (o := .lst []) ne
        refine ⟨la, e, [], rfl, rfl, SqL.of (se _ _ ola2), SqL.of upd_same, .bl false, _, rfl, .up (.up (.bl _)), fun H3 s3 => ⟨_, rfl, iteF ?_⟩⟩
        refine ⟨_, rfl, (by show 0 ≤ sizeLine; omega), fun e' ne' => ?_⟩
        have se' := same_new (o := .lst []) ne'
        refine ⟨la, e', [], rfl, rfl, SqL.of (se' _ _ (s3 _ _ (se _ _ ola2))), SqL.of upd_same, _, rfl, iteF ?_⟩
        have z := S2.same (se.trans (s3.trans se'))
        exact hq _ before here fut (k2.trans (se.trans (s3.trans se'))) ⟨z.sp.mono (by omega), z.fil, z.past, z.later, z.tab, z.good, by have := z.len; omega⟩
      · obtain ⟨us0, u0, rfl⟩ : ∃ us0 u0, us = us0 ++ [u0] := by
          rcases List.eq_nil_or_concat us with z | ⟨us0, u0, z⟩
          · rw [z] at eqs; simp at eqs
          · exact ⟨us0, u0, by rw [z, List.concat_eq_append]⟩
        rw [List.map_append] at eqs
        obtain ⟨rfl, ev⟩ := List.append_inj' eqs rfl
        obtain rfl : V.ref u0 = v := (List.cons.inj ev).1
        obtain ⟨f0, x, rfl⟩ : ∃ f0 x, fut = f0 ++ [x] := by
          rcases List.eq_nil_or_concat fut with z | ⟨f0, x, z⟩
          · rw [z] at lus; simp at lus
          · exact ⟨f0, x, by rw [z, List.concat_eq_append]⟩
        obtain ⟨us1, u1, et, hus0, hu0⟩ := tups_unsnoc hus
        obtain ⟨rfl, et2⟩ := List.append_inj' et rfl
        obtain rfl : u0 = u1 := (List.cons.inj et2).1
        obtain ⟨lts0, lt, rfl, hlt0, olt⟩ := tups_unsnoc hlt2
        have k23 : KL (fv5 l ls p pa la) H2 H3 := KL.one (by simp [fv5]) kp
        have opa3 := kp _ _ ne1 opa2
        have ola3 := kp _ _ ne2 ola2
        rw [List.map_append] at ola3
        have ola3 : H3 la = some (.lst (lts0.map V.ref ++ [V.ref lt])) := ola3
        have big : (!(lts0.map V.ref ++ [V.ref lt] : List V).isEmpty) = true := by simp
        refine ⟨_, rfl, (by show 0 ≤ sizeLine; omega), fun e ne => ?_⟩
        have se := same_new (o := .lst []) ne
        refine ⟨la, e, _, rfl, rfl, SqL.of (se _ _ ola3), SqL.of upd_same, .bl true, _, rfl, ?_, fun H4 s4 => ⟨_, rfl, iteF ?_⟩⟩
        · rw [big]
          exact .up (.up (.bl _))
        have s34 := se.trans s4
        refine ⟨_, rfl, (by show 0 ≤ sizeLine; omega), fun e' ne' => ?_⟩
        have se' := same_new (o := .lst []) ne'
        have s35 := s34.trans se'
        refine ⟨la, e', _, rfl, rfl, SqL.of (s35 _ _ ola3), SqL.of upd_same, _, rfl, ?_⟩
        rw [big]
        refine iteT ?_
        generalize upd H4 e' (.lst []) = H5 at s35
        have opa5 := s35 _ _ opa3
        have ola5 := s35 _ _ ola3
        have opa6 : upd H5 la (.lst (lts0.map V.ref)) pa = some (.lst (pts0.map V.ref ++ [V.ref th])) := by
          rw [upd_ne F.d1]
          exact opa5
        refine ⟨_, rfl, .inl ⟨rfl, _, SqL.of opa5⟩, _, rfl, .inl ⟨rfl, _, SqL.of ola5⟩, la, _, .ref lt, rfl, rfl, ola5, mem_last _ _, ?_⟩
        rw [List.dropLast_concat]
        refine ⟨pa, _, .ref lt, rfl, rfl, opa6, by rw [List.length_append, List.length_map, sizeLine_eq]; simp at hlen ⊢; omega, ?_⟩
        have k4 : KL (fv5 l ls p pa la) H2 (upd (upd H5 la (.lst (lts0.map V.ref))) pa (.lst (pts0.map V.ref ++ [V.ref th] ++ [V.ref lt]))) := ((k23.trans (.of s35)).trans (.upd (by simp [fv5]))).trans (.upd (by simp [fv5]))
        have tup4 := S2.tup k4
        have fx : ∀ b o, b ≠ pa → b ≠ la → H5 b = some o → upd (upd H5 la (.lst (lts0.map V.ref))) pa (.lst (pts0.map V.ref ++ [V.ref th] ++ [V.ref lt])) b = some o := fun b o h1 h2 e => by
          rw [upd_ne h1, upd_ne h2]
          exact e
        have t1n : t1 ≠ pa ∧ t1 ≠ la := ⟨fun z => (by rw [z, opa2] at n1; cases n1), fun z => (by rw [z, ola2] at n1; cases n1)⟩
        have t2n : t2 ≠ pa ∧ t2 ≠ la := ⟨fun z => (by rw [z, opa2] at n2; cases n2), fun z => (by rw [z, ola2] at n2; cases n2)⟩
        refine hq _ (before ++ [here]) x f0 (F.keep k2 k4) (S2.next k4 ?_ ?_ ?_ ?_ ?_ ?_)
        · obtain ⟨cs, g, kk, mm, Z⟩ := S2.sp
          have lp1 : l ≠ p := fun z => by have y := Z.o; rw [z, hp2] at y; cases y
          have lp2 : ls ≠ p := fun z => by have y := Z.c; rw [z, hp2] at y; cases y
          exact ⟨cs, g, kk, mm, fx _ _ F.d2.symm F.d4.symm (s35 _ _ (kp _ _ lp1 Z.o)), fx _ _ F.d3.symm F.d5.symm (s35 _ _ (kp _ _ lp2 Z.c)), Z.ne, Z.g0, Z.k0, by have := Z.k1; omega, Z.m0, Z.m1, Z.sz⟩
        · refine ⟨dx, u0, t2, t1, ts ++ [tn], us0, fx _ _ ne1.symm ne2.symm (s35 _ _ e1), tup4 _ _ hu0, ?_, tups_snoc (hts.keep tup4) (tup4 _ _ hn2), fx _ _ t1n.1 t1n.2 (s35 _ _ e2), hus0.keep tup4⟩
          rw [List.map_append]
          exact fx _ _ t2n.1 t2n.2 (s35 _ _ e3)
        · exact ⟨pts0 ++ [th] ++ [lt], by rw [upd_same, List.map_append, List.map_append]; rfl, tups_snoc (tups_snoc (hpt2.keep tup4) (tup4 _ _ oth2)) (tup4 _ _ olt)⟩
        · exact ⟨lts0, by rw [upd_ne F.d1.symm, upd_same], hlt0.keep tup4⟩
        · intro h hh
          refine S2.good h ?_
          simp only [List.mem_append, List.mem_cons, List.not_mem_nil, or_false] at hh ⊢
          rcases hh with (hh | hh) | hh | hh
          · exact .inl hh
          · exact .inr (.inl hh)
          · exact .inr (.inr (.inr hh))
          · exact .inr (.inr (.inl hh))
        · simp at hlen ⊢
          omega
    · rw [decide_eq_false e1']
      refine iteF ?_
      refine ⟨_, rfl, _, rfl, l, ls, q, _, N + 1, rfl, S2.sp, by omega, fun z => qf (by simp [fv5, z]), fun z => qf (by simp [fv5, z]), oq2, by rw [List.length_map]; exact List.length_pos_iff.mpr F.nne, by rw [List.length_map]; exact F.s1, fun H3 v vin sp3 B3 => ?_⟩
      obtain ⟨x, xin, rfl⟩ := List.mem_map.mp vin
      have S3 := S2.drawn F B3 sp3
      have k23 : KL (fv5 l ls p pa la) H2 H3 := fun b o n e => B3 b o (fun z => n (by simp [fv5, z])) (fun z => n (by simp [fv5, z])) e
      have k3 : Same H0 H3 := F.keep k2 k23
      have oth3 := S2.tup k23 _ _ oth2
      have shh : here.length < 1000 := (S3.ftab F k3).short
      have gh := S3.good here (by simp)
      have S3' : S7 T C H3 l ls p pa la a ns before here fut (N + 2) m := ⟨S3.sp.mono (by omega), S3.fil, S3.past, S3.later, S3.tab, S3.good, S3.len⟩
      clear S3 S2 hp2 hn2 ht2 hts hu2 hus opa2 ola2 hpt2 hlt2
      refine ⟨_, rfl, _, _, rfl, rfl, _, rfl, ?_⟩
      by_cases lt6 : d < 6
      · rw [decide_eq_true lt6]
        refine iteT ?_
        refine ⟨_, rfl, _, rfl, th, _, rfl, .inr (SqT.of oth3), rfl, flat_strs here, ?_⟩
        rw [inV_strs]
        by_cases xh : x ∈ here
        · rw [decide_eq_true xh]
          refine ⟨_, rfl, iteT ⟨_, rfl, (by show 2 ≤ sizeLine; decide), fun du ndu => ?_⟩⟩
          have sd := same_new (o := .tup [.str "known", .str x]) ndu
          have od : upd H3 du (.tup [.str "known", .str x]) du = some (.tup [.str "known", .str x]) := upd_same
          generalize upd H3 du (.tup [.str "known", .str x]) = H4 at sd od
          have S4 := S3'.same sd
          refine ⟨Pd, [], T, hT, S4.tab, .inl CH, fun c' P2 H5 eN T5 _ hco E hE => ?_⟩
          have S5 := S4.ext eN T5
          have k5 := F.ext (k3.trans sd) eN
          obtain ⟨dx, tn, tp, tu, ts, us, hp5, hn5, ht5, hts5, hu5, hus5⟩ := S5.fil
          have lts5 : ts.length = before.length := Paired.length hts5
          refine ⟨_, rfl, p, dx, _, rfl, hp5, rfl, _, rfl, p, dx, a, tn, tp, _, .str x, ns, here, tbl, _, rfl, hp5, F.tab.same k5, hn5, shh, ht5, by rw [List.length_map]; omega, .inr ⟨x, rfl, xin, fun _ => ?_, fun z => absurd xh z⟩⟩
          refine tried_fly (c := ⟨"Known", CK, "known", "name"⟩) (by simp [clz3]) hE fun H6 t s6 ot => ?_
          refine ⟨_, rfl, t, du, _, _, _, _, _, _, rfl, rfl, SqT.of ot, SqT.of (s6 _ _ (eN _ _ od (fun _ y => by cases y))), .same rfl, .same rfl, _, rfl, iteF ?_⟩
          have oth6 := s6 _ _ (eN _ _ (sd _ _ oth3) (fun _ y => by cases y))
          refine ⟨_, rfl, _, rfl, th, _, rfl, .inr (SqT.of oth6), rfl, flat_strs here, ?_⟩
          rw [inV_strs, decide_eq_true xh]
          refine ⟨_, rfl, iteT ⟨_, rfl, hk _ _ du "known" x rfl (s6 _ _ (eN _ _ od (fun _ y => by cases y))) (by decide) fun H7 s7 => ?_⟩⟩
          have z := S5.same (s6.trans s7)
          exact hq H7 before here fut (k5.trans (s6.trans s7)) ⟨z.sp, z.fil, z.past, z.later, z.tab, z.good, by have := z.len; omega⟩
        · rw [decide_eq_false xh]
          refine ⟨_, rfl, iteF ⟨(by show 2 ≤ sizeLine; decide), fun du ndu => ?_⟩⟩
          have sd := same_new (o := .tup [.str "told", .non]) ndu
          have od : upd H3 du (.tup [.str "told", .non]) du = some (.tup [.str "told", .non]) := upd_same
          generalize upd H3 du (.tup [.str "told", .non]) = H4 at sd od
          have S4 := S3'.same sd
          refine ⟨Pd, [], T, hT, S4.tab, .inl CH, fun c' P2 H5 eN T5 _ hco E hE => ?_⟩
          have S5 := S4.ext eN T5
          have k5 := F.ext (k3.trans sd) eN
          obtain ⟨dx, tn, tp, tu, ts, us, hp5, hn5, ht5, hts5, hu5, hus5⟩ := S5.fil
          have lts5 : ts.length = before.length := Paired.length hts5
          refine ⟨_, rfl, p, dx, _, rfl, hp5, rfl, _, rfl, p, dx, a, tn, tp, _, .str x, ns, here, tbl, _, rfl, hp5, F.tab.same k5, hn5, shh, ht5, by rw [List.length_map]; omega, .inr ⟨x, rfl, xin, fun z => absurd z xh, fun _ H6 did => ?_⟩⟩
          refine ⟨(by show 2 ≤ sizeLine; decide), fun t nt => ?_⟩
          have st := same_new (o := .tup [.str "told", .non]) nt
          have keep6 : ∀ b ys, H5 b = some (.tup ys) → H6 b = some (.tup ys) := fun b ys e => by
            obtain ⟨_, _, _, _, _, _, _, kp⟩ := id did
            exact kp _ _ (fun z => by rw [z, hp5] at e; cases e) e
          have od6 := st _ _ (keep6 _ _ (eN _ _ od (fun _ y => by cases y)))
          have oth6 := st _ _ (keep6 _ _ (eN _ _ (sd _ _ oth3) (fun _ y => by cases y)))
          have ot : upd H6 t (.tup [.str "told", .non]) t = some (.tup [.str "told", .non]) := upd_same
          generalize upd H6 t (.tup [.str "told", .non]) = H7 at st od6 oth6 ot
          refine ⟨_, rfl, t, du, _, _, _, _, _, _, rfl, rfl, SqT.of ot, SqT.of od6, .same rfl, .same rfl, _, rfl, iteF ?_⟩
          refine ⟨_, rfl, _, rfl, th, _, rfl, .inr (SqT.of oth6), rfl, flat_strs here, ?_⟩
          rw [inV_strs, decide_eq_false xh]
          refine ⟨_, rfl, iteF ⟨_, rfl, _, rfl, (by show 1 ≤ sizeLine; decide), fun u nu => ?_⟩⟩
          have su := same_new (o := .tup [.str x]) nu
          have ou : upd H7 u (.tup [.str x]) u = some (.tup [.str x]) := upd_same
          generalize upd H7 u (.tup [.str x]) = H8 at su ou
          have gd : (here ++ [x]).Nodup ∧ ∀ y ∈ here ++ [x], y ∈ ns := by
            refine ⟨List.nodup_append.mpr ⟨gh.1, by simp, fun y hy z hz => ?_⟩, fun y hy => ?_⟩
            · rw [List.mem_singleton.mp hz]
              exact fun e => xh (e ▸ hy)
            · rcases List.mem_append.mp hy with hy | hy
              · exact gh.2 y hy
              · rw [List.mem_singleton.mp hy]; exact xin
          have fin : ∀ th' H9, Same H8 H9 → H9 th' = some (.tup ((here ++ [x]).map V.str)) → tl { nx := fun _ H' => Q .non H', rt := Q } _ H9 := fun th' H9 s9 o9 => by
            obtain ⟨xs, ys, w1, w2, w3, w4⟩ := S5.push F did hp5 hn5 hts5 (st.trans (su.trans s9)) o9 gd
            exact hp [some (.ref l), some (.ref p), some (.ref r), some (.ref pa), some (.ref la), some (.ref q), some (.ref th), some (.int d), some (.str x), some (.ref du), some (.ref th'), none] H9 du th' xs ys rfl rfl rfl rfl (s9 _ _ (su _ _ od6)) w1 w2 (by omega) fun H10 s10 => hq _ (before ++ [here]) (here ++ [x]) [] (F.keep k5 (w4 H10 s10).1) (w4 H10 s10).2
          refine ⟨th, u, _, _, rfl, rfl, SqT.of (su _ _ oth6), SqT.of ou, by rw [List.length_map, sizeLine_eq]; show here.length + 1 ≤ _; omega, fun en => ?_, fun _ z => (by cases z), fun _ _ w nw => ?_⟩
          · have eh : here = [] := List.map_eq_nil_iff.mp en
            refine fin u H8 (Same.refl _) ?_
            rw [eh]
            exact ou
          · refine fin w _ (same_new nw) ?_
            rw [upd_same, List.map_append]
            rfl
      · rw [decide_eq_false lt6]
        refine iteF ?_
        refine ⟨_, rfl, _, rfl, th, _, rfl, .inr (SqT.of oth3), rfl, flat_strs here, ?_⟩
        rw [inV_strs]
        by_cases xh : x ∈ here
        · rw [decide_eq_true xh]
          refine ⟨_, rfl, iteT ⟨(by show 2 ≤ sizeLine; decide), fun du ndu => ?_⟩⟩
          have sd := same_new (o := .tup [.str "told", .non]) ndu
          have od : upd H3 du (.tup [.str "told", .non]) du = some (.tup [.str "told", .non]) := upd_same
          generalize upd H3 du (.tup [.str "told", .non]) = H4 at sd od
          have S4 := S3'.same sd
          refine ⟨Pd, [], T, hT, S4.tab, .inl CH, fun c' P2 H5 eN T5 _ hco E hE => ?_⟩
          have S5 := S4.ext eN T5
          have k5 := F.ext (k3.trans sd) eN
          obtain ⟨dx, tn, tp, tu, ts, us, hp5, hn5, ht5, hts5, hu5, hus5⟩ := S5.fil
          have lts5 : ts.length = before.length := Paired.length hts5
          refine ⟨_, rfl, p, dx, _, rfl, hp5, rfl, _, rfl, p, dx, a, tn, tp, _, .str x, here, _, rfl, hp5, hn5, shh, ht5, by rw [List.length_map]; omega, .inr ⟨x, rfl, xh, fun H6 did => ?_⟩⟩
          refine ⟨(by show 2 ≤ sizeLine; decide), fun t nt => ?_⟩
          have st := same_new (o := .tup [.str "told", .non]) nt
          have keep6 : ∀ b ys, H5 b = some (.tup ys) → H6 b = some (.tup ys) := fun b ys e => by
            obtain ⟨_, _, _, _, _, _, _, kp⟩ := id did
            exact kp _ _ (fun z => by rw [z, hp5] at e; cases e) e
          have od6 := st _ _ (keep6 _ _ (eN _ _ od (fun _ y => by cases y)))
          have oth6 := st _ _ (keep6 _ _ (eN _ _ (sd _ _ oth3) (fun _ y => by cases y)))
          have ot : upd H6 t (.tup [.str "told", .non]) t = some (.tup [.str "told", .non]) := upd_same
          generalize upd H6 t (.tup [.str "told", .non]) = H7 at st od6 oth6 ot
          refine ⟨_, rfl, t, du, _, _, _, _, _, _, rfl, rfl, SqT.of ot, SqT.of od6, .same rfl, .same rfl, _, rfl, iteF ?_⟩
          refine ⟨_, rfl, lc_seq (.inr rfl) oth6 (by rw [List.length_map]; omega) (isStr fun y => !decide (y = x)) id ?_ ?_⟩
          · rintro i v G1 Cn Nn ev s1 yes no
            rw [List.getElem?_map] at ev
            obtain ⟨y, ey, rfl⟩ := Option.map_eq_some_iff.mp ev
            refine ⟨rfl, _, rfl, _, rfl, rfl, _, rfl, ?_⟩
            rw [dec_str]
            cases k : !decide (y = x) with
            | true => exact ⟨_, rfl, yes k G1 (Same.refl _)⟩
            | false => exact no k G1 (Same.refl _)
          intro G1 B nB oB s1
          rw [filter_strs] at oB
          refine ⟨B, _, rfl, .inl ⟨SqL.of oB, fun t' nt' => ?_⟩⟩
          have st' := same_new (o := .tup ((here.filter fun y => !decide (y = x)).map V.str)) nt'
          have gd : (here.filter fun y => !decide (y = x)).Nodup ∧ ∀ y ∈ here.filter (fun y => !decide (y = x)), y ∈ ns := ⟨gh.1.filter _, fun y hy => gh.2 y (List.mem_filter.mp hy).1⟩
          obtain ⟨xs, ys, w1, w2, w3, w4⟩ := S5.push F did hp5 hn5 hts5 (st.trans (s1.trans st')) upd_same gd
          exact hp _ _ du t' xs ys rfl rfl rfl rfl (st' _ _ (s1 _ _ od6)) w1 w2 (by omega) fun H10 s10 => hq _ (before ++ [here]) (here.filter fun y => !decide (y = x)) [] (F.keep k5 (w4 H10 s10).1) (w4 H10 s10).2
        · rw [decide_eq_false xh]
          refine ⟨_, rfl, iteF ⟨_, rfl, (by show 2 ≤ sizeLine; decide), fun du ndu => ?_⟩⟩
          have sd := same_new (o := .tup [.str "not known", .str x]) ndu
          have od : upd H3 du (.tup [.str "not known", .str x]) du = some (.tup [.str "not known", .str x]) := upd_same
          generalize upd H3 du (.tup [.str "not known", .str x]) = H4 at sd od
          have S4 := S3'.same sd
          refine ⟨Pd, [], T, hT, S4.tab, .inl CH, fun c' P2 H5 eN T5 _ hco E hE => ?_⟩
          have S5 := S4.ext eN T5
          have k5 := F.ext (k3.trans sd) eN
          obtain ⟨dx, tn, tp, tu, ts, us, hp5, hn5, ht5, hts5, hu5, hus5⟩ := S5.fil
          have lts5 : ts.length = before.length := Paired.length hts5
          refine ⟨_, rfl, p, dx, _, rfl, hp5, rfl, _, rfl, p, dx, a, tn, tp, _, .str x, here, _, rfl, hp5, hn5, shh, ht5, by rw [List.length_map]; omega, .inl ⟨.inl ⟨x, rfl, xh⟩, ?_⟩⟩
          refine tried_fly (c := ⟨"NotKnown", CN, "not known", "name"⟩) (by simp [clz3]) hE fun H6 t s6 ot => ?_
          refine ⟨_, rfl, t, du, _, _, _, _, _, _, rfl, rfl, SqT.of ot, SqT.of (s6 _ _ (eN _ _ od (fun _ y => by cases y))), .same rfl, .same rfl, _, rfl, iteF ?_⟩
          have oth6 := s6 _ _ (eN _ _ (sd _ _ oth3) (fun _ y => by cases y))
          refine ⟨_, rfl, lc_seq (.inr rfl) oth6 (by rw [List.length_map]; omega) (isStr fun y => !decide (y = x)) id ?_ ?_⟩
          · rintro i v G1 Cn Nn ev s1 yes no
            rw [List.getElem?_map] at ev
            obtain ⟨y, ey, rfl⟩ := Option.map_eq_some_iff.mp ev
            refine ⟨rfl, _, rfl, _, rfl, rfl, _, rfl, ?_⟩
            rw [dec_str]
            cases k : !decide (y = x) with
            | true => exact ⟨_, rfl, yes k G1 (Same.refl _)⟩
            | false => exact no k G1 (Same.refl _)
          intro G1 B nB oB s1
          rw [filter_strs] at oB
          refine ⟨B, _, rfl, .inl ⟨SqL.of oB, fun t' nt' => ?_⟩⟩
          have st' := same_new (o := .tup ((here.filter fun y => !decide (y = x)).map V.str)) nt'
          refine hk _ _ du "not known" x rfl (st' _ _ (s1 _ _ (s6 _ _ (eN _ _ od (fun _ y => by cases y))))) (by decide) fun H7 s7 => ?_
          have s67 := s6.trans (s1.trans (st'.trans s7))
          have z := S5.same s67
          exact hq H7 before here fut (k5.trans s67) ⟨z.sp, z.fil, z.past, z.later, z.tab, z.good, by have := z.len; omega⟩
end
end L2.TB
/-! _law_work -/
namespace L2.TB
open PySem PySem.Spec PyProof.Rows LM LamX
/-- d[k], d tracked: the value, or a KeyError -/
def tDGetN (W : WX) (td ty : TE) : TE := fun σ H Q => td σ H fun x H1 => ty σ H1 fun y H2 => ∃ (a : Addr) (o : Option V), x = .ref a ∧ DGet H2 a y o ∧ (∀ v, o = some v → Q v H2) ∧ (o = none → ∀ d, W (.type "KeyError") d σ H2)
theorem pe_dgetN {X : Cx} {W : WX} {o i : Expr} {td ty : TE} {pos : Pos} (hc : X.calm = true) (hu : X.A.units + 1 < cLine) (tk : L2N.Takes X W) (ho : PE X o td) (hi : PE X i ty) (hs : NoSl i) : PE X (.Subscript o i pos) (tDGetN W td ty) := by
  refine ⟨fun pins s σ H Q I h => subD_of PySem.F.slot_dict_getitem.lookup hs (thn (ho.run pins s σ H _ I h) fun u s1 ⟨x, H1, I1, r1, z1⟩ => thn (hi.run pins s1 σ H1 _ I1 z1) fun iv s2 ⟨y, H2, I2, r2, a, ov, ex, g, some_, none_⟩ => ?_)⟩
  subst ex
  obtain rfl : u = Value.ref a := r1
  refine ⟨dict_typeIs I2 g, ?_⟩
  cases ov with
  | some v => exact d_getItem hu I2 g r2 fun w' s3 I3 r3 => ⟨v, H2, I3, r3, some_ v rfl⟩
  | none => exact d_missing hu (I2.ok.hd hc) I2 g r2 fun h' e t' ne => L2N.takes_newN (t' := t') tk I2 ne (none_ rfl)
theorem passesN {X : Cx} {E : XK} (tk : L2N.Takes X fun cls d _ H => E cls d H) : Passes (L2N.CX X.prog X.w) X E := fun pins σ H s e s' I c => L2N.passAt tk σ pins H s e s' I c
/-- o.trial(lambda y: body) -/
theorem pe_trl {X : Cx} {C CT CQ CK CN c : Addr} {k : Nat} {y q : Str} {E : XK} {o : Expr} {ta : TE} {pl : Sem Bool} {params : Arguments} {body : Expr} {scope : Scope} {t : Addr → Addr → XK → TE} {lpos pos apos : Pos} (L : LwF X.prog X.w X.K X.mg X.base C CT CQ CK CN) (he : PE X o ta) (hcode : X.env.code = .ref c)
    (hq : X.env.qual ++ "<lambda>" = q) (hr : Room (k + 2) X.A) (hx : Passes (L2.CX X.prog X.w) X E) (S : LamP X.env.scope scope [y]) (nN : y ∉ X.N) (hdef : defaultsOf params X.env = ([], []))
    (hbind : ∀ (cl : List (Str × Addr)) (c : Addr) (pm ctv u : Value), bindArgs (PySem.W.kla_fn "<lambda>" q params body scope cl pm (.ref c) ctv) ⟨[u], []⟩ = pure [(y, u)])
    (hbody : ∀ (A : Around) (outer : List Env) (s : Shared) (H : Hp) (E : XK) (f c' P2 : Addr), Room k (A.deeper (lamEnvQ X q scope s.heap.objs.size f c')) → PE (lamCxP X (L2N.CX X.prog X.w) A outer s H E scope f c' q [y]) body (t c' P2 E))
    (ht : eval (.Call (.Attribute o "trial" apos) [.Lambda params body scope lpos] [] pos) X.env = (do
      let ov ← eval o X.env
      standAt apos.atName
      let (f, first) ← holding [ov] (getMethod ov "trial" pl)
      callWith pos f first (backTo pos (starEach [.Lambda params body scope lpos] X.env)) (backToKw pos (keywordEach [] X.env))) := by rfl) :
    PE X (.Call (.Attribute o "trial" apos) [.Lambda params body scope lpos] [] pos) (tLam1 X.base c q C "trial" (TTrial C) E ta t) := by
  obtain ⟨g, fd, FT, mT⟩ := L.trial
  have bT := FT.binds (ps := ["self", "work"]) fun _ _ _ _ _ _ us hl => match us, hl with | [_, _], _ => rfl
  obtain ⟨oc, od, kV, doc, pm, an, cdv, ct, osl, rfl, lk, hcd⟩ := FT.ex
  exact pe_lam1 (Ng := NTr) (n0 := "self") (a := "work") he L.T.cl mT lk hcd bT scTr rfl (.inl rfl) (trial_gives L.T) hcode L.bi hq hr hx S nN hdef hbind hbody (ht := ht)
/-- where the list of what was ends -/
theorem S7.last {T : Tau} {C l ls p pa la a : Addr} {H : Hp} {ns : List Str} {before fut : List (List Str)} {here : List Str} {N : Int} {m : Nat} (S : S7 T C H l ls p pa la a ns before here fut N m) : ∃ (xs : List V) (th : Addr), H pa = some (.lst (xs ++ [.ref th])) ∧ H th = some (.tup (here.map V.str)) ∧ xs.length = before.length := by
  obtain ⟨pts, opa, hpt⟩ := S.past
  obtain ⟨pts0, th, rfl, hpt0, oth⟩ := tups_unsnoc hpt
  rw [List.map_append] at opa
  exact ⟨pts0.map V.ref, th, opa, oth, by rw [List.length_map]; exact Paired.length hpt0⟩
/-- trial(.. undo()) -/
theorem trial_undo {C p a : Addr} {H : Hp} {before fut : List (List Str)} {here : List Str} {σ : L2.St} {i : Nat} {Q : VK} {E : XK} (fil : FilAt H C p a before here fut) (len : fut.length < 900) (hσ : (σ ++ [some (.ref p)])[i]? = some (some (.ref p))) (go : ∀ H3, Same H H3 → Q (.bl (!before.isEmpty)) H3) :
    TTrial C (fun v E' H' Q' => tMeth C "undo" (spUndo C) [] E0 (tVar i) tNil (σ ++ [some v]) H' Q') (.ref p) H Q E := by
  obtain ⟨dx, tn, tp, tu, ts, us, hp, hn, ht, hts, hu, hus⟩ := fil
  have lts : ts.length = before.length := Paired.length hts
  have lus : us.length = fut.length := Paired.length hus
  refine ⟨p, dx, _, _, _, _, rfl, hp, fun E' Q' _ hQ => ?_⟩
  refine ⟨_, hσ, p, dx, _, rfl, hp, rfl, p, dx, tp, tu, _, _, _, _, rfl, hp, ht, hu, by rw [List.length_map]; omega, fun en => ?_, fun qs v eqs H3 t1 t2 n1 n2 e1 e2 e3 kp => ?_⟩
  · refine hQ _ _ ⟨_, _, _, _, _, hp, fun H3 e3 k3 _ => ?_⟩
    have eb : before = [] := by
      cases ts with
      | nil => exact List.eq_nil_of_length_eq_zero (by rw [← lts]; rfl)
      | cons _ _ => cases en
    have z := go H3 fun b o e => by
      by_cases hb : b = p
      · rw [hb, hp] at e
        rw [hb, e3]
        exact e
      · exact k3 b o hb e
    rw [eb] at z
    exact z
  · refine hQ _ _ ⟨_, _, _, _, _, e1, fun H4 e4 k4 _ => ?_⟩
    have z := go H4 fun b o e => by
      by_cases hb : b = p
      · rw [hb, hp] at e
        rw [hb, e4]
        exact e
      · exact k4 b o hb (kp b o hb e)
    have nb : (!before.isEmpty) = true := by
      cases before with
      | nil =>
        have : ts = [] := List.eq_nil_of_length_eq_zero (by rw [lts]; rfl)
        rw [this] at eqs
        simp at eqs
      | cons _ _ => rfl
    rw [nb] at z
    exact z
theorem one_lt {xs : List V} {th : V} {before : List (List Str)} (h : xs.length = before.length) : decide ((1 : Int) < ((xs ++ [th] : List V).length : Int)) = !before.isEmpty := by
  cases before with
  | nil =>
    rw [List.eq_nil_of_length_eq_zero h]
    rfl
  | cons _ _ => exact decide_eq_true (by rw [List.length_append, h]; simp; omega)
abbrev NWk : List Str := ["stream", "file", "rows", "lists", "ends", "k"]
theorem scWork : FnScope NWk ["stream", "file", "rows", "lists", "ends"] (defScope sWork) := ⟨rfl, rfl, rfl, by decide +kernel, rfl, by decide +kernel, by decide +kernel⟩
def spWork (K : PySem.W.Frag) (T : Tau) (C CT CQ : Addr) : Sp := fun vs H Q E => ∃ (H0 : Hp) (l ls p pa la r a ll : Addr) (as : List Addr) (ns : List Str) (tbl : List (List Int)) (before : List (List Str)) (here : List Str) (fut : List (List Str)) (N : Int) (m : Nat) (e : Int),
  vs = [.ref l, .ref p, .ref r, .ref ll, .int e] ∧ H0 ll = some (.lst [.ref pa, .ref la]) ∧ ("no one" : Str) ∉ ns ∧ Fix K CT H0 l ls p pa la r a as ns tbl ∧ Same H0 H ∧ S7 T C H l ls p pa la a ns before here fut N m ∧ N ≤ 700000 ∧ m < 400 ∧ (e = 0 ∨ e = 1 ∨ e = 2) ∧
  ∀ H' before' here' fut', Same H0 H' → S7 T C H' l ls p pa la a ns before' here' fut' (N + 6) (m + 3) → (e = 0 → Q (.int 1) H') ∧ (e = 1 → Flies CQ "name" (.str "no one") H' E) ∧ (e = 2 → ∀ d, E (.type "KeyError") d H')
section
variable {P : Program} {w : World} {K : PySem.W.Frag} {mg : Str → Option Value} {base : Heap} {f C CT CQ CK CN c Pw fD fS : Addr} {fd fdD fdS : FuncData} {T : Tau}
theorem ok_work (FW : Fun K "_law_work" "_law_work" sWork f fd) (hcd0 : fd.code = .ref c) (L : LwF P w K mg base C CT CQ CK CN) (CH : PySem.W.CodeHd base c Pw) (hT : (Pw, [("_law_work.<locals>.<lambda>" : Str)]) ∈ T) (nR : mg "range" = none)
    (FD : Fun K "_law_deed" "_law_deed" sDeed fD fdD) (gD : mg "_law_deed" = some (.ref fD)) (GD : FnOk P w K mg base CX0 10 fD fdD ["stream", "file", "rows", "past", "later"] (spDeed K T C CT))
    (FS : Fun K "_law_stands" "_law_stands" sStands fS fdS) (gS : mg "_law_stands" = some (.ref fS)) (GS : FnOk P w K mg base CX0 8 fS fdS ["file", "rows", "here"] (spStands K C CT)) :
    FnOk P w K mg base (L2N.CX P w) 11 f fd ["stream", "file", "rows", "lists", "ends"] (spWork K T C CT CQ) := by
  have bD := FD.binds (ps := ["stream", "file", "rows", "past", "later"]) fun _ _ _ _ _ _ us hl => match us, hl with | [_, _, _, _, _], _ => rfl
  have bS := FS.binds (ps := ["file", "rows", "here"]) fun _ _ _ _ _ _ us hl => match us, hl with | [_, _, _], _ => rfl
  obtain ⟨fU, fdU, FU, mU, GU⟩ := L.undo
  have bU := FU.binds (ps := NUn) fun _ _ _ _ _ _ us hl => match us, hl with | [_], _ => rfl
  obtain ⟨fL, fdL, FL, mL, GL⟩ := L.learn
  have bL := FL.binds (ps := ["self", "name"]) fun _ _ _ _ _ _ us hl => match us, hl with | [_, _], _ => rfl
  obtain ⟨fE, fdE, gE, FE, GE⟩ := L.same
  have bE := FE.binds (ps := ["found", "due"]) fun _ _ _ _ _ _ us hl => match us, hl with | [_, _], _ => rfl
  obtain ⟨oc, od, kV, doc, pm, an, cdv, ct, osl, rfl, lk, hcd⟩ := FW.ex
  obtain rfl : cdv = .ref c := hcd0
  refine fn_of lk hcd scWork (fun vs H Q E h => by obtain ⟨_, _, _, _, _, _, _, _, _, _, _, _, _, _, _, _, _, _, e, _⟩ := h; rw [e]; rfl) fun A outer s H vs Q E hr hsp => ?_
  obtain ⟨H0, l, ls, p, pa, la, r, a, ll, as, ns, tbl, before, here, fut, N, m, e, rfl, oll, no1, F, k0, S, hN, hm, he, hq⟩ := hsp
  have nd := scWork.nd
  let X := cxOf (L2N.CX P w) P w K mg base NWk "_law_work" (defScope sWork) f (.ref c) A outer s H E
  have hu : X.A.units + 64 < cLine := hr.units
  have hu1 : X.A.units + 1 < cLine := by omega
  have tk : L2N.Takes X fun cls d _ H => E cls d H := L2N.takes_of rfl rfl rfl rfl
  have at0 : ∀ x y : V, atI [x, y] ((0 : Nat) : Int) = some x := fun x y => atI_nat rfl
  have at1 : ∀ x y : V, atI [x, y] ((1 : Nat) : Int) = some y := fun x y => atI_nat rfl
  obtain ⟨tl, ptl, htl⟩ : ∃ tl, PSs X ((defBody sWork).drop 2) tl ∧ ∀ (s5 : Option V) (H2 : Hp) (before : List (List Str)) (here : List Str) (fut : List (List Str)), Same H0 H2 → S7 T C H2 l ls p pa la a ns before here fut (N + 6) (m + 3) →
      tl { nx := fun _ H' => Q .non H', rt := Q } [some (.ref l), some (.ref p), some (.ref r), some (.ref ll), some (.int e), s5] H2 := by
    refine ⟨_, pss_cons (ps_if (pt_not (pt_val (pe_call GS (hr.mono (by decide)) rfl gS FS.kp bS .nil pass0 (pa_cons (pv 1) (pa_cons (pv 2) (pa_cons (pe_ix (r := rIxL K) ix_list (pe_ix (r := rIxL K) ix_list (pv 3) pe_int (fun _ _ => rfl)) (pe_un un_neg pe_int) (fun _ _ => rfl)) pa_nil)))))) (pss_one ps_never) pss_nil)
    (pss_cons (ps_if (pt_cmpR op_eq (pv 4) pe_int (nomark _)) (pss_one (ps_expr (pe_meth (pv 1) L.T.cl mL GL (hr.mono (by decide)) bL .nil (passesN tk) (pa_cons pe_str pa_nil)))) pss_nil)
    (pss_one (ps_ret (pe_dgetN rfl hu1 tk (pe_disp (pps_cons pe_str pe_int pps_nil) rfl rfl (by decide) (by decide)) (pe_ifExp (pt_cmpR op_eq (pv 4) pe_int (nomark _)) pe_str pe_str) (fun _ _ => rfl))))), fun s5 H1 before here fut k1 S1 => ?_⟩
    obtain ⟨xs, th, opa, oth, lx⟩ := S1.last
    refine ⟨_, rfl, _, rfl, _, rfl, _, _, _, _, rfl, rfl, SqL.of (k1 _ _ oll), at0 _ _, 1, rfl, pa, _, -1, _, rfl, rfl, SqL.of opa, atI_neg _ _, ?_⟩
    refine ⟨p, a, r, th, as, ns, here, tbl, rfl, S1.frow F k1, oth, fun H2 s2 => ⟨_, rfl, iteF ?_⟩⟩
    have S2 := S1.same s2
    have k2 := k1.trans s2
    refine ⟨_, rfl, rfl, _, rfl, ?_⟩
    rw [dec_int2]
    have dge : ∀ (x : Str) (o : Option V) (H3 : Hp) (d : Addr), H3 d = some (.dK [((Sum.inr ("none" : Str) : Key), V.int 1)]) → valV [((Sum.inr ("none" : Str) : Key), V.int 1)] (Sum.inr x) = o → DGet H3 d (.str x) o := fun x o H3 d e h => by
      rw [← h]
      exact DGet.k (k := Sum.inr x) e
    by_cases e1 : e = 1
    · rw [decide_eq_true e1]
      refine iteT ?_
      obtain ⟨dx, tn, tp, tu, ts, us, hp, hn, ht, hts, hu', hus⟩ := S2.fil
      have lts : ts.length = before.length := Paired.length hts
      have ln := S2.len
      refine ⟨_, rfl, p, dx, _, rfl, hp, rfl, p, dx, a, tn, tp, _, .str "no one", ns, here, tbl, _, rfl, hp, F.tab.same k2, hn, (S2.ftab F k2).short, ht, by rw [List.length_map]; omega, .inl ⟨.inl ⟨_, rfl, no1⟩, ?_⟩⟩
      exact (hq H2 before here fut k2 S2).2.1 e1
    · rw [decide_eq_false e1]
      refine iteF ?_
      refine fun d nd' => ⟨upd_same, [((Sum.inr ("none" : Str) : Key), V.int 1)], rfl, (by show 1 ≤ 15; omega), ?_⟩
      have sd : Same H2 (upd (upd H2 d (.dK [])) d (.dK (mergeK [] [((Sum.inr ("none" : Str) : Key), V.int 1)]))) := fun b o k => by
        have nb := ne_of_none k nd'
        rw [upd_ne nb, upd_ne nb]
        exact k
      have od : upd (upd H2 d (.dK [])) d (.dK (mergeK [] [((Sum.inr ("none" : Str) : Key), V.int 1)])) d = some (.dK [((Sum.inr ("none" : Str) : Key), V.int 1)]) := upd_same
      generalize upd (upd H2 d (.dK [])) d (.dK (mergeK [] [((Sum.inr ("none" : Str) : Key), V.int 1)])) = H3 at sd od
      have fin := hq H3 before here fut (k2.trans sd) (S2.same sd)
      refine ⟨_, rfl, rfl, _, rfl, ?_⟩
      rw [dec_int2]
      by_cases e0 : e = 0
      · rw [decide_eq_true e0]
        refine iteT ⟨d, _, rfl, dge "none" _ H3 d od rfl, fun v ev => ?_, fun z => ?_⟩
        · have y : some (V.int 1) = some v := ev
          cases y
          exact fin.1 e0
        · have y : some (V.int 1) = none := z
          cases y
      · rw [decide_eq_false e0]
        have e2 : e = 2 := by omega
        refine iteF ⟨d, none, rfl, dge "lacks" _ H3 d od (by decide +kernel), fun v ev => (by cases ev), fun _ => fin.2.2 e2⟩
  refine ⟨_, pss_cons (ps_for (passes_of rfl) rfl (pi_range1 rfl nR (pa_cons pe_int pa_nil)) (pg_name (i := 5) nd rfl (Or.inl rfl))
      (pss_one (ps_if (PW.pt (pw_or (pt_not (pt_val (pe_call GD hr rfl gD FD.kp bD .nil pass0 (pa_cons (pv 0) (pa_cons (pv 1) (pa_cons (pv 2) (pa_cons (pe_ix ix_list (pv 3) pe_int (fun _ _ => rfl)) (pa_cons (pe_ix ix_list (pv 3) pe_int (fun _ _ => rfl)) pa_nil))))))))
        (pw_or1 (pt_not (pt_val (pe_call GS (hr.mono (by decide)) rfl gS FS.kp bS .nil pass0 (pa_cons (pv 1) (pa_cons (pv 2) (pa_cons (pe_ix (r := rIxL K) ix_list (pe_ix (r := rIxL K) ix_list (pv 3) pe_int (fun _ _ => rfl)) (pe_un un_neg pe_int) (fun _ _ => rfl)) pa_nil))))))))) (pss_one ps_never) pss_nil)))
    (pss_cons (ps_if (PW.pt (pw_and (pt_cmpR op_eq (pv 4) pe_int (nomark _)) (pw_and1 (pt_not (pt_val (pe_call GE (hr.mono (by decide)) rfl gE FE.kp bE .nil pass0
        (pa_cons (pe_trl (k := 1) (t := fun _ _ _ => tMeth C "undo" (spUndo C) [] E0 (tVar 6) tNil) L (pv 1) rfl rfl (hr.mono (by decide)) passL (lamP_by (sc := defScope sWork) (by decide +kernel)) (show ("one" : Str) ∉ NWk by decide +kernel) rfl (fun _ _ _ _ _ => rfl) (fun A outer s H E f' c' P2 hr2 => pe_meth0 (pv 6) L.T.cl mU GU hr2 bU .nil pass0))
        (pa_cons (pe_cmpR op_gt (pe_callB call_len_seq rfl L.M.nN boot_len (pa_cons (pe_ix (r := rIxL K) ix_list (pv 3) pe_int (fun _ _ => rfl)) pa_nil)) pe_int (nomark _)) pa_nil)))))))) (pss_one ps_never) pss_nil) ptl), ?_⟩
  refine ⟨3, rfl, by omega, by omega, for_range (n := Int.toNat 3) (fun i σ H' => ∃ before here fut, Same H0 H' ∧ S7 T C H' l ls p pa la a ns before here fut (N + 2 * i) (m + i) ∧ ∃ s5, σ = [some (.ref l), some (.ref p), some (.ref r), some (.ref ll), some (.int e), s5])
    ⟨before, here, fut, k0, by simpa using S, _, rfl⟩ ?_ ?_⟩
  · rintro i σ H1 hi ⟨before, here, fut, k1, S1, s5, rfl⟩
    have hi : i < 3 := hi
    refine ⟨_, rfl, _, rfl, _, rfl, _, rfl, _, _, _, _, rfl, rfl, SqL.of (k1 _ _ oll), at0 _ _, _, rfl, _, _, _, _, rfl, rfl, SqL.of (k1 _ _ oll), at1 _ _, ?_⟩
    refine ⟨H0, l, ls, p, pa, la, r, a, as, ns, tbl, before, here, fut, _, _, rfl, F, k1, S1, by omega, by omega, fun H2 before' here' fut' k2 S2 => ⟨_, rfl, iteF ?_⟩⟩
    obtain ⟨xs, th, opa, oth, _⟩ := S2.last
    refine ⟨_, rfl, _, rfl, _, rfl, _, _, _, _, rfl, rfl, SqL.of (k2 _ _ oll), at0 _ _, 1, rfl, pa, _, -1, _, rfl, rfl, SqL.of opa, atI_neg _ _, ?_⟩
    refine ⟨p, a, r, th, as, ns, here', tbl, rfl, S2.frow F k2, oth, fun H3 s3 => ⟨_, rfl, iteF ?_⟩⟩
    have z := S2.same s3
    exact ⟨before', here', fut', k2.trans s3, ⟨z.sp.mono (by omega), z.fil, z.past, z.later, z.tab, z.good, by have := z.len; omega⟩, _, rfl⟩
  · rintro σ H1 ⟨before, here, fut, k1, S1, s5, rfl⟩
    have S1 : S7 T C H1 l ls p pa la a ns before here fut (N + 6) (m + 3) := ⟨S1.sp.mono (by show N + 2 * ((3 : Nat) : Int) ≤ N + 6; omega), S1.fil, S1.past, S1.later, S1.tab, S1.good, S1.len⟩
    refine ⟨_, rfl, rfl, _, rfl, ?_⟩
    rw [dec_int2]
    by_cases e0 : e = 0
    · rw [decide_eq_true e0]
      refine iteT ?_
      obtain ⟨dx, tn, tp, tu, ts, us, hp, _⟩ := id S1.fil
      have ln := S1.len
      refine ⟨_, rfl, p, dx, _, rfl, hp, rfl, Pw, [], T, hT, S1.tab, .inl CH, fun c' P2 H2 eN T2 _ hco => ?_⟩
      have S2 := S1.ext eN T2
      have k2 := F.ext k1 eN
      refine trial_undo S2.fil (by omega) rfl fun H3 s3 => ?_
      have S3 := S2.same s3
      have k3 := k2.trans s3
      obtain ⟨xs, th, opa, oth, lx⟩ := S3.last
      refine ⟨_, rfl, _, _, _, _, rfl, rfl, SqL.of (k3 _ _ oll), at0 _ _, pa, _, rfl, .inl (SqL.of opa), _, _, rfl, rfl, .bl (!before.isEmpty), _, rfl, ?_, fun H4 s4 => ⟨_, rfl, iteF (htl _ H4 before here fut (k3.trans s4) (S3.same s4))⟩⟩
      show Alk _ 2 (.bl (!before.isEmpty)) (.bl (decide ((1 : Int) < ((xs ++ [V.ref th] : List V).length : Int))))
      rw [one_lt lx]
      exact .up (.up (.bl _))
    · rw [decide_eq_false e0]
      exact iteF (iteF (htl _ H1 before here fut k1 S1))
end
end L2.TB
/-! _law_trial_right -/
namespace L2.TB
open PySem PySem.Spec PyProof.Rows LM LamX
/-- all but these and the tables -/
def cutH (S : List Addr) (H : Hp) : Hp := fun b => if b ∈ S then none else match H b with
  | some (.tbl _) => none
  | o => o
theorem cut_in {S : List Addr} {H : Hp} {b : Addr} (h : b ∈ S) : cutH S H b = none := if_pos h
theorem cut_at {S : List Addr} {H : Hp} {b : Addr} {o : HO} (h : b ∉ S) (e : H b = some o) (n : ∀ ps, o ≠ .tbl ps) : cutH S H b = some o := by
  unfold cutH
  rw [if_neg h, e]
  cases o <;> first | rfl | exact absurd rfl (n _)
theorem cut_same (S : List Addr) (H : Hp) : Same (cutH S H) H := fun b o e => by
  unfold cutH at e
  by_cases h : b ∈ S
  · rw [if_pos h] at e; cases e
  · rw [if_neg h] at e
    cases k : H b with
    | none => rw [k] at e; cases e
    | some u =>
      rw [k] at e
      cases u <;> first | exact e | cases e
theorem cut_nt (S : List Addr) (H : Hp) (b : Addr) (ps : Array Value) : cutH S H b ≠ some (.tbl ps) := fun e => by
  unfold cutH at e
  by_cases h : b ∈ S
  · rw [if_pos h] at e; cases e
  · rw [if_neg h] at e
    cases k : H b with
    | none => rw [k] at e; cases e
    | some u =>
      rw [k] at e
      cases u <;> cases e
theorem same_cut {S : List Addr} {H0 H : Hp} (s : Same H0 H) (nt : ∀ b ps, H0 b ≠ some (.tbl ps)) (d : ∀ b ∈ S, H0 b = none) : Same H0 (cutH S H) := fun b o e => cut_at (fun z => by rw [d b z] at e; cases e) (s _ _ e) (fun ps y => nt b ps (y ▸ e))
section
variable {T : Tau} {K : PySem.W.Frag} {C CT l ls p pa la q1 q2 r a : Addr} {H0 H H' H3 : Hp} {as : List Addr} {ns : List Str} {tbl : List (List Int)} {before fut : List (List Str)} {here : List Str} {N N' : Int} {m m' : Nat}
/-- other lists of the same -/
theorem Fix.other (F : Fix K CT H0 l ls p pa la r a as ns tbl) (k : Same H0 H) (n1 : H0 q1 = none) (n2 : H0 q2 = none) (d1 : q1 ≠ q2) (d2 : q1 ≠ l) (d3 : q1 ≠ ls) (d4 : q2 ≠ l) (d5 : q2 ≠ ls) : Fix K CT (cutH (fv5 l ls p q1 q2) H) l ls p q1 q2 r a as ns tbl := by
  have s := same_cut (S := fv5 l ls p q1 q2) k F.nt fun b z => by
    simp only [fv5, List.mem_cons, List.not_mem_nil, or_false] at z
    rcases z with z | z | z | z | z <;> rw [z]
    · exact F.nl
    · exact F.nls
    · exact F.np
    · exact n1
    · exact n2
  exact ⟨cut_in (by simp [fv5]), cut_in (by simp [fv5]), cut_in (by simp [fv5]), cut_in (by simp [fv5]), cut_in (by simp [fv5]), cut_nt _ _, s _ _ F.r, F.rows.same s, F.tab.same s, F.tne, F.nne, F.ndn, F.s1, F.s2, d1, d2, d3, d4, d5⟩
theorem Fix.sub (F : Fix K CT H0 l ls p pa la r a as ns tbl) (k : Same H0 H) (n1 : H0 q1 = none) (n2 : H0 q2 = none) : Same H0 (cutH (fv5 l ls p q1 q2) H) := same_cut k F.nt fun b z => by
  simp only [fv5, List.mem_cons, List.not_mem_nil, or_false] at z
  rcases z with z | z | z | z | z <;> rw [z]
  · exact F.nl
  · exact F.nls
  · exact F.np
  · exact n1
  · exact n2
/-- behind a trial -/
theorem S7.back (S : S7 T C H l ls p pa la a ns before here fut N m) (F : Fix K CT H0 l ls p pa la r a as ns tbl) {before' fut' : List (List Str)} {here' : List Str} (S' : S7 T C H' l ls p q1 q2 a ns before' here' fut' N' m') (n1 : pa ≠ q1 ∧ pa ≠ q2 ∧ la ≠ q1 ∧ la ≠ q2) (nt : ∀ b ys, H b = some (.tup ys) → b ≠ q1 ∧ b ≠ q2) (s : Same (cutH (fv5 l ls p q1 q2) H) H')
    (e3 : ∀ dx tn tp tu, H p = some (.ins C dx (fF (.ref a) tn tp tu)) → ∃ dx', H3 p = some (.ins C dx' (fF (.ref a) tn tp tu))) (k3 : ∀ b o, b ≠ p → H' b = some o → H3 b = some o) : S7 T C H3 l ls p pa la a ns before here fut N' m := by
  obtain ⟨cs, g, k, mm, Z⟩ := S'.sp
  obtain ⟨dx, tn, tp, tu, ts, us, h1, h2, h3, h4, h5, h6⟩ := S.fil
  obtain ⟨_, _, _, _, _, _, hp', _⟩ := S'.fil
  obtain ⟨dx', e3⟩ := e3 _ _ _ _ h1
  obtain ⟨t1, o1, o2⟩ := S.past
  obtain ⟨t2, o3, o4⟩ := S.later
  have lp1 : l ≠ p := fun z => by have y := Z.o; rw [z, hp'] at y; cases y
  have lp2 : ls ≠ p := fun z => by have y := Z.c; rw [z, hp'] at y; cases y
  have tup : ∀ b ys, H b = some (.tup ys) → H3 b = some (.tup ys) := fun b ys e => by
    have nf := S.ne e (fun _ z => by cases z) (fun _ _ _ z => by cases z)
    obtain ⟨m1, m2⟩ := nt b ys e
    have nf2 : b ∉ fv5 l ls p q1 q2 := fun z => by
      simp only [fv5, List.mem_cons, List.not_mem_nil, or_false, not_or] at z nf
      rcases z with z | z | z | z | z
      · exact nf.1 z
      · exact nf.2.1 z
      · exact nf.2.2.1 z
      · exact m1 z
      · exact m2 z
    refine k3 _ _ (fun z => nf (by simp [fv5, z])) (s _ _ (cut_at nf2 e (fun _ z => by cases z)))
  have pp1 := S.ins_ne o1
  have pp2 := S.ins_ne o3
  have lst : ∀ b xs, b ≠ l → b ≠ ls → b ≠ p → b ≠ q1 → b ≠ q2 → H b = some (.lst xs) → H3 b = some (.lst xs) := fun b xs h1 h2 h3 h4 h5 e =>
    k3 _ _ h3 (s _ _ (cut_at (by simp [fv5, h1, h2, h3, h4, h5]) e (fun _ z => by cases z)))
  refine ⟨⟨cs, g, k, mm, k3 _ _ lp1 Z.o, k3 _ _ lp2 Z.c, Z.ne, Z.g0, Z.k0, Z.k1, Z.m0, Z.m1, Z.sz⟩, ⟨dx', tn, tp, tu, ts, us, e3, tup _ _ h2, tup _ _ h3, h4.keep tup, tup _ _ h5, h6.keep tup⟩,
    ⟨t1, lst _ _ F.d2 F.d3 pp1 n1.1 n1.2.1 o1, o2.keep tup⟩, ⟨t2, lst _ _ F.d4 F.d5 pp2 n1.2.2.1 n1.2.2.2 o3, o4.keep tup⟩, S'.tab.lits fun b o e z => ?_, S.good, S.len⟩
  refine k3 _ _ (fun y => ?_) e
  rw [y, hp'] at e
  cases e
  rcases z with ⟨_, z⟩ | ⟨_, z⟩ <;> cases z
end
abbrev NTR : List Str := ["stream", "file", "rows", "past", "later", "ends", "lists", "found"]
theorem scTR : FnScope NTR ["stream", "file", "rows", "past", "later"] (defScope sTrialR) := ⟨rfl, rfl, rfl, by decide +kernel, rfl, by decide +kernel, by decide +kernel⟩
def spTR (K : PySem.W.Frag) (T : Tau) (C CT : Addr) : Sp := fun vs H Q _ => ∃ (H0 : Hp) (l ls p pa la r a : Addr) (as : List Addr) (ns : List Str) (tbl : List (List Int)) (before : List (List Str)) (here : List Str) (fut : List (List Str)) (N : Int) (m : Nat),
  vs = [.ref l, .ref p, .ref r, .ref pa, .ref la] ∧ ("no one" : Str) ∉ ns ∧ Fix K CT H0 l ls p pa la r a as ns tbl ∧ Same H0 H ∧ S7 T C H l ls p pa la a ns before here fut N m ∧ N ≤ 600000 ∧ m < 300 ∧
  ∀ H', Same H0 H' → S7 T C H' l ls p pa la a ns before here fut (N + 7) m → Q (.bl true) H'
/-- what is due -/
def dueE (e : Int) : List V := if e = 0 then [.str "told", .int 1] else if e = 1 then [.str "question", .str "no one"] else [.str "key", .non]
/-- the lambda within the lambda -/
theorem pe_inner {X : Cx} {C CT CQ CK CN fW : Addr} {fdW : FuncData} {T : Tau} {A : Around} {outer : List Env} {s : Shared} {H : Hp} {E : XK} {f' c' : Addr} {q0 q1 : Str} {scO scI : Scope} {pI : Arguments} {p1 p2 p3 p4 p5 p6 p7 p8 p9 p10 p11 : Pos} (L : LwF X.prog X.w X.K X.mg X.base C CT CQ CK CN) (hNX : X.N = NTR)
    (FW : Fun X.K "_law_work" "_law_work" sWork fW fdW) (gW : X.mg "_law_work" = some (.ref fW)) (GW : FnOk X.prog X.w X.K X.mg X.base (L2N.CX X.prog X.w) 11 fW fdW ["stream", "file", "rows", "lists", "ends"] (spWork X.K T C CT CQ)) (hq : q0 ++ ".<locals>." ++ "<lambda>" = q1)
    (vO : Vis scO ("file" : Str)) (v1 : Vis scI ("stream" : Str)) (v2 : Vis scI "one") (v3 : Vis scI "rows") (v4 : Vis scI "lists") (v5 : Vis scI "ends") (gI : scI.names.lookup ("_law_work" : Str) = some .globalImplicit) (S : LamP scO scI ["one"]) (hr : Room 13 (A.deeper (lamEnvQ X q0 scO s.heap.objs.size f' c')))
    (hdef : defaultsOf pI (lamEnvQ X q0 scO s.heap.objs.size f' c') = ([], [])) (hbind : ∀ (cl : List (Str × Addr)) (c : Addr) (pm ctv u : Value), bindArgs (PySem.W.kla_fn "<lambda>" q1 pI (.Call (.Name "_law_work" p3) [.Name "stream" p4, .Name "one" p5, .Name "rows" p6, .Name "lists" p7, .Name "ends" p8] [] p9) scI cl pm (.ref c) ctv) ⟨[u], []⟩ = pure [(("one" : Str), u)]) {pl : Env → Sem Bool}
    (ht : ∀ env : Env, eval (.Call (.Attribute (.Name "file" p1) "trial" p2) [.Lambda pI (.Call (.Name "_law_work" p3) [.Name "stream" p4, .Name "one" p5, .Name "rows" p6, .Name "lists" p7, .Name "ends" p8] [] p9) scI p10] [] p11) env = (do
      let ov ← eval (.Name "file" p1) env
      standAt p2.atName
      let (f, first) ← holding [ov] (getMethod ov "trial" (pl env))
      callWith p11 f first (backTo p11 (starEach [.Lambda pI (.Call (.Name "_law_work" p3) [.Name "stream" p4, .Name "one" p5, .Name "rows" p6, .Name "lists" p7, .Name "ends" p8] [] p9) scI p10] env)) (backToKw p11 (keywordEach [] env)))) :
    PE (lamCxP X (L2.CX X.prog X.w) A outer s H E scO f' c' q0 []) (.Call (.Attribute (.Name "file" p1) "trial" p2) [.Lambda pI (.Call (.Name "_law_work" p3) [.Name "stream" p4, .Name "one" p5, .Name "rows" p6, .Name "lists" p7, .Name "ends" p8] [] p9) scI p10] [] p11)
      (tLam1 X.base c' q1 C "trial" (TTrial C) E (tVar 1) fun _ _ E2 => tCall (spWork X.K T C CT CQ) [] E2 (tCons (tVar 0) (tCons (tVar 8) (tCons (tVar 2) (tCons (tVar 6) (tCons (tVar 5) tNil)))))) := by
  have bW := FW.binds (ps := ["stream", "file", "rows", "lists", "ends"]) fun _ _ _ _ _ _ us hl => match us, hl with | [_, _, _, _, _], _ => rfl
  let Y := lamCxP X (L2.CX X.prog X.w) A outer s H E scO f' c' q0 []
  have nY : Y.N = NTR := by
    show X.N ++ [] = NTR
    rw [hNX]
    rfl
  have tk : Takes Y fun cls d _ H => E cls d H := takes_of rfl rfl rfl rfl
  refine pe_trl (X := Y) (k := 11) (q := q1) (y := "one") (E := E) L (pe_var (i := 1) (by rw [nY]; rfl) vO (by decide) (by decide)) rfl hq hr (passes tk) S (by rw [nY]; decide +kernel) hdef hbind (ht := ht Y.env) fun A2 outer2 s2 H2 E2 f2 c2 P3 hr3 => ?_
  let Z := lamCxP Y (L2N.CX X.prog X.w) A2 outer2 s2 H2 E2 scI f2 c2 q1 ["one"]
  have nZ : Z.N = NTR ++ [("one" : Str)] := by
    show Y.N ++ [("one" : Str)] = _
    rw [nY]
  have tk2 : L2N.Takes Z fun cls d _ H => E2 cls d H := L2N.takes_of rfl rfl rfl rfl
  exact pe_call (X := Z) GW hr3 gI gW FW.kp bW .nil (passesN tk2) (pa_cons (pe_var (i := 0) (by rw [nZ]; rfl) v1 (by decide) (by decide)) (pa_cons (pe_var (i := 8) (by rw [nZ]; rfl) v2 (by decide) (by decide)) (pa_cons (pe_var (i := 2) (by rw [nZ]; rfl) v3 (by decide) (by decide))
    (pa_cons (pe_var (i := 6) (by rw [nZ]; rfl) v4 (by decide) (by decide)) (pa_cons (pe_var (i := 5) (by rw [nZ]; rfl) v5 (by decide) (by decide)) pa_nil)))))
section
variable {P : Program} {w : World} {K : PySem.W.Frag} {mg : Str → Option Value} {base : Heap} {f C CT CQ CK CN c Pt fW fS : Addr} {fd fdW fdS : FuncData} {T : Tau}
theorem ok_trialR (FT : Fun K "_law_trial_right" "_law_trial_right" sTrialR f fd) (hcd0 : fd.code = .ref c) (L : LwF P w K mg base C CT CQ CK CN) (CH : PySem.W.CodeHd base c Pt) (hT : (Pt, [("_law_trial_right.<locals>.<lambda>" : Str), "_law_trial_right.<locals>.<lambda>.<locals>.<lambda>"]) ∈ T)
    (FW : Fun K "_law_work" "_law_work" sWork fW fdW) (gW : mg "_law_work" = some (.ref fW)) (GW : FnOk P w K mg base (L2N.CX P w) 11 fW fdW ["stream", "file", "rows", "lists", "ends"] (spWork K T C CT CQ))
    (FS : Fun K "_law_stands" "_law_stands" sStands fS fdS) (gS : mg "_law_stands" = some (.ref fS)) (GS : FnOk P w K mg base CX0 8 fS fdS ["file", "rows", "here"] (spStands K C CT)) :
    FnOk P w K mg base CX0 16 f fd ["stream", "file", "rows", "past", "later"] (spTR K T C CT) := by
  have bW := FW.binds (ps := ["stream", "file", "rows", "lists", "ends"]) fun _ _ _ _ _ _ us hl => match us, hl with | [_, _, _, _, _], _ => rfl
  have bS := FS.binds (ps := ["file", "rows", "here"]) fun _ _ _ _ _ _ us hl => match us, hl with | [_, _, _], _ => rfl
  obtain ⟨fU, fdU, FU, mU, GU⟩ := L.undo
  have bU := FU.binds (ps := NUn) fun _ _ _ _ _ _ us hl => match us, hl with | [_], _ => rfl
  obtain ⟨fE, fdE, gE, FE, GE⟩ := L.same
  have bE := FE.binds (ps := ["found", "due"]) fun _ _ _ _ _ _ us hl => match us, hl with | [_, _], _ => rfl
  obtain ⟨fR, fdR, gR, FR, GR⟩ := L.draw
  have bR := FR.binds (ps := ["stream", "many"]) fun _ _ _ _ _ _ us hl => match us, hl with | [_, _], _ => rfl
  obtain ⟨oc, od, kV, doc, pm, an, cdv, ct, osl, rfl, lk, hcd⟩ := FT.ex
  obtain rfl : cdv = .ref c := hcd0
  refine fn_of lk hcd scTR (fun vs H Q E h => by obtain ⟨_, _, _, _, _, _, _, _, _, _, _, _, _, _, _, _, e, _⟩ := h; rw [e]; rfl) fun A outer s H vs Q E hr hsp => ?_
  obtain ⟨H0, l, ls, p, pa, la, r, a, as, ns, tbl, before, here, fut, N, m, rfl, no1, F, k0, S, hN, hm, hq⟩ := hsp
  have nd := scTR.nd
  let X := (cxOf CX0 P w K mg base NTR "_law_trial_right" (defScope sTrialR) f (.ref c) A outer s H E).nox
  have hu : X.A.units < cLine := by
    have z : X.A.units + 64 < cLine := hr.units
    omega
  obtain ⟨tl2, ptl2, htl2⟩ : ∃ tl, PSs X ((defBody sTrialR).drop 3) tl ∧ ∀ (ll t : Addr) (e : Int) (H2 : Hp), Same H0 H2 → S7 T C H2 l ls p pa la a ns before here fut (N + 7) m →
      tl { nx := fun _ H' => Q .non H', rt := Q } [some (.ref l), some (.ref p), some (.ref r), some (.ref pa), some (.ref la), some (.int e), some (.ref ll), some (.ref t)] H2 := by
    refine ⟨_, pss_cons (ps_if (pt_not (pt_val (pe_call GE (hr.mono (by decide)) rfl gE FE.kp bE .nil pass0
          (pa_cons (pe_trl (k := 1) (t := fun _ _ _ => tMeth C "undo" (spUndo C) [] E0 (tVar 1) tNil) L (pv 1) rfl rfl (hr.mono (by decide)) passL (lamP_by (sc := defScope sTrialR) (by decide +kernel)) (show ("one" : Str) ∉ NTR by decide +kernel) rfl (fun _ _ _ _ _ => rfl) (fun A outer s H E f' c' P2 hr2 => pe_meth0 (pv 1) L.T.cl mU GU hr2 bU .nil pass0))
          (pa_cons (pe_cmpR op_gt (pe_callB call_len_seq rfl L.M.nN boot_len (pa_cons (pv 3) pa_nil)) pe_int (nomark _)) pa_nil))))) (pss_one ps_never) pss_nil)
      (pss_one (ps_ret (pe_call GS (hr.mono (by decide)) rfl gS FS.kp bS .nil pass0 (pa_cons (pv 1) (pa_cons (pv 2) (pa_cons (pe_ix (r := rIxL K) ix_list (pv 3) (pe_un un_neg pe_int) (fun _ _ => rfl)) pa_nil)))))), fun ll t e H2 k2 S2 => ?_⟩
    obtain ⟨dx, tn, tp, tu, ts, us, hp, _⟩ := id S2.fil
    have ln := S2.len
    refine ⟨_, rfl, p, dx, _, rfl, hp, rfl, Pt, [_], T, hT, S2.tab, .inl CH, fun c' P2 H3 eN T3 _ hco => ?_⟩
    have S3 := S2.ext eN T3
    have k3 := F.ext k2 eN
    refine trial_undo S3.fil (by omega) rfl fun H4 s4 => ?_
    have S4 := S3.same s4
    have k4 := k3.trans s4
    obtain ⟨xs, th, opa, oth, lx⟩ := S4.last
    refine ⟨_, rfl, pa, _, rfl, .inl (SqL.of opa), _, _, rfl, rfl, .bl (!before.isEmpty), _, rfl, ?_, fun H5 s5 => ⟨_, rfl, iteF ?_⟩⟩
    · show Alk _ 2 (.bl (!before.isEmpty)) (.bl (decide ((1 : Int) < ((xs ++ [V.ref th] : List V).length : Int))))
      rw [one_lt lx]
      exact .up (.up (.bl _))
    have S5 := S4.same s5
    have k5 := k4.trans s5
    refine ⟨_, rfl, _, rfl, _, rfl, 1, rfl, pa, _, -1, _, rfl, rfl, SqL.of (s5 _ _ opa), atI_neg _ _, ?_⟩
    exact ⟨p, a, r, th, as, ns, here, tbl, rfl, S5.frow F k5, s5 _ _ oth, fun H6 s6 => hq H6 (k5.trans s6) (S5.same s6)⟩
  obtain ⟨tl, ptl, htl⟩ : ∃ tl, PSs X ((defBody sTrialR).drop 2) tl ∧ ∀ (ll t : Addr) (e : Int) (H2 : Hp), (e = 0 ∨ e = 1 ∨ e = 2) → Same H0 H2 → S7 T C H2 l ls p pa la a ns before here fut (N + 7) m → H2 t = some (.tup (dueE e)) →
      tl { nx := fun _ H' => Q .non H', rt := Q } [some (.ref l), some (.ref p), some (.ref r), some (.ref pa), some (.ref la), some (.int e), some (.ref ll), some (.ref t)] H2 := by
    refine ⟨_, pss_cons (ps_if (PW.pt (pw_or (pt_cmpR (op_neT hu) (pv 7) (pe_ix (r := rIxL K) ix_list (pe_lst (pa_cons (pe_tup (pa_cons pe_str (pa_cons pe_int pa_nil))) (pa_cons (pe_tup (pa_cons pe_str (pa_cons pe_str pa_nil))) (pa_cons (pe_tup (pa_cons pe_str (pa_cons pe_non pa_nil))) pa_nil)))) (pv 5) (fun _ _ => rfl)) (nomark _))
          (pw_or1 (pt_not (pt_val (pe_call GS (hr.mono (by decide)) rfl gS FS.kp bS .nil pass0 (pa_cons (pv 1) (pa_cons (pv 2) (pa_cons (pe_ix (r := rIxL K) ix_list (pv 3) (pe_un un_neg pe_int) (fun _ _ => rfl)) pa_nil))))))))) (pss_one ps_never) pss_nil) ptl2, fun ll t e H2 he k2 S2 ot => ?_⟩
    refine ⟨_, rfl, (by show 2 ≤ sizeLine; decide), fun t1 n1 => ⟨(by show 2 ≤ sizeLine; decide), fun t2 n2 => ⟨(by show 2 ≤ sizeLine; decide), fun t3 n3 => ⟨(by show 3 ≤ sizeLine; decide), fun lx nlx => ?_⟩⟩⟩⟩
    have w1 := same_new (o := .tup [.str "told", .int 1]) n1
    have w2 := same_new (o := .tup [.str "question", .str "no one"]) n2
    have w3 := same_new (o := .tup [.str "key", .non]) n3
    have w4 := same_new (o := .lst [.ref t1, .ref t2, .ref t3]) nlx
    have o1 := w4 _ _ (w3 _ _ (w2 _ _ (upd_same (H := H2) (a := t1) (o := .tup [.str "told", .int 1]))))
    have o2 := w4 _ _ (w3 _ _ (upd_same (H := upd H2 t1 (.tup [.str "told", .int 1])) (a := t2) (o := .tup [.str "question", .str "no one"])))
    have o3 := w4 _ _ (upd_same (H := upd (upd H2 t1 (.tup [.str "told", .int 1])) t2 (.tup [.str "question", .str "no one"])) (a := t3) (o := .tup [.str "key", .non]))
    have s23 := ((w1.trans w2).trans w3).trans w4
    have olx := upd_same (H := upd (upd (upd H2 t1 (.tup [.str "told", .int 1])) t2 (.tup [.str "question", .str "no one"])) t3 (.tup [.str "key", .non])) (a := lx) (o := .lst [.ref t1, .ref t2, .ref t3])
    generalize upd (upd (upd (upd H2 t1 (.tup [.str "told", .int 1])) t2 (.tup [.str "question", .str "no one"])) t3 (.tup [.str "key", .non])) lx (.lst [.ref t1, .ref t2, .ref t3]) = H3 at s23 o1 o2 o3 olx
    have S3 := S2.same s23
    have k3 := k2.trans s23
    obtain ⟨te, x1, x2, at_, od, e1, e2, ote⟩ : ∃ (te : Addr) (x1 x2 : V), atI [V.ref t1, .ref t2, .ref t3] e = some (.ref te) ∧ H3 te = some (.tup [x1, x2]) ∧ E1 x1 x1 true ∧ E1 x2 x2 true ∧ dueE e = [x1, x2] := by
      rcases he with rfl | rfl | rfl
      · exact ⟨t1, _, _, rfl, o1, .same rfl, .same rfl, rfl⟩
      · exact ⟨t2, _, _, rfl, o2, .same rfl, .same rfl, rfl⟩
      · exact ⟨t3, _, _, rfl, o3, .same rfl, .same rfl, rfl⟩
    have ot3 := s23 _ _ ot
    rw [ote] at ot3
    refine ⟨_, rfl, lx, _, e, _, rfl, rfl, SqL.of olx, at_, t, te, _, _, _, _, _, _, rfl, rfl, SqT.of ot3, SqT.of od, e1, e2, _, rfl, iteF ?_⟩
    obtain ⟨xs, th, opa, oth, _⟩ := S3.last
    refine ⟨_, rfl, _, rfl, _, rfl, 1, rfl, pa, _, -1, _, rfl, rfl, SqL.of opa, atI_neg _ _, ?_⟩
    exact ⟨p, a, r, th, as, ns, here, tbl, rfl, S3.frow F k3, oth, fun H4 s4 => ⟨_, rfl, iteF (htl2 ll t e H4 (k3.trans s4) (S3.same s4))⟩⟩
  refine (fun ⟨t, h1, h2⟩ => ⟨t, h1.nox, h2⟩ : (∃ t, PSs X (defBody sTrialR) t ∧ t { nx := fun _ H' => Q .non H', rt := Q } (start NTR [.ref l, .ref p, .ref r, .ref pa, .ref la]) H) → _) ?_
  refine ⟨_, pss_cons (ps_asg (pe_tup (pa_cons (pe_call GR (hr.mono (by decide)) rfl gR FR.kp bR .nil pass0 (pa_cons (pv 0) (pa_cons pe_int pa_nil))) (pa_cons (pe_lst (pa_cons (pe_callTy call_list_of rfl L.M.nL boot_list' (pa_cons (pv 3) pa_nil)) (pa_cons (pe_callTy call_list_of rfl L.M.nL boot_list' (pa_cons (pv 4) pa_nil)) pa_nil))) pa_nil)))
        (pg_tup rfl (pgs_cons (pg_name (i := 5) nd rfl (Or.inr rfl)) (pgs_cons (pg_name (i := 6) nd rfl (Or.inr rfl)) pgs_nil))))
    (pss_cons (ps_set (i := 7) nd rfl (Or.inl rfl) (pe_tr (k := 13) (t := fun c' _ E => tLam1 base c' "_law_trial_right.<locals>.<lambda>.<locals>.<lambda>" C "trial" (TTrial C) E (tVar 1) fun _ _ E2 => tCall (spWork K T C CT CQ) [] E2 (tCons (tVar 0) (tCons (tVar 8) (tCons (tVar 2) (tCons (tVar 6) (tCons (tVar 5) tNil))))))
        L rfl rfl rfl (hr.mono (by decide)) (lamP_by (sc := defScope sTrialR) (by decide +kernel)) rfl (fun _ _ _ _ => rfl) (fun A outer s H E f' c' P2 hr2 =>
          pe_inner (X := X) L rfl FW gW GW (show ("_law_trial_right.<locals>.<lambda>" : Str) ++ ".<locals>." ++ "<lambda>" = "_law_trial_right.<locals>.<lambda>.<locals>.<lambda>" by decide +kernel) (.inr (.inr rfl)) (.inr (.inr rfl)) (.inl rfl) (.inr (.inr rfl)) (.inr (.inr rfl)) (.inr (.inr rfl)) rfl (lamP_by (by decide +kernel)) (hr2.mono (by decide)) rfl (fun _ _ _ _ _ => rfl) (fun env => by rfl))))
    ptl), ?_⟩
  refine ⟨_, rfl, l, ls, 3, N, rfl, S.sp, by omega, by decide, by decide, fun H1 e e0 e1 sp1 B1 => ?_⟩
  have S1 := S.drawn F B1 sp1
  have k1 : Same H0 H1 := F.keep k0 fun b o n z => B1 b o (fun y => n (by simp [fv5, y])) (fun y => n (by simp [fv5, y])) z
  have he : e = 0 ∨ e = 1 ∨ e = 2 := by omega
  obtain ⟨pts, opa, hpt⟩ := S1.past
  obtain ⟨lts, ola, hlt⟩ := S1.later
  refine ⟨_, rfl, pa, _, rfl, .inl (SqL.of opa), fun q1 nq1 => ?_⟩
  have w1 := same_new (o := .lst (pts.map V.ref)) nq1
  refine ⟨_, rfl, la, _, rfl, .inl (SqL.of (w1 _ _ ola)), fun q2 nq2 => ⟨(by show 2 ≤ sizeLine; decide), fun ll nll => ⟨(by show 2 ≤ sizeLine; decide), fun tt ntt => ?_⟩⟩⟩
  have w2 := same_new (o := .lst (lts.map V.ref)) nq2
  have w3 := same_new (o := .lst [.ref q1, .ref q2]) nll
  have w4 := same_new (o := .tup [.int e, .ref ll]) ntt
  have oq1 := w4 _ _ (w3 _ _ (w2 _ _ (upd_same (H := H1) (a := q1) (o := .lst (pts.map V.ref)))))
  have oq2 := w4 _ _ (w3 _ _ (upd_same (H := upd H1 q1 (.lst (pts.map V.ref))) (a := q2) (o := .lst (lts.map V.ref))))
  have oll := w4 _ _ (upd_same (H := upd (upd H1 q1 (.lst (pts.map V.ref))) q2 (.lst (lts.map V.ref))) (a := ll) (o := .lst [.ref q1, .ref q2]))
  have s12 := ((w1.trans w2).trans w3).trans w4
  have q12 : q1 ≠ q2 := fun z => by rw [← z, upd_same] at nq2; cases nq2
  have l1 : ll ≠ q1 := fun z => by rw [z, w2 _ _ upd_same] at nll; cases nll
  have l2 : ll ≠ q2 := fun z => by rw [z, upd_same] at nll; cases nll
  have fq2 : H1 q2 = none := w1.free nq2
  have fll : H1 ll = none := (w1.trans w2).free nll
  have f1 := S1.fresh nq1
  have f2 := S1.fresh fq2
  have f3 := S1.fresh fll
  have z1 : H0 q1 = none := k1.free nq1
  have z2 : H0 q2 = none := k1.free fq2
  refine ⟨tt, _, rfl, SqT.of upd_same, rfl, _, _, rfl, _, _, rfl, rfl, ?_⟩
  generalize upd (upd (upd (upd H1 q1 (.lst (pts.map V.ref))) q2 (.lst (lts.map V.ref))) ll (.lst [.ref q1, .ref q2])) tt (.tup [.int e, .ref ll]) = H2 at s12 oq1 oq2 oll
  have S2 := S1.same s12
  have k2 := k1.trans s12
  have hpt2 : TupsAt H2 pts (before ++ [here]) := hpt.keep fun b ys z => s12 _ _ z
  have hlt2 : TupsAt H2 lts fut := hlt.keep fun b ys z => s12 _ _ z
  clear w1 w2 w3 w4 nq2 nll ntt
  refine ⟨Pt, [_], T, hT, S2.tab, .inl CH, fun c' P2 H3 eN T3 TT hco E hE => ?_⟩
  have S3 := S2.ext eN T3
  have k3 := F.ext k2 eN
  obtain ⟨dx, tn, tp, tu, ts, us, hp3, _⟩ := id S3.fil
  refine ⟨_, rfl, p, dx, _, rfl, hp3, rfl, P2, [], (P2, [_]) :: T, List.mem_cons_self, TT (by simp), .inr ⟨_, hco⟩, fun c2 P3 H4 eN4 T4 _ hco4 => ?_⟩
  have S4 := S3.ext eN4 (T4.weak fun z hz => List.mem_cons_of_mem _ hz)
  have k4 := F.ext k3 eN4
  have eN24 := eN.trans eN4
  have oq1 := eN24 _ _ oq1 (fun _ z => by cases z)
  have oq2 := eN24 _ _ oq2 (fun _ z => by cases z)
  have oll := eN24 _ _ oll (fun _ z => by cases z)
  have hpt4 := ExtN.tups hpt2 eN24
  have hlt4 := ExtN.tups hlt2 eN24
  have hp4 := eN4 _ _ hp3 (fun _ z => by cases z)
  simp only [fv5, List.mem_cons, List.not_mem_nil, or_false, not_or] at f1 f2 f3
  have F4 := F.other (q1 := q1) (q2 := q2) k4 z1 z2 q12 f1.1 f1.2.1 f2.1 f2.2.1
  have S4' : S7 T C H4 l ls p q1 q2 a ns before here fut (N + 1) m := ⟨S4.sp, S4.fil, ⟨pts, oq1, hpt4⟩, ⟨lts, oq2, hlt4⟩, S4.tab, S4.good, S4.len⟩
  have ollc : cutH (fv5 l ls p q1 q2) H4 ll = some (.lst [.ref q1, .ref q2]) := cut_at (by simp [fv5, f3, l1, l2]) oll (fun _ z => by cases z)
  refine ⟨p, dx, _, _, _, _, rfl, hp4, fun E' Q' hE' hQ' => ?_⟩
  refine ⟨_, rfl, _, rfl, _, rfl, _, rfl, _, rfl, cutH (fv5 l ls p q1 q2) H4, l, ls, p, q1, q2, r, a, ll, as, ns, tbl, before, here, fut, N + 1, m, e, rfl, ollc, no1, F4, cut_same _ _, S4', by omega, by omega, he, fun H' b' h' f' k' S' => ?_⟩
  -- behind the trial
  have after : ∀ (dx' : Addr) (tn' tp' tu' : V) (H'' H5 : Hp), Same H' H'' → H'' p = some (.ins C dx' (fF (.ref a) tn' tp' tu')) → H5 p = some (.ins C dx' (fF (.ref a) (.ref tn) (.ref tp) (.ref tu))) → (∀ b o, b ≠ p → H'' b = some o → H5 b = some o) →
      Same H0 H5 ∧ S7 T C H5 l ls p pa la a ns before here fut (N + 7) m := fun dx' tn' tp' tu' H'' H5 s'' hp'' e5 k5 => by
    refine ⟨fun b o z => k5 _ _ (fun y => by rw [y, F.np] at z; cases z) (s'' _ _ (k' _ _ (F.sub k4 z1 z2 _ _ z))), ?_⟩
    have z := S4.back F (S'.same s'') ⟨fun y => f1.2.2.2.1 y.symm, fun y => f2.2.2.2.1 y.symm, fun y => f1.2.2.2.2 y.symm, fun y => f2.2.2.2.2 y.symm⟩ (fun b ys y => ⟨fun w => (by rw [w, oq1] at y; cases y), fun w => (by rw [w, oq2] at y; cases y)⟩) (k'.trans s'')
      (fun dx0 tn0 tp0 tu0 y => ⟨dx', by
        rw [hp4] at y
        cases y
        exact e5⟩) k5
    exact ⟨z.sp.mono (by omega), z.fil, z.past, z.later, z.tab, z.good, z.len⟩
  obtain ⟨dx', tn', tp', tu', ts', us', hp', _⟩ := id S'.fil
  refine ⟨fun ee => ?_, fun ee => ?_, fun ee d => ?_⟩
  · refine hQ' _ _ ⟨dx', .ref a, _, _, _, hp', fun H5 e5 k5 _ => ⟨(by show 2 ≤ sizeLine; decide), fun t nt => ?_⟩⟩
    obtain ⟨k6, S6⟩ := after _ _ _ _ H' H5 (Same.refl _) hp' e5 k5
    have st := same_new (o := .tup [.str "told", .int 1]) nt
    refine htl ll t e _ he (k6.trans st) (S6.same st) ?_
    rw [ee]
    exact upd_same
  · intro d H'' s'' nd'' od''
    refine hE' _ _ _ ⟨dx', .ref a, _, _, _, s'' _ _ hp', fun H5 e5 k5 _ => hE _ _ _ (.inl ⟨⟨"NoQuestion", CQ, "question", "name"⟩, d, [("name", .str "no one")], .str "no one", by simp [clz3], rfl, rfl, k5 _ _ (fun y => by rw [y, s'' _ _ hp'] at od''; cases od'') od'', rfl, fun t nt => ?_⟩)⟩
    obtain ⟨k6, S6⟩ := after _ _ _ _ H'' H5 s'' (s'' _ _ hp') e5 k5
    have st := same_new (o := .tup [.str "question", .str "no one"]) nt
    refine htl ll t e _ he (k6.trans st) (S6.same st) ?_
    rw [ee]
    exact upd_same
  · refine hE' _ _ _ ⟨dx', .ref a, _, _, _, hp', fun H5 e5 k5 _ => hE _ _ _ (.inr ⟨rfl, fun t nt => ?_⟩)⟩
    obtain ⟨k6, S6⟩ := after _ _ _ _ H' H5 (Same.refl _) hp' e5 k5
    have st := same_new (o := .tup [.str "key", .non]) nt
    refine htl ll t e _ he (k6.trans st) (S6.same st) ?_
    rw [ee]
    exact upd_same
end
end L2.TB
/-! the law: odd things -/
namespace L2.TB
open PySem PySem.Spec PyProof.Rows LM LamX
def forBody : Stmt → List Stmt
  | .For _ _ b _ _ => b
  | _ => []
abbrev nthS (b : List Stmt) (i : Nat) : Stmt := b.getD i (.Pass ⟨0, 0, 0, 0⟩)
abbrev bTurn : List Stmt := forBody (nthS (defBody sLaw) 1)
abbrev bK : List Stmt := forBody (nthS bTurn 2)
abbrev NLw : List Str := ["script", "stream", "turn", "rows", "file", "past", "later", "k", "odd", "twin", "mine", "rest", "side", "here"]
theorem scLaw : FnScope NLw ["script"] (defScope sLaw) := ⟨rfl, rfl, rfl, by decide +kernel, rfl, by decide +kernel, by decide +kernel⟩
abbrev cxLaw (P : Program) (w : World) (K : PySem.W.Frag) (mg : Str → Option Value) (base : Heap) (f c : Addr) (A : Around) (outer : List Env) (s : Shared) (H : Hp) (E : XK) : Cx := (cxOf CX0 P w K mg base NLw "law" (defScope sLaw) f (.ref c) A outer s H E).nox
/-- what the law knows -/
structure LwG (P : Program) (w : World) (K : PySem.W.Frag) (mg : Str → Option Value) (base : Heap) (C CT CQ CK CN : Addr) (T : Tau) (c Pl : Addr) : Prop where
  L : LwF P w K mg base C CT CQ CK CN
  deed : ∃ f fd, mg "_law_deed" = some (.ref f) ∧ Fun K "_law_deed" "_law_deed" sDeed f fd ∧ FnOk P w K mg base CX0 10 f fd ["stream", "file", "rows", "past", "later"] (spDeed K T C CT)
  stands : ∃ f fd, mg "_law_stands" = some (.ref f) ∧ Fun K "_law_stands" "_law_stands" sStands f fd ∧ FnOk P w K mg base CX0 8 f fd ["file", "rows", "here"] (spStands K C CT)
  trialR : ∃ f fd, mg "_law_trial_right" = some (.ref f) ∧ Fun K "_law_trial_right" "_law_trial_right" sTrialR f fd ∧ FnOk P w K mg base CX0 16 f fd ["stream", "file", "rows", "past", "later"] (spTR K T C CT)
  nR : mg "range" = none
  CH : PySem.W.CodeHd base c Pl
  hT : (Pl, [("law.<locals>.<lambda>" : Str)]) ∈ T
/-- _law_tried(lambda: ..) != (word, odd) -/
theorem odd_read {K : PySem.W.Frag} {base : Heap} {CQ CK CN P c : Addr} {q : Str} {T : Tau} {cz : Clz} {v : V} {j : Nat} {σ : L2.St} {H : Hp} {B : Bool → Hp → Prop} {t : Addr → Addr → XK → TE} (hT : (P, [q]) ∈ T) (CH : PySem.W.CodeHd base c P) (tb : TabT T H) (hc : cz ∈ clz3 ⟨CQ, CK, CN⟩) (hv : σ[j]? = some (some v)) (ev : E1 v v true)
    (call : ∀ (c' P2 : Addr) (H1 : Hp) (E : XK) (R : VK), ExtN H H1 → TabT T H1 → Flies cz.C cz.fld v H1 E → t c' P2 E σ H1 R) (next : ∀ H', ExtN H H' → TabT T H' → B false H') :
    tTest (tOp (rPair K not) (tLam0 base c q (TTr (clz3 ⟨CQ, CK, CN⟩)) t) (tTup (tCons (tC (.str cz.tag)) (tCons (tVar j) tNil)))) σ H B := by
  refine ⟨P, [], T, hT, tb, .inl CH, fun c' P2 H1 eN T1 _ hco E hE => call c' P2 H1 E _ eN T1 (tried_fly hc hE fun H2 u s2 ou => ?_)⟩
  refine ⟨_, hv, (by show 2 ≤ sizeLine; decide), fun y ny => ?_⟩
  have sy := same_new (o := .tup [.str cz.tag, v]) ny
  have s1 := s2.trans sy
  exact ⟨u, y, _, _, _, _, _, _, rfl, rfl, SqT.of (sy _ _ ou), SqT.of upd_same, .same rfl, ev, _, rfl, next _ (eN.trans (ExtN.of s1)) (T1.same s1)⟩
section
variable {P : Program} {w : World} {K : PySem.W.Frag} {mg : Str → Option Value} {base : Heap} {C CT CQ CK CN c Pl : Addr} {T : Tau}
theorem law_odd (G : LwG P w K mg base C CT CQ CK CN T c Pl) {f : Addr} {A : Around} {outer : List Env} {s : Shared} {Hs : Hp} {E : XK} (hr : Room 16 (cxLaw P w K mg base f c A outer s Hs E).A) : ∃ t, PS (cxLaw P w K mg base f c A outer s Hs E) (nthS bK 1) t ∧
    ∀ (D : Ends) (H0 H : Hp) (l ls p pa la r a : Addr) (as : List Addr) (ns : List Str) (tbl : List (List Int)) (before : List (List Str)) (here : List Str) (fut : List (List Str)) (N : Int) (m : Nat) (s0 s1 s2 s3 s7 s8 s9 s10 s11 s12 s13 : Option V),
      ("no one" : Str) ∉ ns → Fix K CT H0 l ls p pa la r a as ns tbl → Same H0 H → S7 T C H l ls p pa la a ns before here fut N m → m < 500 →
      (∀ H' s8', Same H0 H' → S7 T C H' l ls p pa la a ns before here fut N m → D.nx [s0, s1, s2, s3, some (.ref p), some (.ref pa), some (.ref la), s7, s8', s9, s10, s11, s12, s13] H') →
      t D [s0, s1, s2, s3, some (.ref p), some (.ref pa), some (.ref la), s7, s8, s9, s10, s11, s12, s13] H := by
  have L := G.L
  obtain ⟨fL, fdL, FL, mL, GL⟩ := L.learn
  have bL := FL.binds (ps := ["self", "name"]) fun _ _ _ _ _ _ us hl => match us, hl with | [_, _], _ => rfl
  obtain ⟨fF, fdF, FF, mF, GF⟩ := L.forget
  have bF := FF.binds (ps := ["self", "name"]) fun _ _ _ _ _ _ us hl => match us, hl with | [_, _], _ => rfl
  obtain ⟨fT, fdT, FT, mT, _, GT⟩ := L.tells
  have bT := FT.binds (ps := ["self", "name"]) fun _ _ _ _ _ _ us hl => match us, hl with | [_, _], _ => rfl
  have nd := scLaw.nd
  have hu : (cxLaw P w K mg base f c A outer s Hs E).A.units < cLine := by
    have z : (cxLaw P w K mg base f c A outer s Hs E).A.units + 64 < cLine := hr.units
    omega
  refine ⟨_, ps_for PassesOwn.never rfl (pi_list (pe_lst (pa_cons pe_non (pa_cons pe_int (pa_cons pe_str (pa_cons (pe_lst (pa_cons pe_str pa_nil)) (pa_cons pe_dnewK (pa_cons pe_bl pa_nil)))))))) (pg_name (i := 8) nd rfl (Or.inr rfl))
      (pss_cons (ps_if (pt_cmpR (op_neT hu) (pe_tr (k := 4) (q := "law.<locals>.<lambda>") L rfl rfl rfl (hr.mono (by decide)) (lamP_by (sc := defScope sLaw) (by decide +kernel)) rfl (fun _ _ _ _ => rfl) (fun A outer s H E f' c' P2 hr2 => pe_meth (pv 4) L.T.cl mL (fnN GL) hr2 bL .nil (passes (takes_of rfl rfl rfl rfl)) (pa_cons (pv 8) pa_nil))) (pe_tup (pa_cons pe_str (pa_cons (pv 8) pa_nil))) (nomark _)) (pss_one ps_never) pss_nil)
      (pss_cons (ps_if (pt_cmpR (op_neT hu) (pe_tr (k := 4) (q := "law.<locals>.<lambda>") L rfl rfl rfl (hr.mono (by decide)) (lamP_by (sc := defScope sLaw) (by decide +kernel)) rfl (fun _ _ _ _ => rfl) (fun A outer s H E f' c' P2 hr2 => pe_meth (pv 4) L.T.cl mF (fnN GF) hr2 bF .nil (passes (takes_of rfl rfl rfl rfl)) (pa_cons (pv 8) pa_nil))) (pe_tup (pa_cons pe_str (pa_cons (pv 8) pa_nil))) (nomark _)) (pss_one ps_never) pss_nil)
      (pss_one (ps_if (pt_cmpR (op_neT hu) (pe_tr (k := 6) (q := "law.<locals>.<lambda>") L rfl rfl rfl (hr.mono (by decide)) (lamP_by (sc := defScope sLaw) (by decide +kernel)) rfl (fun _ _ _ _ => rfl) (fun A outer s H E f' c' P2 hr2 => pe_meth (pv 4) L.T.cl mT GT hr2 bT .nil (passes (takes_of rfl rfl rfl rfl)) (pa_cons (pv 8) pa_nil))) (pe_tup (pa_cons pe_str (pa_cons (pv 8) pa_nil))) (nomark _)) (pss_one ps_never) pss_nil)))), ?_⟩
  intro D H0 H l ls p pa la r a as ns tbl before here fut N m s0 s1 s2 s3 s7 s8 s9 s10 s11 s12 s13 no1 F k0 S hm go
  refine ⟨(by show 1 ≤ sizeLine; decide), fun o1 n1 d nd1 => ⟨(by show 6 ≤ sizeLine; decide), fun Lx nL => ?_⟩⟩
  have w1 := same_new (o := .lst [.str "a"]) n1
  have w2 := same_new (o := .dK []) nd1
  have w3 := same_new (o := .lst [.non, .int 5, .str "no one", .ref o1, .ref d, .bl true]) nL
  have oo1 := w3 _ _ (w2 _ _ (upd_same (H := H) (a := o1) (o := .lst [.str "a"])))
  have od := w3 _ _ (upd_same (H := upd H o1 (.lst [.str "a"])) (a := d) (o := .dK []))
  have oL := upd_same (H := upd (upd H o1 (.lst [.str "a"])) d (.dK [])) (a := Lx) (o := .lst [.non, .int 5, .str "no one", .ref o1, .ref d, .bl true])
  have s01 := (w1.trans w2).trans w3
  generalize upd (upd (upd H o1 (.lst [.str "a"])) d (.dK [])) Lx (.lst [.non, .int 5, .str "no one", .ref o1, .ref d, .bl true]) = HL at s01 oo1 od oL
  have SL := S.same s01
  have kL := k0.trans s01
  have odd : ∀ x ∈ [V.non, .int 5, .str "no one", .ref o1, .ref d, .bl true], E1 x x true ∧ ∀ H', ExtN HL H' → ∀ ms : List Str, (∀ y ∈ ms, y ∈ ns) → BadAsk K H' ms x := fun x hx => by
    simp only [List.mem_cons, List.not_mem_nil, or_false] at hx
    rcases hx with rfl | rfl | rfl | rfl | rfl | rfl
    · exact ⟨.same rfl, fun H' _ _ _ => .inr ⟨_, .base .non, by decide +kernel⟩⟩
    · exact ⟨.same rfl, fun H' _ _ _ => .inr ⟨_, .base (.int 5), by decide +kernel⟩⟩
    · exact ⟨.same rfl, fun H' _ ms sub => .inl ⟨_, rfl, fun z => no1 (sub _ z)⟩⟩
    · exact ⟨.ref _, fun H' e _ _ => .inr ⟨_, .base (.lst (e _ _ oo1 (fun _ z => by cases z))), by decide +kernel⟩⟩
    · exact ⟨.ref _, fun H' e _ _ => .inr ⟨_, .base (.dK (e _ _ od (fun _ z => by cases z))), by decide +kernel⟩⟩
    · exact ⟨.same rfl, fun H' _ _ _ => .inr ⟨_, .base (.bl true), by decide +kernel⟩⟩
  refine ⟨Lx, rfl, ⟨_, SqL.of oL⟩, for_list (xs := [V.non, .int 5, .str "no one", .ref o1, .ref d, .bl true]) (fun i σ H' => ExtN HL H' ∧ TabT T H' ∧ ∃ s8, σ = [s0, s1, s2, s3, some (.ref p), some (.ref pa), some (.ref la), s7, s8, s9, s10, s11, s12, s13])
    ⟨ExtN.refl _, SL.tab, _, rfl⟩ (fun i σ H' _ h => SqL.of (h.1 _ _ oL (fun _ z => by cases z))) ?_ ?_⟩
  · rintro i x σ H' ex ⟨e, TH, s8, rfl⟩
    obtain ⟨ev, bad⟩ := odd x (List.mem_of_getElem? ex)
    refine odd_read (CQ := CQ) (CK := CK) (CN := CN) (cz := ⟨"NoQuestion", CQ, "question", "name"⟩) (v := x) G.hT G.CH TH (by simp [clz3]) rfl ev (fun c' P2 H1 E R e1 T1 fl => ?_) fun H2 e2 T2 => iteF ?_
    · have e01 := e.trans e1
      have S1 := SL.ext e01 T1
      have k1 := F.ext kL e01
      obtain ⟨dx, tn, tp, tu, ts, us, hp, hn, ht, hts, hu', hus⟩ := S1.fil
      have lts : ts.length = before.length := Paired.length hts
      have ln := S1.len
      exact ⟨_, rfl, p, dx, _, rfl, hp, rfl, _, rfl, p, dx, a, tn, tp, _, x, ns, here, tbl, _, rfl, hp, F.tab.same k1, hn, (S1.ftab F k1).short, ht, by rw [List.length_map]; omega, .inl ⟨bad H1 e01 ns (fun _ z => z), fl⟩⟩
    refine odd_read (CQ := CQ) (CK := CK) (CN := CN) (cz := ⟨"NotKnown", CN, "not known", "name"⟩) (v := x) G.hT G.CH T2 (by simp [clz3]) rfl ev (fun c' P2 H1 E R e1 T1 fl => ?_) fun H3 e3 T3 => iteF ?_
    · have e01 := (e.trans e2).trans e1
      have S1 := SL.ext e01 T1
      have k1 := F.ext kL e01
      obtain ⟨dx, tn, tp, tu, ts, us, hp, hn, ht, hts, hu', hus⟩ := S1.fil
      have lts : ts.length = before.length := Paired.length hts
      have ln := S1.len
      exact ⟨_, rfl, p, dx, _, rfl, hp, rfl, _, rfl, p, dx, a, tn, tp, _, x, here, _, rfl, hp, hn, (S1.ftab F k1).short, ht, by rw [List.length_map]; omega, .inl ⟨bad H1 e01 here (S1.good here (by simp)).2, fl⟩⟩
    refine odd_read (CQ := CQ) (CK := CK) (CN := CN) (cz := ⟨"NoQuestion", CQ, "question", "name"⟩) (v := x) G.hT G.CH T3 (by simp [clz3]) rfl ev (fun c' P2 H1 E R e1 T1 fl => ?_) fun H4 e4 T4 => iteF ?_
    · have e01 := ((e.trans e2).trans e3).trans e1
      have S1 := SL.ext e01 T1
      have k1 := F.ext kL e01
      obtain ⟨dx, tn, tp, tu, ts, us, hp, hn, ht, hts, hu', hus⟩ := S1.fil
      exact ⟨_, rfl, p, dx, _, rfl, hp, rfl, _, rfl, p, a, ns, here, x, tbl, rfl, S1.ftab F k1, bad H1 e01 ns (fun _ z => z), fl⟩
    exact ⟨((e.trans e2).trans e3).trans e4, T4, _, rfl⟩
  · rintro σ H' ⟨e, TH, s8, rfl⟩
    exact go H' s8 (F.ext kL e) (SL.ext e TH)
end
end L2.TB
/-! the law: a twin; the twelve deeds -/
namespace L2.TB
open PySem PySem.Spec PyProof.Rows LM LamX
section
variable {T : Tau} {K : PySem.W.Frag} {C CT l ls p pa la p' pa' la' r a : Addr} {H0 H H' : Hp} {as : List Addr} {ns : List Str} {tbl : List (List Int)} {before fut : List (List Str)} {here : List Str} {N N' : Int} {m m' : Nat}
theorem Fix.cut (F : Fix K CT H0 l ls p pa la r a as ns tbl) (k : Same H0 H) (n0 : H0 p' = none) (n1 : H0 pa' = none) (n2 : H0 la' = none) : Same H0 (cutH (fv5 l ls p' pa' la') H) := same_cut k F.nt fun b z => by
  simp only [fv5, List.mem_cons, List.not_mem_nil, or_false] at z
  rcases z with z | z | z | z | z <;> rw [z]
  · exact F.nl
  · exact F.nls
  · exact n0
  · exact n1
  · exact n2
theorem Fix.twin (F : Fix K CT H0 l ls p pa la r a as ns tbl) (k : Same H0 H) (n0 : H0 p' = none) (n1 : H0 pa' = none) (n2 : H0 la' = none) (d1 : pa' ≠ la') (d2 : pa' ≠ l) (d3 : pa' ≠ ls) (d4 : la' ≠ l) (d5 : la' ≠ ls) : Fix K CT (cutH (fv5 l ls p' pa' la') H) l ls p' pa' la' r a as ns tbl := by
  have s := F.cut k n0 n1 n2
  exact ⟨cut_in (by simp [fv5]), cut_in (by simp [fv5]), cut_in (by simp [fv5]), cut_in (by simp [fv5]), cut_in (by simp [fv5]), cut_nt _ _, s _ _ F.r, F.rows.same s, F.tab.same s, F.tne, F.nne, F.ndn, F.s1, F.s2, d1, d2, d3, d4, d5⟩
/-- a file beside another -/
theorem S7.beside (S : S7 T C H l ls p pa la a ns before here fut N m) {b0 f0 b1 f1 : List (List Str)} {h0 h1 : List Str} {N0 : Int} {m0 : Nat} (S0 : S7 T C H l ls p' pa' la' a ns b0 h0 f0 N0 m0) (S' : S7 T C H' l ls p' pa' la' a ns b1 h1 f1 N' m') (d0 : p ∉ fv5 l ls p' pa' la') (d1 : pa ∉ fv5 l ls p' pa' la') (d2 : la ∉ fv5 l ls p' pa' la')
    (s : Same (cutH (fv5 l ls p' pa' la') H) H') : S7 T C H' l ls p pa la a ns before here fut N' m := by
  have tup : ∀ b ys, H b = some (.tup ys) → H' b = some (.tup ys) := fun b ys e => s _ _ (cut_at (S0.ne e (fun _ z => by cases z) (fun _ _ _ z => by cases z)) e (fun _ z => by cases z))
  obtain ⟨dx, tn, tp, tu, ts, us, e1, e2, e3, e4, e5, e6⟩ := S.fil
  obtain ⟨t1, o1, o2⟩ := S.past
  obtain ⟨t2, o3, o4⟩ := S.later
  exact ⟨S'.sp, ⟨dx, tn, tp, tu, ts, us, s _ _ (cut_at d0 e1 (fun _ z => by cases z)), tup _ _ e2, tup _ _ e3, e4.keep tup, tup _ _ e5, e6.keep tup⟩, ⟨t1, s _ _ (cut_at d1 o1 (fun _ z => by cases z)), o2.keep tup⟩, ⟨t2, s _ _ (cut_at d2 o3 (fun _ z => by cases z)), o4.keep tup⟩, S'.tab, S.good, S.len⟩
end
section
variable {P : Program} {w : World} {K : PySem.W.Frag} {mg : Str → Option Value} {base : Heap} {C CT CQ CK CN c Pl : Addr} {T : Tau}
theorem law_twin (G : LwG P w K mg base C CT CQ CK CN T c Pl) {f : Addr} {A : Around} {outer : List Env} {s : Shared} {Hs : Hp} {E : XK} (hr : Room 16 (cxLaw P w K mg base f c A outer s Hs E).A) : ∃ t, PS (cxLaw P w K mg base f c A outer s Hs E) (nthS bK 3) t ∧
    ∀ (D : Ends) (H0 H : Hp) (l ls p pa la r a : Addr) (as : List Addr) (ns : List Str) (tbl : List (List Int)) (before : List (List Str)) (here : List Str) (fut : List (List Str)) (N : Int) (m : Nat) (s0 s2 s7 s8 s9 s10 s11 s12 s13 : Option V),
      Fix K CT H0 l ls p pa la r a as ns tbl → Same H0 H → S7 T C H l ls p pa la a ns before here fut N m → N ≤ 500000 → m < 300 →
      (∀ H' s9' s10' s11' s12', Same H0 H' → S7 T C H' l ls p pa la a ns before here fut (N + 5) m → D.nx [s0, some (.ref l), s2, some (.ref r), some (.ref p), some (.ref pa), some (.ref la), s7, s8, s9', s10', s11', s12', s13] H') →
      t D [s0, some (.ref l), s2, some (.ref r), some (.ref p), some (.ref pa), some (.ref la), s7, s8, s9, s10, s11, s12, s13] H := by
  have L := G.L
  obtain ⟨fD, fdD, gD, FD, GD⟩ := G.deed
  have bD := FD.binds (ps := ["stream", "file", "rows", "past", "later"]) fun _ _ _ _ _ _ us hl => match us, hl with | [_, _, _, _, _], _ => rfl
  obtain ⟨fS, fdS, gS, FS, GS⟩ := G.stands
  have bS := FS.binds (ps := ["file", "rows", "here"]) fun _ _ _ _ _ _ us hl => match us, hl with | [_, _, _], _ => rfl
  obtain ⟨fR, fdR, gR, FR, GR⟩ := L.draw
  have bR := FR.binds (ps := ["stream", "many"]) fun _ _ _ _ _ _ us hl => match us, hl with | [_, _], _ => rfl
  obtain ⟨fC, fdC, FC, mC, GC⟩ := L.copy
  have bC := FC.binds (ps := NUn) fun _ _ _ _ _ _ us hl => match us, hl with | [_], _ => rfl
  have nd := scLaw.nd
  refine ⟨_, ps_if (pt_cmpR op_eq (pe_call GR (hr.mono (by decide)) rfl gR FR.kp bR .nil pass0 (pa_cons (pv 1) (pa_cons pe_int pa_nil))) pe_int (nomark _))
      (pss_cons (ps_par3 (i := 9) (j := 10) (l := 11) rfl nd rfl rfl rfl (by decide) (by decide) (by decide) rfl rfl rfl (pa_cons (pe_meth0 (pv 4) L.T.cl mC GC (hr.mono (by decide)) bC .nil pass0) (pa_cons (pe_callTy call_list_of rfl L.M.nL boot_list' (pa_cons (pv 5) pa_nil)) (pa_cons (pe_callTy call_list_of rfl L.M.nL boot_list' (pa_cons (pv 6) pa_nil)) pa_nil))) rfl)
      (pss_cons (ps_for PassesOwn.never rfl (pi_range1 rfl G.nR (pa_cons pe_int pa_nil)) (pg_name (i := 12) nd rfl (Or.inl rfl))
        (pss_one (ps_if (PW.pt (pw_or (pt_not (pt_val (pe_call GD (hr.mono (by decide)) rfl gD FD.kp bD .nil pass0 (pa_cons (pv 1) (pa_cons (pv 9) (pa_cons (pv 3) (pa_cons (pv 10) (pa_cons (pv 11) pa_nil))))))))
          (pw_or1 (pt_not (pt_val (pe_call GS (hr.mono (by decide)) rfl gS FS.kp bS .nil pass0 (pa_cons (pv 9) (pa_cons (pv 3) (pa_cons (pe_ix (r := rIxL K) ix_list (pv 10) (pe_un un_neg pe_int) (fun _ _ => rfl)) pa_nil))))))))) (pss_one ps_never) pss_nil)))
      (pss_one (ps_if (pt_not (pt_val (pe_call GS (hr.mono (by decide)) rfl gS FS.kp bS .nil pass0 (pa_cons (pv 4) (pa_cons (pv 3) (pa_cons (pe_ix (r := rIxL K) ix_list (pv 5) (pe_un un_neg pe_int) (fun _ _ => rfl)) pa_nil)))))) (pss_one ps_never) pss_nil)))) pss_nil, ?_⟩
  intro D H0 H l ls p pa la r a as ns tbl before here fut N m s0 s2 s7 s8 s9 s10 s11 s12 s13 F k0 S hN hm go
  refine ⟨_, rfl, l, ls, 4, N, rfl, S.sp, by omega, by decide, by decide, fun H1 d d0 d1 sp1 B1 => ?_⟩
  have S1 := S.drawn F B1 sp1
  have k1 : Same H0 H1 := F.keep k0 fun b o n z => B1 b o (fun y => n (by simp [fv5, y])) (fun y => n (by simp [fv5, y])) z
  refine ⟨rfl, _, rfl, ?_⟩
  rw [dec_int2]
  by_cases e0 : d = 0
  · rw [decide_eq_true e0]
    refine iteT ?_
    obtain ⟨dx, tn, tp, tu, ts, us, hp, hn, ht, hts, hu', hus⟩ := S1.fil
    refine ⟨_, rfl, p, dx, _, rfl, hp, rfl, p, dx, _, _, _, _, rfl, hp, fun H2 p' dx' np' hp2 s2' => ?_⟩
    have S2 := S1.same s2'
    have k2 := k1.trans s2'
    have fp' := S1.fresh np'
    obtain ⟨pts, opa, hpt⟩ := S2.past
    obtain ⟨lts, ola, hlt⟩ := S2.later
    refine ⟨_, rfl, pa, _, rfl, .inl (SqL.of opa), fun q1 nq1 => ?_⟩
    have w1 := same_new (o := .lst (pts.map V.ref)) nq1
    refine ⟨_, rfl, la, _, rfl, .inl (SqL.of (w1 _ _ ola)), fun q2 nq2 => ⟨_, _, _, rfl, ?_⟩⟩
    have w2 := same_new (o := .lst (lts.map V.ref)) nq2
    have oq1 := w2 _ _ (upd_same (H := H2) (a := q1) (o := .lst (pts.map V.ref)))
    have oq2 := upd_same (H := upd H2 q1 (.lst (pts.map V.ref))) (a := q2) (o := .lst (lts.map V.ref))
    have s23 := w1.trans w2
    have q12 : q1 ≠ q2 := fun z => by rw [← z, upd_same] at nq2; cases nq2
    have fq2 : H2 q2 = none := w1.free nq2
    have f1 := S2.fresh nq1
    have f2 := S2.fresh fq2
    have z0 : H0 p' = none := k1.free np'
    have z1 : H0 q1 = none := k2.free nq1
    have z2 : H0 q2 = none := k2.free fq2
    generalize upd (upd H2 q1 (.lst (pts.map V.ref))) q2 (.lst (lts.map V.ref)) = H3 at s23 oq1 oq2
    have S3 := S2.same s23
    have k3 := k2.trans s23
    have t3 : ∀ b ys, H2 b = some (.tup ys) → H3 b = some (.tup ys) := fun b ys z => s23 _ _ z
    have t13 : ∀ b ys, H1 b = some (.tup ys) → H3 b = some (.tup ys) := fun b ys z => s23 _ _ (s2' _ _ z)
    have hp3 := s23 _ _ hp2
    have q1p : q1 ≠ p' := fun z => by rw [z, hp3] at oq1; cases oq1
    have q2p : q2 ≠ p' := fun z => by rw [z, hp3] at oq2; cases oq2
    simp only [fv5, List.mem_cons, List.not_mem_nil, or_false, not_or] at f1 f2 fp'
    have F' := F.twin k3 z0 z1 z2 q12 f1.1 f1.2.1 f2.1 f2.2.1
    have S3' : S7 T C H3 l ls p' q1 q2 a ns before here fut (N + 1) m := ⟨S3.sp, ⟨dx', tn, tp, tu, ts, us, hp3, t13 _ _ hn, t13 _ _ ht, hts.keep t13, t13 _ _ hu', hus.keep t13⟩, ⟨pts, oq1, hpt.keep t3⟩, ⟨lts, oq2, hlt.keep t3⟩, S3.tab, S3.good, S3.len⟩
    have dp : p ∉ fv5 l ls p' q1 q2 := fun z => by
      simp only [fv5, List.mem_cons, List.not_mem_nil, or_false] at z
      obtain ⟨cs, g, kk, mm, Z⟩ := S1.sp
      rcases z with z | z | z | z | z
      · have y := Z.o; rw [← z, hp] at y; cases y
      · have y := Z.c; rw [← z, hp] at y; cases y
      · exact fp'.2.2.1 z.symm
      · exact f1.2.2.1 z.symm
      · exact f2.2.2.1 z.symm
    have dpa : pa ∉ fv5 l ls p' q1 q2 := fun z => by
      simp only [fv5, List.mem_cons, List.not_mem_nil, or_false] at z
      rcases z with z | z | z | z | z
      · exact F.d2 z
      · exact F.d3 z
      · exact fp'.2.2.2.1 z.symm
      · exact f1.2.2.2.1 z.symm
      · exact f2.2.2.2.1 z.symm
    have dla : la ∉ fv5 l ls p' q1 q2 := fun z => by
      simp only [fv5, List.mem_cons, List.not_mem_nil, or_false] at z
      rcases z with z | z | z | z | z
      · exact F.d4 z
      · exact F.d5 z
      · exact fp'.2.2.2.2 z.symm
      · exact f1.2.2.2.2 z.symm
      · exact f2.2.2.2.2 z.symm
    refine ⟨2, rfl, by omega, by omega, for_range (n := Int.toNat 2) (fun i σ H' => ∃ b' h' f', Same (cutH (fv5 l ls p' q1 q2) H3) H' ∧ S7 T C H' l ls p' q1 q2 a ns b' h' f' (N + 1 + 2 * i) (m + i) ∧ ∃ s12, σ = [s0, some (.ref l), s2, some (.ref r), some (.ref p), some (.ref pa), some (.ref la), s7, s8, some (.ref p'), some (.ref q1), some (.ref q2), s12, s13])
      ⟨before, here, fut, cut_same _ _, by simpa using S3', _, rfl⟩ ?_ ?_⟩
    · rintro i σ H4 hi ⟨b', h', f', k4, S4, s12, rfl⟩
      have hi : i < 2 := hi
      refine ⟨_, rfl, _, rfl, _, rfl, _, rfl, _, rfl, cutH (fv5 l ls p' q1 q2) H3, l, ls, p', q1, q2, r, a, as, ns, tbl, b', h', f', _, _, rfl, F', k4, S4, by omega, by omega, fun H5 b5 h5 f5 k5 S5 => ⟨_, rfl, iteF ?_⟩⟩
      obtain ⟨xs, th, opa, oth, _⟩ := S5.last
      refine ⟨_, rfl, _, rfl, _, rfl, 1, rfl, q1, _, -1, _, rfl, rfl, SqL.of opa, atI_neg _ _, ?_⟩
      refine ⟨p', a, r, th, as, ns, h5, tbl, rfl, S5.frow F' k5, oth, fun H6 s6 => ⟨_, rfl, iteF ?_⟩⟩
      have z := S5.same s6
      exact ⟨b5, h5, f5, k5.trans s6, ⟨z.sp.mono (by omega), z.fil, z.past, z.later, z.tab, z.good, by have := z.len; omega⟩, _, rfl⟩
    · rintro σ H4 ⟨b', h', f', k4, S4, s12, rfl⟩
      have S4' := S3.beside S3' S4 dp dpa dla k4
      have S4' : S7 T C H4 l ls p pa la a ns before here fut (N + 5) m := ⟨S4'.sp.mono (by show N + 1 + 2 * ((2 : Nat) : Int) ≤ N + 5; omega), S4'.fil, S4'.past, S4'.later, S4'.tab, S4'.good, S4'.len⟩
      have k4' : Same H0 H4 := (F.cut k3 z0 z1 z2).trans k4
      obtain ⟨xs, th, opa, oth, _⟩ := S4'.last
      refine ⟨_, rfl, _, rfl, _, rfl, 1, rfl, pa, _, -1, _, rfl, rfl, SqL.of opa, atI_neg _ _, ?_⟩
      exact ⟨p, a, r, th, as, ns, here, tbl, rfl, S4'.frow F k4', oth, fun H5 s5 => ⟨_, rfl, iteF (go H5 _ _ _ _ (k4'.trans s5) (S4'.same s5))⟩⟩
  · rw [decide_eq_false e0]
    refine iteF (go H1 _ _ _ _ k1 ⟨S1.sp.mono (by omega), S1.fil, S1.past, S1.later, S1.tab, S1.good, S1.len⟩)
/-- the twelve deeds -/
theorem law_k (G : LwG P w K mg base C CT CQ CK CN T c Pl) {f : Addr} {A : Around} {outer : List Env} {s : Shared} {Hs : Hp} {E : XK} (hr : Room 16 (cxLaw P w K mg base f c A outer s Hs E).A) : ∃ t, PS (cxLaw P w K mg base f c A outer s Hs E) (nthS bTurn 2) t ∧
    ∀ (D : Ends) (H0 H : Hp) (l ls p pa la r a : Addr) (as : List Addr) (ns : List Str) (tbl : List (List Int)) (before : List (List Str)) (here : List Str) (fut : List (List Str)) (N : Int) (m : Nat) (s0 s2 s7 s8 s9 s10 s11 s12 s13 : Option V),
      ("no one" : Str) ∉ ns → Fix K CT H0 l ls p pa la r a as ns tbl → Same H0 H → S7 T C H l ls p pa la a ns before here fut N m → N ≤ 400000 → m < 200 →
      (∀ H' s7' s8' s9' s10' s11' s12' before' here' fut', Same H0 H' → S7 T C H' l ls p pa la a ns before' here' fut' (N + 180) (m + 12) → D.nx [s0, some (.ref l), s2, some (.ref r), some (.ref p), some (.ref pa), some (.ref la), s7', s8', s9', s10', s11', s12', s13] H') →
      t D [s0, some (.ref l), s2, some (.ref r), some (.ref p), some (.ref pa), some (.ref la), s7, s8, s9, s10, s11, s12, s13] H := by
  have L := G.L
  obtain ⟨fD, fdD, gD, FD, GD⟩ := G.deed
  have bD := FD.binds (ps := ["stream", "file", "rows", "past", "later"]) fun _ _ _ _ _ _ us hl => match us, hl with | [_, _, _, _, _], _ => rfl
  obtain ⟨fS, fdS, gS, FS, GS⟩ := G.stands
  have bS := FS.binds (ps := ["file", "rows", "here"]) fun _ _ _ _ _ _ us hl => match us, hl with | [_, _, _], _ => rfl
  obtain ⟨fR, fdR, gR, FR, GR⟩ := L.draw
  have bR := FR.binds (ps := ["stream", "many"]) fun _ _ _ _ _ _ us hl => match us, hl with | [_, _], _ => rfl
  obtain ⟨fX, fdX, gX, FX, GX⟩ := G.trialR
  have bX := FX.binds (ps := ["stream", "file", "rows", "past", "later"]) fun _ _ _ _ _ _ us hl => match us, hl with | [_, _, _, _, _], _ => rfl
  obtain ⟨to, po, ho⟩ := law_odd G (f := f) (outer := outer) (s := s) (Hs := Hs) (E := E) (A := A) hr
  obtain ⟨tw, pw, hw⟩ := law_twin G (f := f) (outer := outer) (s := s) (Hs := Hs) (E := E) (A := A) hr
  have nd := scLaw.nd
  refine ⟨_, ps_for PassesOwn.never rfl (pi_range1 rfl G.nR (pa_cons pe_int pa_nil)) (pg_name (i := 7) nd rfl (Or.inl rfl))
      (pss_cons (ps_if (PW.pt (pw_or (pt_not (pt_val (pe_call GD (hr.mono (by decide)) rfl gD FD.kp bD .nil pass0 (pa_cons (pv 1) (pa_cons (pv 4) (pa_cons (pv 3) (pa_cons (pv 5) (pa_cons (pv 6) pa_nil))))))))
          (pw_or1 (pt_not (pt_val (pe_call GS (hr.mono (by decide)) rfl gS FS.kp bS .nil pass0 (pa_cons (pv 4) (pa_cons (pv 3) (pa_cons (pe_ix (r := rIxL K) ix_list (pv 5) (pe_un un_neg pe_int) (fun _ _ => rfl)) pa_nil))))))))) (pss_one ps_never) pss_nil)
      (pss_cons po
      (pss_cons (ps_if (PW.pt (pw_and (pt_cmpR op_eq (pe_call GR (hr.mono (by decide)) rfl gR FR.kp bR .nil pass0 (pa_cons (pv 1) (pa_cons pe_int pa_nil))) pe_int (nomark _))
          (pw_and1 (pt_not (pt_val (pe_call GX (hr.mono (by decide)) rfl gX FX.kp bX .nil pass0 (pa_cons (pv 1) (pa_cons (pv 4) (pa_cons (pv 3) (pa_cons (pv 5) (pa_cons (pv 6) pa_nil)))))))))) ) (pss_one ps_never) pss_nil)
      (pss_one pw)))), ?_⟩
  intro D H0 H l ls p pa la r a as ns tbl before here fut N m s0 s2 s7 s8 s9 s10 s11 s12 s13 no1 F k0 S hN hm go
  refine ⟨12, rfl, by omega, by omega, for_range (n := Int.toNat 12) (fun i σ H' => ∃ b' h' f', Same H0 H' ∧ S7 T C H' l ls p pa la a ns b' h' f' (N + 15 * i) (m + i) ∧ ∃ s7 s8 s9 s10 s11 s12, σ = [s0, some (.ref l), s2, some (.ref r), some (.ref p), some (.ref pa), some (.ref la), s7, s8, s9, s10, s11, s12, s13])
      ⟨before, here, fut, k0, by simpa using S, _, _, _, _, _, _, rfl⟩ ?_ ?_⟩
  · rintro i σ H1 hi ⟨b', h', f', k1, S1, s7, s8, s9, s10, s11, s12, rfl⟩
    have hi : i < 12 := hi
    refine ⟨_, rfl, _, rfl, _, rfl, _, rfl, _, rfl, H0, l, ls, p, pa, la, r, a, as, ns, tbl, b', h', f', _, _, rfl, F, k1, S1, by omega, by omega, fun H2 b2 h2 f2 k2 S2 => ⟨_, rfl, iteF ?_⟩⟩
    obtain ⟨xs, th, opa, oth, _⟩ := S2.last
    refine ⟨_, rfl, _, rfl, _, rfl, 1, rfl, pa, _, -1, _, rfl, rfl, SqL.of opa, atI_neg _ _, ?_⟩
    refine ⟨p, a, r, th, as, ns, h2, tbl, rfl, S2.frow F k2, oth, fun H3 s3 => ⟨_, rfl, iteF ?_⟩⟩
    refine ho _ H0 H3 l ls p pa la r a as ns tbl b2 h2 f2 _ _ _ _ _ _ _ _ _ _ _ _ _ no1 F (k2.trans s3) (S2.same s3) (by omega) fun H4 s8' k4 S4 => ?_
    have S4' : S7 T C H4 l ls p pa la a ns b2 h2 f2 (N + 15 * i + 2) (m + i + 1) := S4
    have next : ∀ H5, Same H0 H5 → S7 T C H5 l ls p pa la a ns b2 h2 f2 (N + 15 * i + 10) (m + i + 1) → tw { D with nx := fun σ H' => ∃ b' h' f', Same H0 H' ∧ S7 T C H' l ls p pa la a ns b' h' f' (N + 15 * ((i + 1 : Nat) : Int)) (m + (i + 1)) ∧ ∃ s7 s8 s9 s10 s11 s12, σ = [s0, some (.ref l), s2, some (.ref r), some (.ref p), some (.ref pa), some (.ref la), s7, s8, s9, s10, s11, s12, s13], ct := fun σ H' => ∃ b' h' f', Same H0 H' ∧ S7 T C H' l ls p pa la a ns b' h' f' (N + 15 * ((i + 1 : Nat) : Int)) (m + (i + 1)) ∧ ∃ s7 s8 s9 s10 s11 s12, σ = [s0, some (.ref l), s2, some (.ref r), some (.ref p), some (.ref pa), some (.ref la), s7, s8, s9, s10, s11, s12, s13], bk := D.nx }
        [s0, some (.ref l), s2, some (.ref r), some (.ref p), some (.ref pa), some (.ref la), some (.int (0 + (i : Nat))), s8', s9, s10, s11, s12, s13] H5 := fun H5 k5 S5 =>
      hw _ H0 H5 l ls p pa la r a as ns tbl b2 h2 f2 _ _ _ _ _ _ _ _ _ _ _ F k5 S5 (by omega) (by omega) fun H6 _ _ _ _ k6 S6 => ⟨b2, h2, f2, k6, ⟨S6.sp.mono (by push_cast; omega), S6.fil, S6.past, S6.later, S6.tab, S6.good, by have := S6.len; omega⟩, _, _, _, _, _, _, rfl⟩
    refine ⟨_, rfl, l, ls, 3, _, rfl, S4'.sp, by omega, by decide, by decide, fun H5 d d0 d1 sp5 B5 => ?_⟩
    have S5 := S4'.drawn F B5 sp5
    have k5 : Same H0 H5 := F.keep k4 fun b o n z => B5 b o (fun y => n (by simp [fv5, y])) (fun y => n (by simp [fv5, y])) z
    refine ⟨rfl, _, rfl, ?_⟩
    rw [dec_int2]
    by_cases e0 : d = 0
    · rw [decide_eq_true e0]
      refine iteT ⟨_, rfl, _, rfl, _, rfl, _, rfl, _, rfl, H0, l, ls, p, pa, la, r, a, as, ns, tbl, b2, h2, f2, _, _, rfl, no1, F, k5, S5, by omega, by omega, fun H6 k6 S6 => ⟨_, rfl, iteF (next H6 k6 ⟨S6.sp.mono (by omega), S6.fil, S6.past, S6.later, S6.tab, S6.good, S6.len⟩)⟩⟩
    · rw [decide_eq_false e0]
      exact iteF (iteF (next H5 k5 ⟨S5.sp.mono (by omega), S5.fil, S5.past, S5.later, S5.tab, S5.good, S5.len⟩))
  · rintro σ H1 ⟨b', h', f', k1, S1, s7, s8, s9, s10, s11, s12, rfl⟩
    exact go H1 _ _ _ _ _ _ b' h' f' k1 ⟨S1.sp.mono (by show N + 15 * ((12 : Nat) : Int) ≤ N + 180; omega), S1.fil, S1.past, S1.later, S1.tab, S1.good, S1.len⟩
end
end L2.TB
/-! the law: all done again, all taken back -/
namespace L2.TB
open PySem PySem.Spec PyProof.Rows LM LamX
section
variable {C p a : Addr} {H : Hp} {b f : List (List Str)} {h x : List Str} {Q : VK} {E : XK}
theorem unmap_snoc {ts : List Addr} {qs : List V} {v : V} (e : ts.map V.ref = qs ++ [v]) : ∃ ts0 t, ts = ts0 ++ [t] ∧ qs = ts0.map V.ref ∧ v = .ref t := by
  rcases List.eq_nil_or_concat ts with z | ⟨ts0, t, z⟩
  · rw [z] at e; simp at e
  · rw [List.concat_eq_append] at z
    rw [z, List.map_append] at e
    obtain ⟨e1, e2⟩ := List.append_inj' e rfl
    exact ⟨ts0, t, z, e1.symm, (List.cons.inj e2).1.symm⟩
theorem again_step (fil : FilAt H C p a b h (f ++ [x])) (lb : b.length < 900) (go : ∀ H', (∀ c o, c ≠ p → H c = some o → H' c = some o) → FilAt H' C p a (b ++ [h]) x f → Q (.bl true) H') : spAgain C [.ref p] H Q E := by
  obtain ⟨dx, tn, tp, tu, ts, us, hp, hn, ht, hts, hu, hus⟩ := fil
  have lts : ts.length = b.length := Paired.length hts
  refine ⟨p, dx, tu, tp, _, _, _, _, rfl, hp, hu, ht, by rw [List.length_map]; omega, fun en => ?_, fun qs v eqs H' t1 t2 n1 n2 e1 e2 e3 kp => ?_⟩
  · have z : us.length = (f ++ [x]).length := Paired.length hus
    rw [List.map_eq_nil_iff.mp en, List.length_append] at z
    simp at z
  · obtain ⟨us0, u, rfl, rfl, rfl⟩ := unmap_snoc eqs
    obtain ⟨us1, u1, et, hus0, hu0⟩ := tups_unsnoc hus
    obtain ⟨rfl, et2⟩ := List.append_inj' et rfl
    obtain rfl : u = u1 := (List.cons.inj et2).1
    have tk : ∀ c ys, H c = some (.tup ys) → H' c = some (.tup ys) := fun c ys e => kp _ _ (fun z => by rw [z, hp] at e; cases e) e
    refine go H' kp ⟨dx, u, t2, t1, ts ++ [tn], us0, e1, tk _ _ hu0, ?_, tups_snoc (hts.keep tk) (tk _ _ hn), e2, hus0.keep tk⟩
    rw [List.map_append]
    exact e3
theorem undo_step (fil : FilAt H C p a (b ++ [x]) h f) (lf : f.length < 900) (go : ∀ H', (∀ c o, c ≠ p → H c = some o → H' c = some o) → FilAt H' C p a b x (f ++ [h]) → Q (.bl true) H') : spUndo C [.ref p] H Q E := by
  obtain ⟨dx, tn, tp, tu, ts, us, hp, hn, ht, hts, hu, hus⟩ := fil
  have lus : us.length = f.length := Paired.length hus
  refine ⟨p, dx, tp, tu, _, _, _, _, rfl, hp, ht, hu, by rw [List.length_map]; omega, fun en => ?_, fun qs v eqs H' t1 t2 n1 n2 e1 e2 e3 kp => ?_⟩
  · have z : ts.length = (b ++ [x]).length := Paired.length hts
    rw [List.map_eq_nil_iff.mp en, List.length_append] at z
    simp at z
  · obtain ⟨ts0, t, rfl, rfl, rfl⟩ := unmap_snoc eqs
    obtain ⟨ts1, t1', et, hts0, ht0⟩ := tups_unsnoc hts
    obtain ⟨rfl, et2⟩ := List.append_inj' et rfl
    obtain rfl : t = t1' := (List.cons.inj et2).1
    have tk : ∀ c ys, H c = some (.tup ys) → H' c = some (.tup ys) := fun c ys e => kp _ _ (fun z => by rw [z, hp] at e; cases e) e
    refine go H' kp ⟨dx, t, t1, t2, ts0, us ++ [tn], e1, tk _ _ ht0, e2, hts0.keep tk, ?_, tups_snoc (hus.keep tk) (tk _ _ hn)⟩
    rw [List.map_append]
    exact e3
theorem undo_none (fil : FilAt H C p a [] h f) (lf : f.length < 900) (go : Q (.bl false) H) : spUndo C [.ref p] H Q E := by
  obtain ⟨dx, tn, tp, tu, ts, us, hp, hn, ht, hts, hu, hus⟩ := fil
  have lus : us.length = f.length := Paired.length hus
  have lts : ts = [] := List.eq_nil_of_length_eq_zero (Paired.length hts)
  subst lts
  exact ⟨p, dx, tp, tu, _, _, _, _, rfl, hp, ht, hu, by rw [List.length_map]; omega, fun _ => go, fun qs v e => by simp at e⟩
theorem FilAt.same {H' : Hp} (fil : FilAt H C p a b h f) (s : Same H H') : FilAt H' C p a b h f := by
  obtain ⟨dx, tn, tp, tu, ts, us, hp, hn, ht, hts, hu, hus⟩ := fil
  exact ⟨dx, tn, tp, tu, ts, us, s _ _ hp, s _ _ hn, s _ _ ht, hts.keep fun _ _ e => s _ _ e, s _ _ hu, hus.keep fun _ _ e => s _ _ e⟩
theorem FilAt.frow {K : PySem.W.Frag} {CT l ls pa la r : Addr} {H0 : Hp} {as : List Addr} {ns : List Str} {tbl : List (List Int)} (fil : FilAt H C p a b h f) (F : Fix K CT H0 l ls p pa la r a as ns tbl) (k : Same H0 H) (g : h.Nodup ∧ ∀ x ∈ h, x ∈ ns) : FRow K H C CT p a r as ns h tbl := by
  obtain ⟨dx, tn, tp, tu, ts, us, hp, hn, _⟩ := fil
  exact ⟨⟨⟨dx, tn, _, _, hp, hn⟩, F.tab.same k, g.1, g.2, F.s1, F.s2, F.ndn⟩, k _ _ F.r, F.rows.same k, F.tne⟩
end
theorem FilAt.lst {C p a pa : Addr} {H : Hp} {b f : List (List Str)} {h : List Str} {xs ys : List V} (fil : FilAt H C p a b h f) (e : H pa = some (.lst xs)) : FilAt (upd H pa (.lst ys)) C p a b h f := by
  obtain ⟨dx, tn, tp, tu, ts, us, hp, hn, ht, hts, hu, hus⟩ := fil
  have tk : ∀ c zs, H c = some (.tup zs) → upd H pa (.lst ys) c = some (.tup zs) := fun c zs k => (upd_ne (fun z => by rw [z, e] at k; cases k)).trans k
  exact ⟨dx, tn, tp, tu, ts, us, (upd_ne (fun z => by rw [z, e] at hp; cases hp)).trans hp, tk _ _ hn, tk _ _ ht, hts.keep tk, tk _ _ hu, hus.keep tk⟩
theorem FilAt.ins {C p a : Addr} {H : Hp} {b f : List (List Str)} {h : List Str} (fil : FilAt H C p a b h f) : ∃ dx tn tp tu, H p = some (.ins C dx (fF (.ref a) tn tp tu)) := let ⟨dx, tn, tp, tu, _, _, hp, _⟩ := fil; ⟨dx, _, _, _, hp⟩
theorem paired_at {α β : Type} {R : α → β → Prop} : ∀ {xs : List α} {ys : List β} {i : Nat} {x : α}, Paired R xs ys → xs[i]? = some x → ∃ y, ys[i]? = some y ∧ R x y
  | _, _, 0, _, .cons a _, e => ⟨_, rfl, by cases e; exact a⟩
  | _, _, i + 1, _, .cons _ b, e => paired_at (i := i) b e
theorem take_step {α : Type} {xs : List α} {n i : Nat} {x : α} (hn : n = xs.length) (hi : i < n) (e : xs[n - 1 - i]? = some x) : xs.take (n - i) = xs.take (n - (i + 1)) ++ [x] := by
  have e1 : n - i = (n - (i + 1)) + 1 := by omega
  have e2 : xs[n - (i + 1)]? = some x := by rw [show n - (i + 1) = n - 1 - i from by omega]; exact e
  rw [e1, List.take_succ, e2]
  rfl
theorem rev_at {α : Type} {xs : List α} {i : Nat} {x : α} (e : xs.reverse[i]? = some x) : i < xs.length ∧ xs[xs.length - 1 - i]? = some x := by
  have hi : i < xs.length := by
    have z := (List.getElem?_eq_some_iff.mp e).1
    rw [List.length_reverse] at z
    exact z
  exact ⟨hi, by rw [List.getElem?_reverse hi] at e; exact e⟩
section
variable {P : Program} {w : World} {K : PySem.W.Frag} {mg : Str → Option Value} {base : Heap} {C CT CQ CK CN c Pl : Addr} {T : Tau}
theorem law_end (G : LwG P w K mg base C CT CQ CK CN T c Pl) {f : Addr} {A : Around} {outer : List Env} {s : Shared} {Hs : Hp} {E : XK} (hr : Room 16 (cxLaw P w K mg base f c A outer s Hs E).A) : ∃ t, PSs (cxLaw P w K mg base f c A outer s Hs E) [nthS bTurn 3, nthS bTurn 4, nthS bTurn 5] t ∧
    ∀ (D : Ends) (H0 H : Hp) (l ls p pa la r a : Addr) (as : List Addr) (ns : List Str) (tbl : List (List Int)) (before : List (List Str)) (here : List Str) (fut : List (List Str)) (N : Int) (m : Nat) (s0 s1 s2 s7 s8 s9 s10 s11 s12 s13 : Option V),
      Fix K CT H0 l ls p pa la r a as ns tbl → Same H0 H → S7 T C H l ls p pa la a ns before here fut N m → m < 300 →
      (∀ H' s13', Strm H' l ls N → TabT T H' → D.nx [s0, s1, s2, some (.ref r), some (.ref p), some (.ref pa), some (.ref la), s7, s8, s9, s10, s11, s12, s13'] H') →
      t D [s0, s1, s2, some (.ref r), some (.ref p), some (.ref pa), some (.ref la), s7, s8, s9, s10, s11, s12, s13] H := by
  have L := G.L
  obtain ⟨fS, fdS, gS, FS, GS⟩ := G.stands
  have bS := FS.binds (ps := ["file", "rows", "here"]) fun _ _ _ _ _ _ us hl => match us, hl with | [_, _, _], _ => rfl
  obtain ⟨fU, fdU, FU, mU, GU⟩ := L.undo
  have bU := FU.binds (ps := NUn) fun _ _ _ _ _ _ us hl => match us, hl with | [_], _ => rfl
  obtain ⟨fG, fdG, FG, mG, GG⟩ := L.again
  have bG := FG.binds (ps := NUn) fun _ _ _ _ _ _ us hl => match us, hl with | [_], _ => rfl
  have nd := scLaw.nd
  refine ⟨_, pss_cons (ps_for PassesOwn.never rfl (pi_list (pe_revL (pv 6))) (pg_name (i := 13) nd rfl (Or.inl rfl))
        (pss_cons (ps_expr (pe_bm PySem.F.plainAttrs_list PySem.F.slot_list_append PySem.F.type_list_append mt_append (pv 5) (pa_cons (pv 13) pa_nil)))
        (pss_one (ps_if (PW.pt (pw_or (pt_cmpR op_notBl (pe_meth0 (pv 4) L.T.cl mG GG (hr.mono (by decide)) bG .nil pass0) pe_bl (nomark _)) (pw_or1 (pt_not (pt_val (pe_call GS (hr.mono (by decide)) rfl gS FS.kp bS .nil pass0 (pa_cons (pv 4) (pa_cons (pv 3) (pa_cons (pv 13) pa_nil))))))))) (pss_one ps_never) pss_nil))))
    (pss_cons (ps_for PassesOwn.never rfl (pi_list (pe_revL (pe_slice sl_list (pv 5) po_none (po_some (pe_un un_neg pe_int))))) (pg_name (i := 13) nd rfl (Or.inl rfl))
        (pss_one (ps_if (PW.pt (pw_or (pt_cmpR op_notBl (pe_meth0 (pv 4) L.T.cl mU GU (hr.mono (by decide)) bU .nil pass0) pe_bl (nomark _)) (pw_or1 (pt_not (pt_val (pe_call GS (hr.mono (by decide)) rfl gS FS.kp bS .nil pass0 (pa_cons (pv 4) (pa_cons (pv 3) (pa_cons (pv 13) pa_nil))))))))) (pss_one ps_never) pss_nil)))
    (pss_one (ps_if (pt_cmpR op_notBl (pe_meth0 (pv 4) L.T.cl mU GU (hr.mono (by decide)) bU .nil pass0) pe_bl (nomark _)) (pss_one ps_never) pss_nil))), ?_⟩
  intro D H0 H l ls p pa la r a as ns tbl before here fut N m s0 s1 s2 s7 s8 s9 s10 s11 s12 s13 F k0 S hm go
  obtain ⟨lts, ola, hlt⟩ := S.later
  have llt : lts.length = fut.length := Paired.length hlt
  have hlen := S.len
  refine ⟨_, rfl, la, _, rfl, SqL.of ola, fun R nR => ?_⟩
  have sR := same_new (o := .lst (lts.map V.ref).reverse) nR
  have oR := upd_same (H := H) (a := R) (o := .lst (lts.map V.ref).reverse)
  have fR := S.fresh nR
  generalize upd H R (.lst (lts.map V.ref).reverse) = HL at sR oR
  have SL := S.same sR
  have kL := k0.trans sR
  have hltL : TupsAt HL lts fut := hlt.keep fun _ _ e => sR _ _ e
  obtain ⟨ptsL, opaL, hptL⟩ := SL.past
  obtain ⟨dxL, tnL, tpL, tuL, hpL⟩ := SL.fil.ins
  have nepa : pa ≠ p := SL.ins_ne opaL
  simp only [fv5, List.mem_cons, List.not_mem_nil, or_false, not_or] at fR
  have tupL : ∀ {H' : Hp}, (∀ c o, c ≠ p → c ≠ pa → HL c = some o → H' c = some o) → ∀ c ys, HL c = some (.tup ys) → H' c = some (.tup ys) := fun k c ys e => k _ _ (fun z => by rw [z, hpL] at e; cases e) (fun z => by rw [z, opaL] at e; cases e) e
  have strmL : ∀ {H' : Hp}, (∀ c o, c ≠ p → c ≠ pa → HL c = some o → H' c = some o) → Strm H' l ls N := fun k => by
    obtain ⟨cs, g, kk, mm, Z⟩ := SL.sp
    exact ⟨cs, g, kk, mm, k _ _ (fun z => by have y := Z.o; rw [z, hpL] at y; cases y) F.d2.symm Z.o, k _ _ (fun z => by have y := Z.c; rw [z, hpL] at y; cases y) F.d3.symm Z.c, Z.ne, Z.g0, Z.k0, Z.k1, Z.m0, Z.m1, Z.sz⟩
  have tabL : ∀ {H' : Hp}, (∀ c o, c ≠ p → c ≠ pa → HL c = some o → H' c = some o) → TabT T H' := fun k => SL.tab.lits fun c o e z => k _ _ (fun y => by rw [y, hpL] at e; cases e; rcases z with ⟨_, z⟩ | ⟨_, z⟩ <;> cases z) (fun y => by rw [y, opaL] at e; cases e; rcases z with ⟨_, z⟩ | ⟨_, z⟩ <;> cases z) e
  have fixL : ∀ {H' : Hp}, (∀ c o, c ≠ p → c ≠ pa → HL c = some o → H' c = some o) → Same H0 H' := fun k c o e => k _ _ (fun z => by rw [z, F.np] at e; cases e) (fun z => by rw [z, F.npa] at e; cases e) (kL _ _ e)
  have goodB : ∀ y ∈ before ++ [here], y.Nodup ∧ ∀ x ∈ y, x ∈ ns := fun y hy => (List.mem_append.mp hy).elim (fun z => S.good y (by simp [z])) fun z => S.good y (by simp [List.mem_singleton.mp z])
  have goodL : ∀ y ∈ fut, y.Nodup ∧ ∀ x ∈ y, x ∈ ns := fun y hy => S.good y (by simp [hy])
  refine ⟨R, rfl, ⟨_, SqL.of oR⟩, for_list (xs := (lts.map V.ref).reverse) (fun i σ H' => (∀ c o, c ≠ p → c ≠ pa → HL c = some o → H' c = some o) ∧ ∃ bi hi, FilAt H' C p a bi hi (fut.take (fut.length - i)) ∧ LstAt H' pa (bi ++ [hi]) ∧ (∀ y ∈ bi ++ [hi], y.Nodup ∧ ∀ x ∈ y, x ∈ ns) ∧ bi.length = before.length + i ∧
      ∃ s13, σ = [s0, s1, s2, some (.ref r), some (.ref p), some (.ref pa), some (.ref la), s7, s8, s9, s10, s11, s12, s13]) ⟨fun _ _ _ _ e => e, before, here, by simpa using SL.fil, SL.past, goodB, rfl, _, rfl⟩
      (fun i σ H' _ h => SqL.of (h.1 _ _ (fun z => fR.2.2.1 z) (fun z => fR.2.2.2.1 z) oR)) ?_ ?_⟩
  · rintro i x σ H' ex ⟨k, bi, hi, fil, lst, gd, lb, s13, rfl⟩
    obtain ⟨li, ex⟩ := rev_at ex
    rw [List.length_map] at li ex
    rw [List.getElem?_map] at ex
    obtain ⟨t, et, rfl⟩ := Option.map_eq_some_iff.mp ex
    obtain ⟨y, ey, oy⟩ := paired_at hltL et
    rw [llt] at ey li
    have gy := goodL y (List.mem_of_getElem? ey)
    have oy' := tupL k _ _ oy
    obtain ⟨pts, opa, hpt⟩ := lst
    have lpt : pts.length = bi.length + 1 := by
      have z := Paired.length hpt
      rw [z, List.length_append]; rfl
    refine ⟨_, rfl, .inl ⟨rfl, _, SqL.of opa⟩, _, rfl, pa, _, .ref t, rfl, rfl, opa, by rw [List.length_map, sizeLine_eq]; omega, ?_⟩
    have fil1 := fil.lst (ys := pts.map V.ref ++ [.ref t]) opa
    rw [take_step rfl li ey] at fil1
    obtain ⟨dx, tn, tp, tu, hp1⟩ := fil1.ins
    refine ⟨_, rfl, p, dx, _, rfl, hp1, rfl, ?_⟩
    unfold tNil
    show spAgain C [.ref p] _ _ _
    refine again_step fil1 (by omega) fun H2 kp fil2 => ⟨true, true, rfl, rfl, _, rfl, iteF ?_⟩
    have k2 : ∀ c o, c ≠ p → c ≠ pa → HL c = some o → H2 c = some o := fun c o h1 h2 e => kp _ _ h1 ((upd_ne h2).trans (k c o h1 h2 e))
    have opa2 := kp _ _ nepa (upd_same (H := H') (a := pa) (o := .lst (pts.map V.ref ++ [.ref t])))
    refine ⟨_, rfl, _, rfl, _, rfl, p, a, r, t, as, ns, y, tbl, rfl, fil2.frow F (fixL k2) gy, tupL k2 _ _ oy, fun H3 s3 => ⟨_, rfl, iteF ?_⟩⟩
    have k3 : ∀ c o, c ≠ p → c ≠ pa → HL c = some o → H3 c = some o := fun c o h1 h2 e => s3 _ _ (k2 c o h1 h2 e)
    have tk : ∀ c zs, H' c = some (.tup zs) → H3 c = some (.tup zs) := fun c zs e => s3 _ _ (kp _ _ (fun z => by
      obtain ⟨dx0, _, _, _, hp0⟩ := fil.ins
      rw [z, hp0] at e; cases e) ((upd_ne (fun z => by rw [z, opa] at e; cases e)).trans e))
    refine ⟨k3, bi ++ [hi], y, fil2.same s3, ⟨pts ++ [t], by rw [List.map_append]; exact s3 _ _ opa2, tups_snoc (hpt.keep tk) (tupL k3 _ _ oy)⟩, fun z hz => ?_, by rw [List.length_append, lb]; rfl, _, rfl⟩
    rcases List.mem_append.mp hz with hz | hz
    · exact gd z hz
    · rw [List.mem_singleton.mp hz]; exact gy
  · rintro σ H' ⟨k, bi, hi, fil, lst, gd, lb, s13, rfl⟩
    rw [List.length_reverse, List.length_map, llt] at fil lb
    rw [Nat.sub_self, List.take_zero] at fil
    have kH := fixL k
    have spH := strmL k
    have tbH := tabL k
    clear tupL strmL tabL fixL hltL
    obtain ⟨pts, opa, hpt⟩ := lst
    obtain ⟨pts0, th, rfl, hpt0, oth⟩ := tups_unsnoc hpt
    rw [List.map_append] at opa
    have lp0 : pts0.length = bi.length := Paired.length hpt0
    refine ⟨_, rfl, 1, rfl, -1, rfl, pa, _, rfl, SqL.of opa, fun p1 n1 => ?_⟩
    have ec : cutV (pts0.map V.ref ++ List.map V.ref [th]) none (some (-1)) = pts0.map V.ref := cut_init _ _
    rw [ec]
    have w1 := same_new (o := .lst (pts0.map V.ref)) n1
    refine ⟨p1, _, rfl, SqL.of upd_same, fun R2 nR2 => ?_⟩
    have w2 := same_new (o := .lst (pts0.map V.ref).reverse) nR2
    have oR2 := upd_same (H := upd H' p1 (.lst (pts0.map V.ref))) (a := R2) (o := .lst (pts0.map V.ref).reverse)
    have s2' := w1.trans w2
    generalize upd (upd H' p1 (.lst (pts0.map V.ref))) R2 (.lst (pts0.map V.ref).reverse) = H2 at s2' oR2
    have fil2 := fil.same s2'
    obtain ⟨dx2, tn2, tp2, tu2, hp2⟩ := fil2.ins
    have hpt2 : TupsAt H2 pts0 bi := TupsAt.keep (H := H') hpt0 fun _ _ e => s2' _ _ e
    have sp2 := spH.same s2'
    have tb2 := tbH.same s2'
    have k2 := kH.trans s2'
    refine ⟨R2, rfl, ⟨_, SqL.of oR2⟩, for_list (xs := (pts0.map V.ref).reverse) (fun i σ H3 => (∀ c o, c ≠ p → H2 c = some o → H3 c = some o) ∧ ∃ hi fi, FilAt H3 C p a (bi.take (bi.length - i)) hi fi ∧ fi.length = i ∧
        ∃ s13, σ = [s0, s1, s2, some (.ref r), some (.ref p), some (.ref pa), some (.ref la), s7, s8, s9, s10, s11, s12, s13]) ⟨fun _ _ _ e => e, hi, [], by simpa using fil2, rfl, _, rfl⟩
        (fun i σ H3 _ h => SqL.of (h.1 _ _ (fun z => by rw [z, hp2] at oR2; cases oR2) oR2)) ?_ ?_⟩
    · rintro i x σ H3 ex ⟨k, hi, fi, fil3, lf, s13, rfl⟩
      obtain ⟨li, ex⟩ := rev_at ex
      rw [List.length_map] at li ex
      rw [List.getElem?_map] at ex
      obtain ⟨t, et, rfl⟩ := Option.map_eq_some_iff.mp ex
      obtain ⟨y, ey, oy⟩ := paired_at hpt2 et
      rw [lp0] at ey li
      have gy := gd y (List.mem_append_left _ (List.mem_of_getElem? ey))
      rw [take_step rfl li ey] at fil3
      obtain ⟨dx, tn, tp, tu, hp3⟩ := fil3.ins
      refine ⟨_, rfl, p, dx, _, rfl, hp3, rfl, ?_⟩
      unfold tNil
      show spUndo C [.ref p] _ _ _
      refine undo_step fil3 (by omega) fun H4 kp fil4 => ⟨true, true, rfl, rfl, _, rfl, iteF ?_⟩
      have k4 : ∀ c o, c ≠ p → H2 c = some o → H4 c = some o := fun c o h1 e => kp _ _ h1 (k c o h1 e)
      have k04 : Same H0 H4 := fun c o e => k4 _ _ (fun z => by rw [z, F.np] at e; cases e) (k2 _ _ e)
      refine ⟨_, rfl, _, rfl, _, rfl, p, a, r, t, as, ns, y, tbl, rfl, fil4.frow F k04 gy, k4 _ _ (fun z => by rw [z, hp2] at oy; cases oy) oy, fun H5 s5 => ⟨_, rfl, iteF ?_⟩⟩
      exact ⟨fun c o h1 e => s5 _ _ (k4 c o h1 e), y, _, fil4.same s5, by rw [List.length_append, lf]; rfl, _, rfl⟩
    · rintro σ H3 ⟨k, hi, fi, fil3, lf, s13, rfl⟩
      rw [List.length_reverse, List.length_map, lp0] at fil3 lf
      rw [Nat.sub_self, List.take_zero] at fil3
      obtain ⟨dx, tn, tp, tu, hp3⟩ := fil3.ins
      refine ⟨_, rfl, p, dx, _, rfl, hp3, rfl, ?_⟩
      unfold tNil
      show spUndo C [.ref p] _ _ _
      refine undo_none fil3 (by omega) ⟨false, false, rfl, rfl, _, rfl, iteF (go H3 _ ?_ ?_)⟩
      · obtain ⟨cs, g, kk, mm, Z⟩ := sp2
        exact ⟨cs, g, kk, mm, k _ _ (fun z => by have y := Z.o; rw [z, hp2] at y; cases y) Z.o, k _ _ (fun z => by have y := Z.c; rw [z, hp2] at y; cases y) Z.c, Z.ne, Z.g0, Z.k0, Z.k1, Z.m0, Z.m1, Z.sz⟩
      · exact tb2.lits fun c o e z => k _ _ (fun y => by rw [y, hp2] at e; cases e; rcases z with ⟨_, z⟩ | ⟨_, z⟩ <;> cases z) e
end
end L2.TB
/-! the law -/
namespace L2.TB
open PySem PySem.Spec PyProof.Rows LM LamX
theorem ne_at {H : Hp} {x y : Addr} {o u : HO} (h1 : H x = some o) (h2 : H y = some u) (n : o ≠ u) : x ≠ y := fun z => by
  rw [z, h2] at h1
  exact n (Option.some.inj h1).symm
theorem no_one_bad : ¬ NmOk ("no one" : Str) := fun h => by
  have z := h.2.2 32 (by decide +kernel)
  exact absurd z (by decide +kernel)
theorem tabT_but {T : Tau} {H H' : Hp} {l ls : Addr} {N : Int} (t : TabT T H) (S : Strm H l ls N) (B : But l ls H H') : TabT T H' := t.lits fun b o e z => by
  obtain ⟨cs, g, k, m, S⟩ := S
  exact B _ _ (fun y => by rw [y, S.o] at e; cases e; rcases z with ⟨_, z⟩ | ⟨_, z⟩ <;> cases z) (fun y => by rw [y, S.c] at e; cases e; rcases z with ⟨_, z⟩ | ⟨_, z⟩ <;> cases z) e
/-- a table, without the spring -/
theorem TabAt.cut {H : Hp} {C a l ls : Addr} {ns : List Str} {tbl : List (List Int)} {N : Int} (t : TabAt H C a ns tbl) (S : Strm H l ls N) (nn : ns ≠ []) (tn : tbl ≠ []) : TabAt (cutH [l, ls] H) C a ns tbl := by
  obtain ⟨dx, qa, ra, ha, hqa, ps, hra, prs⟩ := t.ex
  obtain ⟨cs, g, k, m, S⟩ := S
  obtain ⟨n0, nr, rfl⟩ := List.exists_cons_of_ne_nil nn
  obtain ⟨t0, tr, rfl⟩ := List.exists_cons_of_ne_nil tn
  have go : ∀ {b : Addr} {o : HO}, H b = some o → (∀ q, o ≠ .tbl q) → o ≠ .lst [.ref ls, .int g, .int k, .int m] → o ≠ .lst (cs.map V.int) → cutH [l, ls] H b = some o := fun {b o} e h1 h2 h3 => cut_at (by
    simp only [List.mem_cons, List.not_mem_nil, or_false, not_or]
    exact ⟨ne_at e S.o h2, ne_at e S.c h3⟩) e h1
  cases prs with
  | cons p0 prs =>
    rename_i p ps
    refine ⟨dx, qa, ra, go ha (fun _ z => by cases z) (fun z => by cases z) (fun z => by cases z), go hqa (fun _ z => by cases z) (fun z => by cases z) (fun z => ?_), p :: ps, go hra (fun _ z => by cases z) (fun z => ?_) (fun z => ?_),
      Paired.mapP (.cons p0 prs) fun q vs h => ⟨go h.1 (fun _ z => by cases z) (fun z => by cases z) (fun z => by cases z), h.2⟩⟩
    · have z := HO.lst.inj z
      cases cs <;> cases z
    · have z := HO.lst.inj z
      cases ps <;> cases z
    · have z := HO.lst.inj z
      cases cs <;> cases z
/-- how the law begins -/
structure LwT (P : Program) (w : World) (K : PySem.W.Frag) (mg : Str → Option Value) (base : Heap) (C CT fN fIn : Addr) : Prop where
  start : ∃ f fd, mg "_law_start" = some (.ref f) ∧ Fun K "_law_start" "_law_start" sStart f fd
  rows : ∃ f fd, mg "_law_t_rows" = some (.ref f) ∧ Fun K "_law_t_rows" "_law_t_rows" sRows f fd ∧ FnOk P w K mg base CX0 4 f fd ["stream", "many", "rows", "values"] spRows
  gT : mg "Table" = some (.ref CT)
  madeT : Mk K CT fIn
  initT : ∃ fd, Fun K "__init__" "Table.__init__" sInit fIn fd ∧ FnOk P w K mg base CX0 3 fIn fd ["self", "rows"] (spInit CT)
  gF : mg "File" = some (.ref C)
  madeF : Mk K C fN
  initF : ∃ fd, Fun K "__init__" "File.__init__" sFInit fN fd
def spLawT (K : PySem.W.Frag) (T : Tau) : Sp := fun vs H Q _ => ∃ (a : Addr) (ns : List Int), vs = [.ref a] ∧ SqL K H a (ns.map V.int) ∧ ns.length ≤ 63 ∧ TabT T H ∧ ∀ H', Q (.bl true) H'
section
variable {P : Program} {w : World} {K : PySem.W.Frag} {mg : Str → Option Value} {base : Heap} {C CT CQ CK CN c Pl f fN fIn : Addr} {fd : FuncData} {T : Tau}
theorem ok_law (FW : Fun K "law" "law" sLaw f fd) (hcd0 : fd.code = .ref c) (G : LwG P w K mg base C CT CQ CK CN T c Pl) (Z : LwT P w K mg base C CT fN fIn) : FnOk P w K mg base CX0 17 f fd ["script"] (spLawT K T) := by
  have L := G.L
  obtain ⟨fS, fdS, gS, FS⟩ := Z.start
  have GS : FnOk P w K mg base CX0 1 fS fdS ["script"] (spStart K) := ok_start FS L.M.nL
  have bS := FS.binds (ps := ["script"]) fun _ _ _ _ _ _ us hl => match us, hl with | [_], _ => rfl
  obtain ⟨fR, fdR, gR, FR, GR⟩ := Z.rows
  have bR := FR.binds (ps := ["stream", "many", "rows", "values"]) fun _ _ _ _ _ _ us hl => match us, hl with | [_, _, _, _], _ => rfl
  obtain ⟨fdI, FI, GI⟩ := Z.initT
  have bI := FI.binds (ps := ["self", "rows"]) fun _ _ _ _ _ _ us hl => match us, hl with | [_, _], _ => rfl
  obtain ⟨fdN, FN⟩ := Z.initF
  have GN := ok_fInit (P := P) (w := w) (mg := mg) (base := base) FN L.T
  have bN := FN.binds (ps := NFI) fun _ _ _ _ _ _ us hl => match us, hl with | [_, _], _ => rfl
  obtain ⟨oc, od, kV, doc, pm, an, cdv, ct, osl, rfl, lk, hcd⟩ := FW.ex
  obtain rfl : cdv = .ref c := hcd0
  refine fn_of lk hcd scLaw (fun vs H Q E h => by obtain ⟨_, _, e, _⟩ := h; rw [e]; rfl) fun A outer s H vs Q E hr hsp => ?_
  obtain ⟨a, cs, rfl, hS, hn, hT, hq⟩ := hsp
  have nd := scLaw.nd
  obtain ⟨tk, pk, hk⟩ := law_k G (f := f) (outer := outer) (s := s) (Hs := H) (E := E) (A := A) hr
  obtain ⟨te, pe, he⟩ := law_end G (f := f) (outer := outer) (s := s) (Hs := H) (E := E) (A := A) hr
  refine (fun ⟨t, h1, h2⟩ => ⟨t, h1.nox, h2⟩ : (∃ t, PSs (cxLaw P w K mg base f c A outer s H E) (defBody sLaw) t ∧ t { nx := fun _ H' => Q .non H', rt := Q } (start NLw [.ref a]) H) → _) ?_
  refine ⟨_, pss_cons (ps_set (i := 1) nd rfl (Or.inl rfl) (pe_call GS (hr.mono (by decide)) rfl gS FS.kp bS .nil pass0 (pa_cons (pv 0) pa_nil)))
    (pss_cons (ps_for PassesOwn.never rfl (pi_range1 rfl G.nR (pa_cons pe_int pa_nil)) (pg_name (i := 2) nd rfl (Or.inl rfl))
      (pss_cons (ps_set (i := 3) nd rfl (Or.inl rfl) (pe_call GR (hr.mono (by decide)) rfl gR FR.kp bR .nil pass0 (pa_cons (pv 1) (pa_cons pe_int (pa_cons pe_int (pa_cons pe_int pa_nil))))))
      (pss_cons (ps_asg (pe_tup (pa_cons (pe_make Z.madeF GN (hr.mono (by decide)) rfl Z.gF bN .nil pass0 (pa_cons (pe_make Z.madeT GI (hr.mono (by decide)) rfl Z.gT bI .nil pass0 (pa_cons (pv 3) pa_nil)) pa_nil)) (pa_cons (pe_lst (pa_cons (pe_tup pa_nil) pa_nil)) (pa_cons (pe_lst pa_nil) pa_nil))))
          (pg_tup rfl (pgs_cons (pg_name (i := 4) nd rfl (Or.inr rfl)) (pgs_cons (pg_name (i := 5) nd rfl (Or.inl rfl)) (pgs_cons (pg_name (i := 6) nd rfl (Or.inl rfl)) pgs_nil)))))
      (pss_cons pk pe))))
    (pss_one (ps_ret pe_bl))), ?_⟩
  refine ⟨_, rfl, a, cs, rfl, hS, by omega, fun H1 l ls nl k1 S1 nls => ?_⟩
  refine ⟨2, rfl, by decide, by decide, for_range (n := Int.toNat 2) (fun i σ H' => Strm H' l ls (2000 * (i : Int)) ∧ TabT T H' ∧ ∃ s2 s3 s4 s5 s6 s7 s8 s9 s10 s11 s12 s13, σ = [some (.ref a), some (.ref l), s2, s3, s4, s5, s6, s7, s8, s9, s10, s11, s12, s13])
    ⟨by simpa using S1, hT.same k1, _, _, _, _, _, _, _, _, _, _, _, _, rfl⟩ ?_ ?_⟩
  · rintro i σ H2 hi ⟨S2, T2, s2, s3, s4, s5, s6, s7, s8, s9, s10, s11, s12, s13, rfl⟩
    have hi : i < 2 := hi
    refine ⟨_, rfl, l, ls, 5, 6, 3, 2000 * (i : Int), rfl, S2, by omega, by decide, by decide, by decide, by decide, by decide, by decide, fun H3 rr as ns tbl lns nn nnd nok ltbl tn nrr rl rls orr R S3 B3 => ?_⟩
    have T3 := tabT_but T2 S2 B3
    have D3 : DRows H3 ns as tbl := Paired.mapP R fun a vs h => ⟨h.1, h.2.1⟩
    refine ⟨_, rfl, fun x dx nx ndx nex => ?_⟩
    have w1 : Same H3 (upd (upd H3 dx (.own x)) x (.ins CT dx [])) := fun b o e => by rw [upd_ne (ne_of_none e nx), upd_ne (ne_of_none e ndx)]; exact e
    refine ⟨x, dx, rr, as, ns, tbl, rfl, upd_same, w1 _ _ orr, D3.same w1, tn, by omega, nn, nnd, nok, by omega, fun H4 tab fr => ⟨rfl, fun y dy ny ndy ney => ?_⟩⟩
    have w2 : Same H3 H4 := fun b o e => fr b o (ne_of_none e nx) (w1 _ _ e)
    have S4 := S3.same w2
    have D4 := D3.same w2
    have orr4 := w2 _ _ orr
    have T4 := T3.same w2
    refine ⟨y, dy, .ref x, rfl, upd_same, fun H5 t0 t1 t2 n0 n1 n2 e0 e1 e2 e3 kp => ⟨rfl, ?_⟩⟩
    have w4 : Same H4 H5 := fun b o e => by
      have by_ : b ≠ y := ne_of_none e ny
      exact kp b o by_ (by rw [upd_ne by_, upd_ne (ne_of_none e ndy)]; exact e)
    refine ⟨(by show 0 ≤ sizeLine; omega), fun e ne => ⟨(by show 1 ≤ sizeLine; decide), fun pa npa => ⟨(by show 0 ≤ sizeLine; omega), fun la nla => ⟨(by show 3 ≤ sizeLine; decide), fun tt ntt => ?_⟩⟩⟩⟩
    have u1 := same_new (o := .tup []) ne
    have u2 := same_new (o := .lst [.ref e]) npa
    have u3 := same_new (o := .lst []) nla
    have u4 := same_new (o := .tup [.ref y, .ref pa, .ref la]) ntt
    have oe := u4 _ _ (u3 _ _ (u2 _ _ (upd_same (H := H5) (a := e) (o := .tup []))))
    have opa := u4 _ _ (u3 _ _ (upd_same (H := upd H5 e (.tup [])) (a := pa) (o := .lst [.ref e])))
    have ola := u4 _ _ (upd_same (H := upd (upd H5 e (.tup [])) pa (.lst [.ref e])) (a := la) (o := .lst []))
    have s59 := ((u1.trans u2).trans u3).trans u4
    have dpl : pa ≠ la := fun z => by rw [← z, upd_same] at nla; cases nla
    have fpa4 : H4 pa = none := w4.free (u1.free npa)
    have fla4 : H4 la = none := w4.free ((u1.trans u2).free nla)
    refine ⟨tt, _, rfl, SqT.of upd_same, rfl, _, _, rfl, _, _, rfl, _, _, rfl, rfl, ?_⟩
    generalize upd (upd (upd (upd H5 e (.tup [])) pa (.lst [.ref e])) la (.lst [])) tt (.tup [.ref y, .ref pa, .ref la]) = H9 at s59 oe opa ola
    have s49 := w4.trans s59
    have S9 := S4.same s49
    have ap1 := S4.apart (Same.refl _) fpa4
    have ap2 := S4.apart (Same.refl _) fla4
    -- what stays
    have kc : Same (cutH [l, ls] H4) H9 := (cut_same _ _).trans s49
    have nt : ∀ b ps, cutH [l, ls] H4 b ≠ some (.tbl ps) := cut_nt _ _
    have none4 : ∀ b, H4 b = none → cutH [l, ls] H4 b = none := fun b z => by
      cases q : cutH [l, ls] H4 b with
      | none => rfl
      | some o => rw [cut_same _ _ _ _ q] at z; cases z
    have kf : Same (cutH [l, ls] H4) (cutH (fv5 l ls y pa la) H9) := same_cut kc nt fun b z => by
      simp only [fv5, List.mem_cons, List.not_mem_nil, or_false] at z
      rcases z with z | z | z | z | z <;> rw [z]
      · exact cut_in (by simp)
      · exact cut_in (by simp)
      · exact none4 _ ny
      · exact none4 _ fpa4
      · exact none4 _ fla4
    have rc : cutH [l, ls] H4 rr = some (.lst (as.map V.ref)) := cut_at (by simp [rl, rls]) orr4 (fun _ z => by cases z)
    have dc : DRows (cutH [l, ls] H4) ns as tbl := Paired.mapP D4 fun q vs h => ⟨cut_at (by
      obtain ⟨cs', g, kk, mm, Y⟩ := S4
      simp only [List.mem_cons, List.not_mem_nil, or_false, not_or]
      exact ⟨ne_at h.1 Y.o (fun z => by cases z), ne_at h.1 Y.c (fun z => by cases z)⟩) h.1 (fun _ z => by cases z), h.2⟩
    have tc := tab.cut S4 nn tn
    have F : Fix K CT (cutH (fv5 l ls y pa la) H9) l ls y pa la rr x as ns tbl := ⟨cut_in (by simp [fv5]), cut_in (by simp [fv5]), cut_in (by simp [fv5]), cut_in (by simp [fv5]), cut_in (by simp [fv5]), cut_nt _ _, kf _ _ rc, dc.same kf, tc.same kf, tn, nn, nnd, by omega, by omega, dpl, ap1.1, ap1.2, ap2.1, ap2.2⟩
    have S7' : S7 T C H9 l ls y pa la x ns [] [] [] (2000 * (i : Int) + 1000) 0 := ⟨S9, ⟨dy, t0, t1, t2, [], [], s59 _ _ e0, s59 _ _ e1, s59 _ _ e2, .nil, s59 _ _ e3, .nil⟩, ⟨[e], opa, .cons oe .nil⟩, ⟨[], ola, .nil⟩, T4.same s49,
      fun h hh => (by
        rw [List.mem_singleton.mp hh]
        exact ⟨List.nodup_nil, fun _ z => by cases z⟩), Nat.le_refl _⟩
    have no1 : ("no one" : Str) ∉ ns := fun z => no_one_bad (nok _ z)
    refine hk _ _ H9 l ls y pa la rr x as ns tbl [] [] [] _ 0 _ _ _ _ _ _ _ _ _ no1 F (cut_same _ _) S7' (by omega) (by omega) fun H10 s7' s8' s9' s10' s11' s12' b' h' f' k10 S10 => ?_
    refine he _ _ H10 l ls y pa la rr x as ns tbl b' h' f' _ _ _ _ _ _ _ _ _ _ _ _ F k10 S10 (by omega) fun H11 s13' S11 T11 => ?_
    exact ⟨S11.mono (by push_cast; omega), T11, _, _, _, _, _, _, _, _, _, _, _, _, rfl⟩
  · rintro σ H2 _
    exact hq H2
end
end L2.TB
namespace L2.TB
open PySem PySem.Spec PyProof.Rows
open LamX LM
section
variable {K : PySem.W.Frag} {h : Heap} {mg : Str → Option Value}
theorem fun_ofD {x q : Str} {st : Stmt} {f : Addr} {fd : FuncData} (F : FunD K x q (defArgs st) (defBody st) (defScope st) [] [] f fd) : Fun K x q st f fd := by
  obtain ⟨⟨oc, od, dV, kV, doc, pm, an, cdv, ct, osl, e, lk, hc, hd, hk⟩, kp⟩ := F
  obtain rfl : dV = .none := hd.elim (fun z => z.2) fun z => absurd rfl z.1
  exact ⟨⟨oc, od, kV, doc, pm, an, cdv, ct, osl, e, lk, hc⟩, kp⟩
theorem def_at (c : He.SaysD faT fnT K) (X : K.In h) (G : h.Ns mainGlobals mg) (i k : Nat) {x : Str} {st : Stmt} (ei : faT[i]? = some (.glo x)) (ek : fnT[k]? = some (dfd (x, none) x x st [])) :
    mg x = some (.ref (He.ga K x)) ∧ ∃ fd, Fun K x x st (He.ga K x) fd := by
  obtain ⟨fd, F⟩ := c.def_ k ek
  exact ⟨He.glo_ok X G (c.fact i ei), fd, fun_ofD F⟩
theorem meth_at (c : He.SaysD faT fnT K) (i k : Nat) {m q : Str} {st : Stmt} (ei : faT[i]? = some (.meth "Table" m)) (ek : fnT[k]? = some (dfd ("Table", some m) m q st [])) :
    Meth K (He.ga K "Table") m (He.ma K (He.ga K "Table") m) ∧ ∃ fd, Fun K m q st (He.ma K (He.ga K "Table") m) fd := by
  obtain ⟨fd, F⟩ := c.def_ k ek
  exact ⟨He.meth_ok (c.fact i ei), fd, fun_ofD F⟩
theorem code_of {x : Str} {st : Stmt} {fd : FuncData} (F : Fun K x x st (He.ga K x) fd) : fd.code = .ref (He.cT K (x, none)).1 := by
  obtain ⟨⟨oc, od, kV, doc, pm, an, cdv, ct, osl, e, lk, hc⟩, kp⟩ := F
  obtain ⟨c, e2⟩ := He.codeIn_ref hc
  have e3 : fd.code = .ref c := by rw [e]; exact e2
  have lk2 : K.lookup (He.fAd K (x, none)) = some ⟨oc, od, .func fd, osl⟩ := lk
  rw [e3]
  exact congrArg Value.ref (He.codeOf_eq lk2 e3).symm
theorem vmeth_at (c : He.SaysD faT fnT K) (i k : Nat) {m q : Str} {st : Stmt} (ei : faT[i]? = some (.meth "File" m)) (ek : fnT[k]? = some (dfd ("File", some m) m q st [])) :
    Meth K (He.ga K "File") m (He.ma K (He.ga K "File") m) ∧ ∃ fd, Fun K m q st (He.ma K (He.ga K "File") m) fd := by
  obtain ⟨fd, F⟩ := c.def_ k ek
  exact ⟨He.meth_ok (c.fact i ei), fd, fun_ofD F⟩
/-- an error's class -/
theorem err_at {P : Program} {w : World} {base : Heap} (c : SaysK h K) (X : K.In h) (G : h.Ns mainGlobals mg) (i k : Nat) {x fld q : Str} {st : Stmt} {p0 p1 p2 p3 : Pos} (ei : faT[i]? = some (.glo x)) (ek : fnT[k]? = some (dfd (x, some "__init__") "__init__" q st [])) (he : (x, fld) ∈ erT)
    (S : FnScope ["self", fld] ["self", fld] (defScope st)) (hb : defBody st = [.Assign [.Attribute (.Name "self" p0) fld p1] (.Name fld p2) p3]) (hv0 : Vis (defScope st) "self") (hv1 : Vis (defScope st) fld) (hdy : (fld == ("__debug__" : Str)) = false) (hcy : (fld == ("__classdict__" : Str)) = false)
    (bd : ∀ (kV doc pm : Value) (an : Option Addr) (cdv ct : Value) (us : List Value), us.length = 2 → bindArgs (PySem.W.fnOf "__init__" q (defArgs st) (defBody st) (defScope st) .none kV doc pm an cdv ct) ⟨us, []⟩ = pure ((["self", fld] : List Str).zip us)) : ErrF P w K mg base x (He.ga K x) fld := by
  obtain ⟨fd, F⟩ := c.d.def_ k ek
  have F' : Fun K "__init__" q st (He.ma K (He.ga K x) "__init__") fd := fun_ofD F
  exact ⟨He.glo_ok X G (c.d.fact i ei), _, fd, fld, errB_ok (c.er _ he), ok_errInit F' S hb hv0 hv1 hdy hcy, F'.binds bd⟩
abbrev pT (K : PySem.W.Frag) (x : Str) : Addr := (He.cT K (x, none)).2
def tbN : List (Str × List Str) := [("law", ["law.<locals>.<lambda>"]), ("_law_deed", ["_law_deed.<locals>.<lambda>"]), ("_law_work", ["_law_work.<locals>.<lambda>"]), ("_law_trial_right", ["_law_trial_right.<locals>.<lambda>", "_law_trial_right.<locals>.<lambda>.<locals>.<lambda>"])]
def tbL (K : PySem.W.Frag) : Tau := tbN.map fun p => (pT K p.1, p.2)
theorem cs_of {p : Str × List Str} (h : p ∈ tbN) : He.cT K (p.1, none) ∈ csL K := by
  have e : csL K = tbN.map fun p => He.cT K (p.1, none) := rfl
  rw [e]
  exact List.mem_map_of_mem (f := fun p : Str × List Str => He.cT K (p.1, none)) h
theorem tb_mem {p : Str × List Str} (h : p ∈ tbN) : (pT K p.1, p.2) ∈ tbL K := List.mem_map.mpr ⟨p, h, rfl⟩
theorem nodup_inj {α β : Type} {f : α → β} : ∀ {l : List α}, (l.map f).Nodup → ∀ {a b : α}, a ∈ l → b ∈ l → f a = f b → a = b
  | [], _, _, _, ha, _, _ => by cases ha
  | c :: l, nd, a, b, ha, hb, e => by
    rw [List.map_cons, List.nodup_cons] at nd
    rcases List.mem_cons.mp ha with ea | ha
    · rcases List.mem_cons.mp hb with eb | hb
      · rw [ea, eb]
      · exact absurd (List.mem_map.mpr ⟨b, hb, by rw [← e, ea]⟩) nd.1
    · rcases List.mem_cons.mp hb with eb | hb
      · exact absurd (List.mem_map.mpr ⟨a, ha, by rw [e, eb]⟩) nd.1
      · exact nodup_inj nd.2 ha hb e
theorem tabs_nil {H : Hp} (np : (tfT.map fun p => (He.cT K p).2).Nodup) (hT : ∀ p ∈ csL K, H p.2 = some (.tbl #[])) : TabT (tbL K) H := by
  refine tabT_nil (fun p hp p' hp' e => ?_) (fun p hp => ?_) fun p hp => ?_
  · obtain ⟨x, hx, rfl⟩ := List.mem_map.mp hp
    obtain ⟨y, hy, rfl⟩ := List.mem_map.mp hp'
    have z : (tbN.map fun p => pT K p.1).Nodup := np
    rw [nodup_inj z hx hy e]
  · obtain ⟨x, hx, rfl⟩ := List.mem_map.mp hp
    exact (show ∀ x ∈ tbN, x.2 ≠ [] by decide +kernel) x hx
  · obtain ⟨x, hx, rfl⟩ := List.mem_map.mp hp
    exact hT _ (cs_of hx)
end
theorem facts {P : Program} {w : World} {K : PySem.W.Frag} {h : Heap} {mg : Str → Option Value} {f : Addr} (X : K.In h) (G : h.Ns mainGlobals mg) (hfa : mg ("law" : Str) = some (.ref f)) (cc : SaysK h K) :
    ∃ fd : FuncData, (∀ (s : Shared) (v : Value), BindsTo s fd ⟨[v], []⟩ [("script", v)]) ∧ ∀ base : Heap, K.In base → base.Ns mainGlobals mg → (∀ p ∈ csL K, TabB base mg p.1 p.2) → FnOk P w K mg base CX0 17 f fd ["script"] (spLawT K (tbL K)) := by
  have c := cc.d
  obtain ⟨gStart, dStart, FStart⟩ := def_at c X G 0 0 (x := "_law_start") (st := sStart) rfl rfl
  obtain ⟨gDraw, dDraw, FDraw⟩ := def_at c X G 1 1 (x := "_law_draw") (st := sDraw) rfl rfl
  obtain ⟨gPick, dPick, FPick⟩ := def_at c X G 2 2 (x := "_law_pick") (st := sPick) rfl rfl
  obtain ⟨gNames, dNames, FNames⟩ := def_at c X G 3 3 (x := "_law_t_names") (st := sNames) rfl rfl
  obtain ⟨gRows, dRows, FRows⟩ := def_at c X G 4 4 (x := "_law_t_rows") (st := sRows) rfl rfl
  obtain ⟨gKey, dKey, FKey⟩ := def_at c X G 5 5 (x := "_law_t_key") (st := sKey) rfl rfl
  obtain ⟨gTells, dTells, FTells⟩ := def_at c X G 6 6 (x := "_law_t_tells") (st := sTells) rfl rfl
  obtain ⟨gSame, dSame, FSame⟩ := def_at c X G 7 7 (x := "_law_same") (st := sSame) rfl rfl
  obtain ⟨gTried, dTried, FTried⟩ := def_at c X G 8 8 (x := "_law_tried") (st := sTried) rfl rfl
  obtain ⟨gStands, dStands, FStands⟩ := def_at c X G 9 9 (x := "_law_stands") (st := sStands) rfl rfl
  obtain ⟨gDeed, dDeed, FDeed⟩ := def_at c X G 10 10 (x := "_law_deed") (st := sDeed) rfl rfl
  obtain ⟨gWork, dWork, FWork⟩ := def_at c X G 11 11 (x := "_law_work") (st := sWork) rfl rfl
  obtain ⟨gTrialR, dTrialR, FTrialR⟩ := def_at c X G 12 12 (x := "_law_trial_right") (st := sTrialR) rfl rfl
  obtain ⟨gLaw, dLaw, FLaw⟩ := def_at c X G 13 13 (x := "law") (st := sLaw) rfl rfl
  obtain ⟨gIsInt, dIsInt, FIsInt⟩ := def_at c X G 14 14 (x := "is_integer") (st := sIsInt) rfl rfl
  obtain ⟨gIsList, dIsList, FIsList⟩ := def_at c X G 15 15 (x := "is_list") (st := sIsList) rfl rfl
  obtain ⟨gIsName, dIsName, FIsName⟩ := def_at c X G 16 16 (x := "is_name") (st := sIsName) rfl rfl
  obtain ⟨gIsOne, dIsOne, FIsOne⟩ := def_at c X G 17 17 (x := "is_one_of") (st := sIsOne) rfl rfl
  obtain ⟨gHasJust, dHasJust, FHasJust⟩ := def_at c X G 18 18 (x := "has_just") (st := sHasJust) rfl rfl
  obtain ⟨gFirst, dFirst, FFirst⟩ := def_at c X G 19 19 (x := "first_bad") (st := sFirst) rfl rfl
  obtain ⟨gCkK, dCkK, FCkK⟩ := def_at c X G 20 20 (x := "check_known") (st := sCkK) rfl rfl
  obtain ⟨gCkA, dCkA, FCkA⟩ := def_at c X G 21 21 (x := "check_asked") (st := sCkA) rfl rfl
  obtain ⟨gCkB, dCkB, FCkB⟩ := def_at c X G 22 22 (x := "check_both") (st := sCkB) rfl rfl
  obtain ⟨gToldBy, dToldBy, FToldBy⟩ := def_at c X G 23 23 (x := "told_by") (st := sToldBy) rfl rfl
  obtain ⟨gBadRow, dBadRow, FBadRow⟩ := def_at c X G 24 24 (x := "_first_bad_row") (st := sBadRow) rfl rfl
  obtain ⟨mInit, dInit, FInit⟩ := meth_at c 51 25 (m := "__init__") (q := "Table.__init__") (st := sInit) rfl rfl
  obtain ⟨mQs, dQs, FQs⟩ := meth_at c 47 26 (m := "questions") (q := "Table.questions") (st := sQs) rfl rfl
  obtain ⟨mIsTold, dIsTold, FIsTold⟩ := meth_at c 48 27 (m := "is_told") (q := "Table.is_told") (st := sIsTold) rfl rfl
  obtain ⟨mPlaces, dPlaces, FPlaces⟩ := meth_at c 49 28 (m := "_places") (q := "Table._places") (st := sPlaces) rfl rfl
  obtain ⟨mParting, dParting, FParting⟩ := meth_at c 50 29 (m := "_parting_rows") (q := "Table._parting_rows") (st := sParting) rfl rfl
  obtain ⟨mFInit, dFInit, FFInit⟩ := vmeth_at c 68 30 (m := "__init__") (q := "File.__init__") (st := sFInit) rfl rfl
  obtain ⟨mLearn, dLearn, FLearn⟩ := vmeth_at c 58 31 (m := "learn") (q := "File.learn") (st := sLearn) rfl rfl
  obtain ⟨mForget, dForget, FForget⟩ := vmeth_at c 59 32 (m := "forget") (q := "File.forget") (st := sForget) rfl rfl
  obtain ⟨mKnown, dKnown, FKnown⟩ := vmeth_at c 60 33 (m := "known") (q := "File.known") (st := sKnown) rfl rfl
  obtain ⟨mTold, dTold, FTold⟩ := vmeth_at c 61 34 (m := "told") (q := "File.told") (st := sTold) rfl rfl
  obtain ⟨mFTells, dFTells, FFTells⟩ := vmeth_at c 62 35 (m := "tells") (q := "File.tells") (st := sFTells) rfl rfl
  obtain ⟨mUndo, dUndo, FUndo⟩ := vmeth_at c 63 36 (m := "undo") (q := "File.undo") (st := sUndo) rfl rfl
  obtain ⟨mAgain, dAgain, FAgain⟩ := vmeth_at c 64 37 (m := "again") (q := "File.again") (st := sAgain) rfl rfl
  obtain ⟨mCopy, dCopy, FCopy⟩ := vmeth_at c 65 38 (m := "copy") (q := "File.copy") (st := sCopy) rfl rfl
  obtain ⟨mTrial, dTrial, FTrial⟩ := vmeth_at c 66 39 (m := "trial") (q := "File.trial") (st := sTrial) rfl rfl
  obtain ⟨mDo, dDo, FDo⟩ := vmeth_at c 67 40 (m := "_do") (q := "File._do") (st := sDo) rfl rfl
  have n_list : mg "list" = none := He.free_ok X G (c.fact 27 rfl)
  have n_len : mg "len" = none := He.free_ok X G (c.fact 28 rfl)
  have n_int : mg "int" = none := He.free_ok X G (c.fact 29 rfl)
  have n_range : mg "range" = none := He.free_ok X G (c.fact 30 rfl)
  have n_dict : mg "dict" = none := He.free_ok X G (c.fact 31 rfl)
  have n_tuple : mg "tuple" = none := He.free_ok X G (c.fact 32 rfl)
  have n_str : mg "str" = none := He.free_ok X G (c.fact 33 rfl)
  have n_bool : mg "bool" = none := He.free_ok X G (c.fact 34 rfl)
  have n_isinstance : mg "isinstance" = none := He.free_ok X G (c.fact 35 rfl)
  have n_all : mg "all" = none := He.free_ok X G (c.fact 36 rfl)
  have n_any : mg "any" = none := He.free_ok X G (c.fact 37 rfl)
  have n_enumerate : mg "enumerate" = none := He.free_ok X G (c.fact 38 rfl)
  have n_zip : mg "zip" = none := He.free_ok X G (c.fact 39 rfl)
  have n_sorted : mg "sorted" = none := He.free_ok X G (c.fact 40 rfl)
  have n_KeyError : mg "KeyError" = none := He.free_ok X G (c.fact 41 rfl)
  have gC : mg "Table" = some (.ref (He.ga K "Table")) := He.glo_ok X G (c.fact 25 rfl)
  have gFl : mg "File" = some (.ref (He.ga K "File")) := He.glo_ok X G (c.fact 26 rfl)
  have gLo := He.int_ok X G (c.fact (f := .int "LONGEST" 40) 42 rfl)
  have gSg := He.str_ok X G (c.fact (f := .str "SIGNS" "abcdefghijklmnopqrstuvwxyz0123456789.") 43 rfl)
  have T0 : TabC K (He.ga K "Table") := ⟨He.cls_ok (c.fact 44 rfl), He.noat_ok (c.fact 45 rfl), He.noat_ok (c.fact 46 rfl)⟩
  have T : TabM K (He.ga K "Table") _ _ _ _ := ⟨T0, ⟨_, FQs⟩, ⟨_, FIsTold⟩, ⟨_, FPlaces⟩, ⟨_, FParting⟩, mQs, mIsTold, mPlaces, mParting⟩
  have TF : FilC K (He.ga K "File") := ⟨He.cls_ok (c.fact 53 rfl), He.noat_ok (c.fact 54 rfl), He.noat_ok (c.fact 55 rfl), He.noat_ok (c.fact 56 rfl), He.noat_ok (c.fact 57 rfl)⟩
  have Ck : Chk K mg _ _ _ _ _ _ := ⟨⟨_, FFirst⟩, ⟨_, FIsList⟩, ⟨_, FIsOne⟩, ⟨_, FCkK⟩, ⟨_, FCkA⟩, ⟨_, FCkB⟩, gFirst, gIsList, gIsOne, gCkK, gCkA, gCkB, n_isinstance, n_list, n_tuple, n_str, n_enumerate⟩
  have M : Sm mg := ⟨n_isinstance, n_list, n_tuple, n_int, n_bool, n_len, n_all, n_zip⟩
  have MkT := He.mkr_ok (c.fact (f := .mkr "Table") 52 rfl)
  have MkF := He.mkr_ok (c.fact (f := .mkr "File") 69 rfl)
  obtain ⟨_, mB⟩ := He.ba cc.mo
  obtain ⟨_, mB⟩ := He.ba mB
  obtain ⟨k1, mB⟩ := He.ba mB
  obtain ⟨k2, k3⟩ := He.ba mB
  have e := hfa.symm.trans gLaw
  cases e
  have cDe := code_of FDeed
  have cWo := code_of FWork
  have cTr := code_of FTrialR
  have cLw := code_of FLaw
  have cLw0 := cLw
  obtain ⟨oc, od, kV, doc, pm, an, cdv, ct, osl, rfl, lk, hcd⟩ := id FLaw.ex
  refine ⟨PySem.W.fnOf "law" "law" (defArgs sLaw) (defBody sLaw) (defScope sLaw) .none kV doc pm an cdv ct, fun s v => .of_eq rfl, fun base _ _ hTB => ?_⟩
  have ENoQuestion : ErrF P w K mg base "NoQuestion" (He.ga K "NoQuestion") "name" := err_at cc X G 70 41 (q := "NoQuestion.__init__") (st := sINoQuestion) rfl rfl (by simp [erT]) ⟨rfl, rfl, rfl, by decide +kernel, rfl, by decide +kernel, by decide +kernel⟩ rfl (by first | exact .inl rfl | exact .inr (.inl rfl)) (by first | exact .inl rfl | exact .inr (.inl rfl)) (by decide +kernel) (by decide +kernel) (fun _ _ _ _ _ _ us hl => match us, hl with | [_, _], _ => rfl)
  have EKnown : ErrF P w K mg base "Known" (He.ga K "Known") "name" := err_at cc X G 71 42 (q := "Known.__init__") (st := sIKnown) rfl rfl (by simp [erT]) ⟨rfl, rfl, rfl, by decide +kernel, rfl, by decide +kernel, by decide +kernel⟩ rfl (by first | exact .inl rfl | exact .inr (.inl rfl)) (by first | exact .inl rfl | exact .inr (.inl rfl)) (by decide +kernel) (by decide +kernel) (fun _ _ _ _ _ _ us hl => match us, hl with | [_, _], _ => rfl)
  have ENotKnown : ErrF P w K mg base "NotKnown" (He.ga K "NotKnown") "name" := err_at cc X G 72 43 (q := "NotKnown.__init__") (st := sINotKnown) rfl rfl (by simp [erT]) ⟨rfl, rfl, rfl, by decide +kernel, rfl, by decide +kernel, by decide +kernel⟩ rfl (by first | exact .inl rfl | exact .inr (.inl rfl)) (by first | exact .inl rfl | exact .inr (.inl rfl)) (by decide +kernel) (by decide +kernel) (fun _ _ _ _ _ _ us hl => match us, hl with | [_, _], _ => rfl)
  let EA : ErrA := ⟨He.ga K "NoQuestion", He.ga K "Known", He.ga K "NotKnown"⟩
  have gOf : ∀ cl ∈ clz3 EA, mg cl.x = some (.ref cl.C) ∧ cl.C = He.ga K cl.x ∧ (cl.x, cl.fld) ∈ erT := fun cl hm => by
    simp only [clz3, List.mem_cons, List.not_mem_nil, or_false] at hm
    rcases hm with rfl | rfl | rfl
    · exact ⟨ENoQuestion.g, rfl, by simp [erT]⟩
    · exact ⟨EKnown.g, rfl, by simp [erT]⟩
    · exact ⟨ENotKnown.g, rfl, by simp [erT]⟩
  have gKE : mg "KeyError" = none := n_KeyError
  have O : ClzOk K mg (clz3 EA) := by
    refine ⟨fun cl hm => (gOf cl hm).1, fun cl hm => ?_, fun cl hm cl' hm' => ?_, fun cl hm cl' hm' e => ?_, gKE, fun cl hm => ?_⟩
    · obtain ⟨_, e1, e2⟩ := gOf cl hm
      have z := errB_ok (cc.er _ e2)
      rw [e1]
      exact ⟨z.xf, z.no⟩
    · simp only [clz3, List.mem_cons, List.not_mem_nil, or_false] at hm hm'
      rcases hm with rfl | rfl | rfl <;> rcases hm' with rfl | rfl | rfl
      · exact He.exm_ok (c.fact (f := .exm "NoQuestion" "NoQuestion" true) 73 rfl)
      · exact He.exm_ok (c.fact (f := .exm "NoQuestion" "Known" false) 74 rfl)
      · exact He.exm_ok (c.fact (f := .exm "NoQuestion" "NotKnown" false) 75 rfl)
      · exact He.exm_ok (c.fact (f := .exm "Known" "NoQuestion" false) 76 rfl)
      · exact He.exm_ok (c.fact (f := .exm "Known" "Known" true) 77 rfl)
      · exact He.exm_ok (c.fact (f := .exm "Known" "NotKnown" false) 78 rfl)
      · exact He.exm_ok (c.fact (f := .exm "NotKnown" "NoQuestion" false) 79 rfl)
      · exact He.exm_ok (c.fact (f := .exm "NotKnown" "Known" false) 80 rfl)
      · exact He.exm_ok (c.fact (f := .exm "NotKnown" "NotKnown" true) 81 rfl)
    · simp only [clz3, List.mem_cons, List.not_mem_nil, or_false] at hm hm'
      rcases hm with rfl | rfl | rfl <;> rcases hm' with rfl | rfl | rfl <;> first | rfl | (dsimp only at e; exact absurd e (by decide))
    · simp only [clz3, List.mem_cons, List.not_mem_nil, or_false] at hm
      rcases hm with rfl | rfl | rfl
      · exact of_decide_eq_true k1
      · exact of_decide_eq_true k2
      · exact of_decide_eq_true k3
  have hb0 : ∃ P0, base.BuiltinsAt mg P0 := ⟨_, (hTB _ (cs_of (p := ("law", ["law.<locals>.<lambda>"])) (by decide))).bm⟩
  have GL := ok_learn (P := P) (w := w) (base := base) FLearn TF T Ck ENoQuestion EKnown FDo mDo
  have GFo := ok_forget (P := P) (w := w) (base := base) FForget TF Ck ENotKnown FDo mDo
  have GKn := ok_kn (P := P) (w := w) (mg := mg) (base := base) FKnown TF n_list
  have GTo := ok_fTold (P := P) (w := w) (base := base) FTold TF T Ck FKnown mKnown FToldBy gToldBy
  have GTe := ok_fTells (P := P) (w := w) (base := base) FFTells TF T Ck FKnown mKnown
  have GTx := ok_fTellsX (P := P) (w := w) (base := base) FFTells TF T Ck ENoQuestion FKnown mKnown
  have GUn := ok_undo (P := P) (w := w) (mg := mg) (base := base) FUndo TF
  have GAg := ok_again (P := P) (w := w) (mg := mg) (base := base) FAgain TF
  have GCo := ok_copy (P := P) (w := w) (base := base) FCopy TF gFl MkF FFInit
  have GDr : FnOk P w K mg base CX0 1 _ _ ["stream", "many"] spDraw := ok_draw FDraw n_int
  have GPi : FnOk P w K mg base CX0 2 _ _ ["stream", "some"] (spPick K) := ok_pick FPick FDraw gDraw n_int n_len
  have GLt : FnOk P w K mg base CX0 2 _ _ ["rows", "known", "asked"] (spTells K) := ok_tells FTells FKey gKey n_tuple
  have GSa := ok_sameT (P := P) (w := w) (base := base) FSame gSame M 2
  have L : LwF P w K mg base (He.ga K "File") (He.ga K "Table") (He.ga K "NoQuestion") (He.ga K "Known") (He.ga K "NotKnown") := { T := TF, TC := T0, learn := ⟨_, _, FLearn, mLearn, GL⟩, forget := ⟨_, _, FForget, mForget, GFo⟩, known := ⟨_, _, FKnown, mKnown, GKn⟩, told := ⟨_, _, FTold, mTold, GTo⟩, tells := ⟨_, _, FFTells, mFTells, GTe, GTx⟩, undo := ⟨_, _, FUndo, mUndo, GUn⟩, again := ⟨_, _, FAgain, mAgain, GAg⟩, copy := ⟨_, _, FCopy, mCopy, GCo⟩, trial := ⟨_, _, FTrial, mTrial⟩, draw := ⟨_, _, gDraw, FDraw, GDr⟩, pick := ⟨_, _, gPick, FPick, GPi⟩, lt := ⟨_, _, gTells, FTells, GLt⟩, same := ⟨_, _, gSame, FSame, GSa⟩, tried := ⟨_, _, gTried, FTried⟩, O := O, M := M, bi := hb0 }
  have GSt := ok_stands (P := P) (w := w) (base := base) FStands L
  have GDe := ok_deed (T := tbL K) FDeed cDe L (hTB _ (cs_of (p := ("_law_deed", ["_law_deed.<locals>.<lambda>"])) (by decide))).code (tb_mem (p := ("_law_deed", ["_law_deed.<locals>.<lambda>"])) (by decide))
  have GWo := ok_work (T := tbL K) FWork cWo L (hTB _ (cs_of (p := ("_law_work", ["_law_work.<locals>.<lambda>"])) (by decide))).code (tb_mem (p := ("_law_work", ["_law_work.<locals>.<lambda>"])) (by decide)) n_range FDeed gDeed GDe FStands gStands GSt
  have GTr := ok_trialR (T := tbL K) FTrialR cTr L (hTB _ (cs_of (p := ("_law_trial_right", ["_law_trial_right.<locals>.<lambda>", "_law_trial_right.<locals>.<lambda>.<locals>.<lambda>"])) (by decide))).code (tb_mem (p := ("_law_trial_right", ["_law_trial_right.<locals>.<lambda>", "_law_trial_right.<locals>.<lambda>.<locals>.<lambda>"])) (by decide)) FWork gWork GWo FStands gStands GSt
  have GIn := ok_init (P := P) (w := w) (base := base) FInit T0 (ok_badRow FBadRow FIsList gIsList FIsInt gIsInt FIsName gIsName FHasJust gHasJust n_isinstance n_list n_tuple n_str n_enumerate n_len n_all n_dict n_int n_bool gLo gSg) FBadRow gBadRow n_list n_tuple
  exact ok_law (T := tbL K) FLaw cLw0 { L := L, deed := ⟨_, _, gDeed, FDeed, GDe⟩, stands := ⟨_, _, gStands, FStands, GSt⟩, trialR := ⟨_, _, gTrialR, FTrialR, GTr⟩, nR := n_range, CH := (hTB _ (cs_of (p := ("law", ["law.<locals>.<lambda>"])) (by decide))).code, hT := tb_mem (p := ("law", ["law.<locals>.<lambda>"])) (by decide) } { start := ⟨_, _, gStart, FStart⟩, rows := ⟨_, _, gRows, FRows, ok_rows FRows FNames gNames FPick gPick FDraw gDraw n_int n_len n_range n_dict⟩, gT := gC, madeT := MkT, initT := ⟨_, FInit, GIn⟩, gF := gFl, madeF := MkF, initF := ⟨_, FFInit⟩ }
end L2.TB
open PySem PySem.W PySem.Calls PyProof.Rows
set_option maxHeartbeats 0 in
theorem PySem.Challenge.cw_twoworlds_k07_live_files_holds : PySem.Challenge.rw_twoworlds_k07_live_files.Holds := by
  w_on; o_law
  refine HandSHeadRun.head_any (r := L2.TB.HdR.R) (q := L2.TB.HdR.qv) (H := L2.TB.hookK) (ob := L2.TB.obT) (M := 16000) (loose := L2.TB.HdR.names)
    (d := HandSHeadRun.topDef L2.TB.HdR.R.prog 47) (kwd := []) L2.TB.obT_eq
    (by kernel_rfl) (fun s => by kernel_rfl) L2.TB.HdR.run (by kernel_rfl) (by kernel_rfl) (by kernel_rfl) (by rfl)
    (by first | assumption | decide +kernel) (by decide +kernel) ⟨rfl, rfl, rfl, rfl, rfl, by decide +kernel⟩ ?hw ?hc
  case hw => w_witness2
  case hc =>
    refine LamX.walk_ofTsE (l := PySem.Challenge.rw_twoworlds_k07_live_files) (n := 63) (k := 17) (x := "script") (CX := fun _ => L2.CX0)
      rfl (by decide) (by kernel_rfl) ⟨rfl, by decide, by decide⟩ ?F (fun _ _ _ _ _ z => z)
    intro w mg fa h Y G hmg0
    obtain ⟨K, KX, c⟩ := Y
    have hmg : mg ("law" : PySem.Str) = some (.ref fa) := by
      have e : (HandSHeadRun.topDef L2.TB.HdR.R.prog 47).name = ("law" : PySem.Str) := by kernel_rfl
      rw [← e]; exact hmg0
    obtain ⟨fd, hb, hF⟩ := L2.TB.facts (P := PySem.Challenge.rw_twoworlds_k07_live_files.prog) (w := w) KX G hmg c
    exact ⟨K, KX, fd, L2.TB.csL K, L2.TB.spLawT K (L2.TB.tbL K), fun p hp => c.emptyC hp, fun p hp => c.outC hp, fun p hp => PySem.W.codeHd_of_K KX (c.hdC hp), hb, fun H a ns hl _ hT hS => ⟨a, ns, rfl, hS, by omega, L2.TB.tabs_nil c.np hT, fun _ => rfl⟩, hF⟩
