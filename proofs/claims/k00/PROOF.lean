import PyProof.Rows.All
import Wide.All
import OpenK.AllK
import Wide.FinOn
import HandS.ForMost
import HandS.Exc
import HandS.ExcInit
import HandS.IsInst
import HandS.Defaults
import HandS.Wide
import HandS.Conv
import HandS.Dict
import HandS.DictTup
import HandS.DictComp
import HandS.Flow
import HandS.Style
import HandS.TupSets
import HandS.NoneIn
import HandS.Head0
import HandS.Head1
import HandS.Head2
import HandS.HeadEnd
import HandS.HeadHook1
import HandS.Iter
import KE.GoesEnum
import HandS.More
import HandS.List
import HandS.Zip
import KE.GoesZip
import KE.GoesMore
import HandS.Codes
import HandS.SetBool
import HandS.Strs
import KE.KEqNest
import HandS.OwnEq
import HandS.Deep
import PyProof.InstEq
import HandS.SetFor
import HandS.DeepEq
import PyProof.EqKinds
import HandS.ListItems
import PySem.Challenge.RW_twoworlds_k00_tables_told
set_option Elab.async false
set_option linter.all false
set_option maxRecDepth 100000
set_option maxHeartbeats 40000000
namespace L2.TB
open PySem PySem.Spec PyProof.Rows
def topS (i : Nat) : Stmt := PySem.Challenge.pw_twoworlds_k00_tables_told.main.body.getD i (.Pass ⟨0, 0, 0, 0⟩)
abbrev sStart : Stmt := topS 32
abbrev sDraw : Stmt := topS 33
abbrev sPick : Stmt := topS 34
abbrev sMixed : Stmt := topS 35
abbrev sSome : Stmt := topS 31
abbrev sNames : Stmt := topS 28
abbrev sRows : Stmt := topS 29
abbrev sTurned : Stmt := topS 30
abbrev sSame : Stmt := topS 36
abbrev sAlike : Stmt := topS 37
abbrev sLeftR : Stmt := topS 38
abbrev sOnlyR : Stmt := topS 39
abbrev sLaw : Stmt := topS 40
abbrev sIsInt : Stmt := topS 13
abbrev sIsList : Stmt := topS 14
abbrev sIsName : Stmt := topS 15
abbrev sIsOne : Stmt := topS 16
abbrev sFirst : Stmt := topS 18
abbrev sCkK : Stmt := topS 19
abbrev sCkA : Stmt := topS 20
abbrev sCkB : Stmt := topS 21
abbrev sHasJust : Stmt := topS 17
abbrev sAreInts : Stmt := topS 25
abbrev sBadRow : Stmt := topS 26
abbrev sTable : Stmt := topS 24
abbrev sInit : Stmt := inClass sTable 0
abbrev sQs : Stmt := inClass sTable 4
abbrev sPlaces : Stmt := inClass sTable 18
abbrev sLen : Stmt := inClass sTable 1
abbrev sEq : Stmt := inClass sTable 2
abbrev sAdd : Stmt := inClass sTable 3
abbrev sAnswers : Stmt := inClass sTable 6
abbrev sRowsM : Stmt := inClass sTable 13
abbrev sLeft : Stmt := inClass sTable 14
abbrev sMayBe : Stmt := inClass sTable 15
abbrev sOnly : Stmt := inClass sTable 16
abbrev sDictOf : Stmt := inClass sTable 17
abbrev sIsWorld : Stmt := inClass sTable 19
abbrev sCkAns : Stmt := inClass sTable 20
end L2.TB
namespace L2.TB
open PySem PySem.Spec PyProof.Rows
/-! ### what the top leaves, by addresses -/
def asK : List Nat := ([3, 6, 4, 21, 31, 51, 70, 89, 108, 127, 146, 158, 167, 174, 179, 186, 191, 198, 205, 212, 219, 224, 367, 376, 381, 386, 391, 396, 403, 410, 417, 424, 429, 434, 439, 444, 449, 454, 20, 30] : List Nat) ++
  ([50, 69, 88, 107, 126, 145, 157, 166, 173, 178, 185, 190, 197, 204, 211, 218, 223, 366, 375, 380, 385, 390, 395, 402, 409, 416, 423, 428, 433, 438, 443, 448, 453, 15, 16, 17, 18, 19, 29, 32] : List Nat) ++
  ([48, 49, 67, 68, 86, 87, 105, 106, 124, 125, 143, 144, 156, 161, 162, 163, 164, 165, 168, 169, 170, 171, 172, 175, 176, 177, 180, 181, 182, 183, 184, 187, 188, 189, 192, 193, 194, 195, 196, 199] : List Nat) ++
  ([200, 201, 202, 203, 206, 207, 208, 209, 210, 213, 214, 215, 216, 217, 220, 221, 222, 236, 243, 250, 257, 264, 271, 276, 283, 290, 295, 300, 307, 314, 319, 324, 329, 334, 339, 344, 349, 354, 359, 364] : List Nat) ++
  ([365, 368, 369, 372, 373, 374, 377, 378, 379, 382, 383, 384, 387, 388, 389, 392, 393, 394, 397, 398, 399, 400, 401, 404, 405, 406, 407, 408, 411, 412, 413, 414, 415, 418, 419, 420, 421, 422, 425, 426] : List Nat) ++
  ([427, 430, 431, 432, 435, 436, 437, 440, 441, 442, 445, 446, 447, 450, 451, 452, 47, 66, 85, 104, 123, 142, 235, 242, 249, 256, 263, 270, 275, 282, 289, 294, 299, 306, 313, 318, 323, 328, 333, 338] : List Nat) ++
  ([343, 348, 353, 358, 363, 42, 43, 44, 45, 46, 61, 62, 63, 64, 65, 80, 81, 82, 83, 84, 99, 100, 101, 102, 103, 118, 119, 120, 121, 122, 137, 138, 139, 140, 141, 232, 233, 234, 237, 238] : List Nat) ++
  ([239, 240, 241, 244, 245, 246, 247, 248, 251, 252, 253, 254, 255, 258, 259, 260, 261, 262, 265, 266, 267, 268, 269, 272, 273, 274, 277, 278, 279, 280, 281, 284, 285, 286, 287, 288, 291, 292, 293, 296] : List Nat) ++
  ([297, 298, 301, 302, 303, 304, 305, 308, 309, 310, 311, 312, 315, 316, 317, 320, 321, 322, 325, 326, 327, 330, 331, 332, 335, 336, 337, 340, 341, 342, 345, 346, 347, 350, 351, 352, 355, 356, 357, 360] : List Nat) ++
  ([361, 362] : List Nat)
def dd (p : Str × Option Str) (x q : Str) (st : Stmt) : He.FnD := ⟨p, x, q, defArgs st, defBody st, defScope st⟩
def fnT : List He.FnD := ([dd ("_law_start", none) "_law_start" "_law_start" sStart, dd ("_law_draw", none) "_law_draw" "_law_draw" sDraw, dd ("_law_pick", none) "_law_pick" "_law_pick" sPick, dd ("_law_mixed", none) "_law_mixed" "_law_mixed" sMixed, dd ("_law_t_some", none) "_law_t_some" "_law_t_some" sSome, dd ("_law_t_names", none) "_law_t_names" "_law_t_names" sNames, dd ("_law_t_rows", none) "_law_t_rows" "_law_t_rows" sRows, dd ("_law_t_turned_rows", none) "_law_t_turned_rows" "_law_t_turned_rows" sTurned] : List He.FnD) ++
  ([dd ("_law_same", none) "_law_same" "_law_same" sSame, dd ("_law_alike_ones", none) "_law_alike_ones" "_law_alike_ones" sAlike, dd ("_law_left_right", none) "_law_left_right" "_law_left_right" sLeftR, dd ("_law_only_right", none) "_law_only_right" "_law_only_right" sOnlyR, dd ("law", none) "law" "law" sLaw, dd ("is_integer", none) "is_integer" "is_integer" sIsInt, dd ("is_list", none) "is_list" "is_list" sIsList, dd ("is_name", none) "is_name" "is_name" sIsName] : List He.FnD) ++
  ([dd ("is_one_of", none) "is_one_of" "is_one_of" sIsOne, dd ("first_bad", none) "first_bad" "first_bad" sFirst, dd ("check_known", none) "check_known" "check_known" sCkK, dd ("check_asked", none) "check_asked" "check_asked" sCkA, dd ("check_both", none) "check_both" "check_both" sCkB, dd ("has_just", none) "has_just" "has_just" sHasJust, dd ("_are_integers", none) "_are_integers" "_are_integers" sAreInts, dd ("_first_bad_row", none) "_first_bad_row" "_first_bad_row" sBadRow] : List He.FnD) ++
  ([dd ("Table", some "__init__") "__init__" "Table.__init__" sInit, dd ("Table", some "questions") "questions" "Table.questions" sQs, dd ("Table", some "_places") "_places" "Table._places" sPlaces, dd ("Table", some "__len__") "__len__" "Table.__len__" sLen, dd ("Table", some "__eq__") "__eq__" "Table.__eq__" sEq, dd ("Table", some "__add__") "__add__" "Table.__add__" sAdd, dd ("Table", some "answers") "answers" "Table.answers" sAnswers, dd ("Table", some "rows") "rows" "Table.rows" sRowsM] : List He.FnD) ++
  ([dd ("Table", some "left") "left" "Table.left" sLeft, dd ("Table", some "may_be") "may_be" "Table.may_be" sMayBe, dd ("Table", some "only") "only" "Table.only" sOnly, dd ("Table", some "_dict_of") "_dict_of" "Table._dict_of" sDictOf, dd ("Table", some "_is_world") "_is_world" "Table._is_world" sIsWorld, dd ("Table", some "_check_answers") "_check_answers" "Table._check_answers" sCkAns] : List He.FnD)
def faT : List He.Fa := ([.glo "_law_start", .glo "_law_draw", .glo "_law_pick", .glo "_law_mixed", .glo "_law_t_some", .glo "_law_t_names", .glo "_law_t_rows", .glo "_law_t_turned_rows", .glo "_law_same", .glo "_law_alike_ones", .glo "_law_left_right", .glo "_law_only_right", .glo "law", .glo "is_integer", .glo "is_list", .glo "is_name"] : List He.Fa) ++
  ([.glo "is_one_of", .glo "first_bad", .glo "check_known", .glo "check_asked", .glo "check_both", .glo "has_just", .glo "_are_integers", .glo "_first_bad_row", .keep "_law_start", .keep "_law_draw", .keep "_law_pick", .keep "_law_mixed", .keep "_law_t_some", .keep "_law_t_names", .keep "_law_t_rows", .keep "_law_t_turned_rows"] : List He.Fa) ++
  ([.keep "_law_same", .keep "_law_alike_ones", .keep "_law_left_right", .keep "_law_only_right", .keep "law", .keep "is_integer", .keep "is_list", .keep "is_name", .keep "is_one_of", .keep "first_bad", .keep "check_known", .keep "check_asked", .keep "check_both", .keep "has_just", .keep "_are_integers", .keep "_first_bad_row"] : List He.Fa) ++
  ([.glo "Table", .free "list", .free "len", .free "int", .free "range", .free "dict", .free "tuple", .free "str", .free "bool", .free "isinstance", .free "all", .free "enumerate", .free "zip", .free "sorted", .free "set", .free "any"] : List He.Fa) ++
  ([.int "LONGEST" 40, .str "SIGNS" "abcdefghijklmnopqrstuvwxyz0123456789.", .cls "Table", .noat "Table" "_questions", .noat "Table" "_rows", .meth "Table" "questions", .meth "Table" "_places", .meth "Table" "__len__", .meth "Table" "__eq__", .meth "Table" "__add__", .meth "Table" "answers", .meth "Table" "rows", .meth "Table" "left", .meth "Table" "may_be", .meth "Table" "only", .meth "Table" "_dict_of"] : List He.Fa) ++
  ([.meth "Table" "_is_world", .meth "Table" "_check_answers", .meth "Table" "__init__", .mkr "Table"] : List He.Fa)
/-- of the class besides -/
def moreB (K : PySem.W.Frag) : Bool := PySem.W.selfFirst K (He.ga K "Table") && (He.eqO (PySem.W.findIn K (.ref (He.ga K "Table")) "__class__") (some (some (.builtin "object.__class__"))) && (He.eqO (PySem.W.specialIn K (.builtin "object.__class__") "__get__") (some (some (.builtin "getset_descriptor.__get__"))) &&
  (decide (PySem.W.takesIn K (.builtin "object.__class__") = some true) && decide (PySem.W.mroIn K (He.ga K "Table") (.type "object") = some true)))) && (He.eqO (PySem.W.findIn K (.ref (He.ga K "Table")) "__ne__") (some (some (.builtin "object.__ne__"))) &&
  (["NoneType", "int", "list", "str"].all fun t => PySem.W.notFirst K (He.ga K "Table") (.type t) && decide (PySem.W.kitOne K (.type t) (.ref (He.ga K "Table")) = some false)))
def obsU (K : PySem.W.Frag) : Bool × He.Al := (moreB K, He.obsE faT fnT K)
def hookK : PySem.W.Hook where
  α := Bool × He.Al
  obs := fun s => obsU (He.frG s.heap.get? asK)
  val := fun _ => (true, He.valE fnT)
  says := fun _ h => ∃ K : PySem.W.Frag, K.In h ∧ He.SaysE faT fnT K ∧ moreB K = true
  of := fun _ _ e => ⟨_, He.frG_in, congrArg (fun z : Bool × He.Al => z.2) e, congrArg (fun z : Bool × He.Al => z.1) e⟩
  keeps := fun _ _ _ ⟨K, hK, c⟩ k => ⟨K, PySem.W.Frag.In.keeps hK k, c⟩
def obT (s : PySem.W.SharedT) : Bool × He.Al := obsU (He.frG (HandSHeadRun.getT s) asK)
theorem obT_eq (s : PySem.W.SharedT) : obT s = hookK.obs s.abs := by
  have e : HandSHeadRun.getT s = s.abs.heap.get? := funext fun a => HandSHeadRun.getT_eq s a
  unfold obT
  rw [e] <;> rfl
namespace HdR
open PySem PySem.W PySem.Calls PyProof.Rows
abbrev R : OpenRow := OpenLaw.row PySem.Challenge.rw_twoworlds_k00_tables_told
abbrev qv : Program := view R.prog [40]
def names : List PySem.Str := (["_wall", "WorldError", "BadWorld", "BadKnown", "NoQuestion", "BadPlan", "BadAnswers", "BadRow", "UnlikeQuestions", "is_integer", "is_list", "is_name", "is_one_of", "has_just", "first_bad", "check_known", "check_asked", "check_both", "check_lacking", "Table", "_are_integers", "_first_bad_row", "_law_t_names", "_law_t_rows", "_law_t_turned_rows", "_law_t_some", "_law_start", "_law_draw", "_law_pick", "_law_mixed"] : List PySem.Str) ++
  (["_law_same", "_law_alike_ones", "_law_left_right", "_law_only_right", "SIGNS", "LONGEST"] : List PySem.Str)
set_option maxHeartbeats 0 in
theorem run (w : World) : HandSHeadRun.RunEq R qv L2.TB.hookK L2.TB.obT 16000 names w := by
  intro os
  kernel_rfl
end HdR
end L2.TB
namespace L2.TB
open PySem PySem.Spec PyProof.Rows
/-! ### the spring of draws -/
structure StrmAt (H : Hp) (l ls : Addr) (cs : List Int) (g k m N : Int) : Prop where
  o : H l = some (.lst [.ref ls, .int g, .int k, .int m])
  c : H ls = some (.lst (cs.map V.int))
  ne : ls ≠ l
  g0 : 0 ≤ g
  k0 : 0 ≤ k
  k1 : k ≤ N
  m0 : 0 ≤ m
  m1 : m < 2147483647
  sz : cs.length ≤ 100
def Strm (H : Hp) (l ls : Addr) (N : Int) : Prop := ∃ cs g k m, StrmAt H l ls cs g k m N
/-- all but the spring is as it was -/
def But (l ls : Addr) (H H' : Hp) : Prop := ∀ b o, b ≠ l → b ≠ ls → H b = some o → H' b = some o
theorem But.refl (l ls : Addr) (H : Hp) : But l ls H H := fun _ _ _ _ e => e
theorem But.trans {l ls : Addr} {H H1 H2 : Hp} (a : But l ls H H1) (b : But l ls H1 H2) : But l ls H H2 := fun c o h1 h2 e => b c o h1 h2 (a c o h1 h2 e)
theorem But.of {l ls : Addr} {H H' : Hp} (a : Same H H') : But l ls H H' := fun c o _ _ e => a c o e
theorem But.upd {l ls a : Addr} {H : Hp} {o : HO} (h : a = l ∨ a = ls) : But l ls H (upd H a o) := fun b u h1 h2 e => by
  have ne : b ≠ a := by rcases h with h | h <;> (subst h; assumption)
  rw [upd_ne ne]; exact e
theorem dp_ints {K : PySem.W.Frag} {H : Hp} : ∀ cs : List Int, DpAll K H (cs.map V.int) (cs.map PyData.int)
  | [] => .nil
  | c :: cs => .cons (.int c) (dp_ints cs)
def spDraw : Sp := fun vs H Q _ => ∃ (l ls : Addr) (many N : Int), vs = [.ref l, .int many] ∧ Strm H l ls N ∧ N ≤ 1000000 ∧ 0 < many ∧ many < 1000 ∧
  ∀ H' r, 0 ≤ r → r < many → Strm H' l ls (N + 1) → But l ls H H' → Q (.int r) H'
theorem scDraw : FnScope ["stream", "many", "cell", "digit", "mixed"] ["stream", "many"] (defScope sDraw) := ⟨rfl, rfl, rfl, by decide +kernel, rfl, by decide +kernel, by decide +kernel⟩
theorem pow_nn (a : Int) (h : 0 ≤ a) : 0 ≤ a ^ (Int.toNat 5) := Int.pow_nonneg h
theorem at0 {a b c d : V} : atI [a, b, c, d] 0 = some a := rfl
theorem at1 {a b c d : V} : atI [a, b, c, d] 1 = some b := rfl
theorem at2 {a b c d : V} : atI [a, b, c, d] 2 = some c := rfl
theorem at3 {a b c d : V} : atI [a, b, c, d] 3 = some d := rfl
theorem draw_end {A B C many : Int} (h : 0 < many) : 0 ≤ A % B % many ∧ A % B % many < many :=
  ⟨Int.emod_nonneg _ (by omega), Int.emod_lt_of_pos _ h⟩
section
variable {P : Program} {w : World} {K : PySem.W.Frag} {mg : Str → Option Value} {base : Heap} {f : Addr} {fd : FuncData}
theorem ok_draw (F : Fun K "_law_draw" "_law_draw" sDraw f fd) (gI : mg "int" = none) : FnOk P w K mg base CX0 1 f fd ["stream", "many"] spDraw := by
  refine F.ok scDraw (fun vs H Q E h => by obtain ⟨l, ls, many, N, e, _⟩ := h; rw [e]; rfl) fun cdv A outer s H vs Q E hr hsp => ?_
  obtain ⟨l, ls, many, N, rfl, ⟨cs, g, k, m, S⟩, hN, h0, h1, hq⟩ := hsp
  have nd := scDraw.nd
  have hu := hu_of hr
  have hu64 := hr.units
  obtain ⟨tl, ptl, htl⟩ : ∃ t, PSs (cxOf CX0 P w K mg base ["stream", "many", "cell", "digit", "mixed"] "_law_draw" (defScope sDraw) f cdv A outer s H E).nox ((defBody sDraw).drop 2) t ∧
      ∀ (H1 : Hp) (c : Option V) (cs : List Int) (g k m : Int), StrmAt H1 l ls cs g k m (N + 1) → But l ls H H1 →
        t { nx := fun _ H' => Q .non H', rt := Q } [some (.ref l), some (.int many), c, none, none] H1 := by
    refine ⟨_, pss_cons (ps_if (pt_cmpR op_gt (pe_ix ix_list (pv 0) pe_int (fun _ _ => rfl)) pe_int (nomark _))
      (pss_cons (ps_set (i := 3) nd rfl (Or.inl rfl) (pe_op op_mod (pe_callTy call_int1 rfl gI boot_int (pa_cons (pe_ix ix_list (pv 0) pe_int (fun _ _ => rfl)) pa_nil)) (pv 1)))
      (pss_cons (ps_asg (pe_op op_fdiv (pe_ix ix_list (pv 0) pe_int (fun _ _ => rfl)) (pv 1)) (pg_sub (pv 0) pe_int set_list))
      (pss_one (ps_ret (pv 3)))))
      pss_nil)
    (pss_cons (ps_set (i := 4) nd rfl (Or.inl rfl) (pe_op op_mod (pe_callTy call_int1 rfl gI boot_int (pa_cons (pe_op op_pow (pe_op op_add (pe_op op_add (pe_ix ix_list (pv 0) pe_int (fun _ _ => rfl)) (pe_op op_mul pe_int (pe_ix ix_list (pv 0) pe_int (fun _ _ => rfl)))) pe_int) pe_int) pa_nil)) pe_int))
    (pss_one (ps_ret (pe_op op_mod (pe_op op_mod (pe_callTy call_int1 rfl gI boot_int (pa_cons (pe_op op_pow (pe_op op_add (pe_op op_add (pe_op op_mul (pv 4) pe_int) (pe_op op_mul pe_int (pe_ix ix_list (pv 0) pe_int (fun _ _ => rfl)))) pe_int) pe_int) pa_nil)) pe_int) (pv 1))))), fun H1 c cs g k m S hB => ?_⟩
    refine ⟨_, rfl, _, _, _, _, rfl, rfl, SqL.of S.o, at1, _, _, rfl, rfl, _, rfl, ite2 (fun e => ?_) (fun e => ?_)⟩
    · refine ⟨_, rfl, _, _, _, _, rfl, rfl, SqL.of S.o, at1, .inl ⟨_, rfl, ?_⟩⟩
      refine ⟨_, rfl, _, _, rfl, rfl, h0, ?_⟩
      refine ⟨_, rfl, _, _, _, _, rfl, rfl, SqL.of S.o, at1, _, rfl, _, _, rfl, rfl, ⟨h0, by omega⟩, ?_⟩
      refine ⟨_, rfl, _, _, _, _, rfl, rfl, S.o, rfl, ?_⟩
      refine ⟨_, rfl, ?_⟩
      refine hq _ _ (Int.emod_nonneg _ (by omega)) (Int.emod_lt_of_pos _ h0) ⟨cs, g / many, k, m, ⟨upd_same, ?_, S.ne, Int.ediv_nonneg S.g0 (by omega), S.k0, S.k1, S.m0, S.m1, S.sz⟩⟩ (hB.trans (But.upd (.inl rfl)))
      rw [upd_ne S.ne]; exact S.c
    · have hk := S.k1
      have hk0 := S.k0
      have hm := S.m0
      have hm1 := S.m1
      refine ⟨_, rfl, _, _, _, _, rfl, rfl, SqL.of S.o, at3, _, rfl, _, _, _, _, rfl, rfl, SqL.of S.o, at2, _, _, rfl, rfl, .inl ⟨by decide, by decide⟩, _, _, rfl, rfl, _, _, rfl, rfl, _, _, rfl, rfl, ⟨by decide, by decide, ?_⟩, ?_⟩
      · omega
      refine .inl ⟨_, rfl, _, _, rfl, rfl, (by show (0 : Int) < 2147483629; decide), ?_⟩
      have e1 := Int.emod_nonneg ((m + 7919 * k + 104729) ^ Int.toNat 5) (show (2147483629 : Int) ≠ 0 by decide)
      have e2 := Int.emod_lt_of_pos ((m + 7919 * k + 104729) ^ Int.toNat 5) (show (0 : Int) < 2147483629 by decide)
      generalize (m + 7919 * k + 104729) ^ Int.toNat 5 % 2147483629 = z at e1 e2 ⊢
      refine ⟨_, rfl, _, _, rfl, rfl, .inr ⟨by decide, by decide⟩, _, rfl, _, _, _, _, rfl, rfl, SqL.of S.o, at2, _, _, rfl, rfl, .inl ⟨by decide, by decide⟩, _, _, rfl, rfl, _, _, rfl, rfl, _, _, rfl, rfl, ⟨by decide, by decide, ?_⟩, ?_⟩
      · omega
      refine .inl ⟨_, rfl, _, _, rfl, rfl, (by show (0 : Int) < 1000000007; decide), _, rfl, _, _, rfl, rfl, h0, ?_⟩
      exact hq _ _ (Int.emod_nonneg _ (by omega)) (Int.emod_lt_of_pos _ h0) ⟨cs, g, k, m, S⟩ hB
  refine ⟨_, pss_cons (ps_asg (pe_op op_add (pe_ix ix_list (pv 0) pe_int (fun _ _ => rfl)) pe_int) (pg_sub (pv 0) pe_int set_list))
    (pss_cons (ps_if (PW.pt (pw_and (pt_cmpR op_eq (pe_ix ix_list (pv 0) pe_int (fun _ _ => rfl)) pe_int (nomark _))
        (pw_and1 (pt_cmpR (op_neD hu64) (pe_ix ix_list (pv 0) pe_int (fun _ _ => rfl)) (pe_lst pa_nil) (nomark _)))))
      (pss_cons (ps_set (i := 2) nd rfl (Or.inl rfl) (pe_bm PySem.F.plainAttrs_list PySem.F.slot_list_pop PySem.F.type_list_pop mt_popAt (pe_ix ix_list (pv 0) pe_int (fun _ _ => rfl)) (pa_cons pe_int pa_nil)))
      (pss_cons (ps_asg (pe_op op_mod (pe_callTy call_int1 rfl gI boot_int (pa_cons (pe_op op_add (pe_op op_add (pe_op op_mul (pe_ix ix_list (pv 0) pe_int (fun _ _ => rfl)) pe_int) (pv 2)) pe_int) pa_nil)) pe_int) (pg_sub (pv 0) pe_int set_list))
      (pss_one (ps_asg (pe_ifExp (pt_cmpR op_ge (pv 2) (pe_op op_pow pe_int pe_int) (nomark _)) (pv 2) pe_int) (pg_sub (pv 0) pe_int set_list)))))
      pss_nil) ptl), ?_⟩
  refine ⟨_, rfl, _, _, _, _, rfl, rfl, SqL.of S.o, at2, _, _, rfl, rfl, _, rfl, _, _, _, _, rfl, rfl, S.o, rfl, ?_⟩
  have S1 : StrmAt (upd H l (.lst [.ref ls, .int g, .int (k + 1), .int m])) l ls cs g (k + 1) m (N + 1) :=
    ⟨upd_same, by rw [upd_ne S.ne]; exact S.c, S.ne, S.g0, by have := S.k0; omega, by have := S.k1; omega, S.m0, S.m1, S.sz⟩
  have B1 : But l ls H (upd H l (.lst [.ref ls, .int g, .int (k + 1), .int m])) := But.upd (.inl rfl)
  refine ⟨_, rfl, _, _, _, _, rfl, rfl, SqL.of S1.o, at1, rfl, _, rfl, ite2 (fun e => ?_) (fun e => ?_)⟩
  · refine ⟨_, rfl, _, _, _, _, rfl, rfl, SqL.of S1.o, at0, Nat.zero_le _, fun q nq => ?_⟩
    have ql : q ≠ l := by
      intro z; rw [z, upd_same] at nq; cases nq
    have qs : q ≠ ls := by
      intro z; rw [z, upd_ne S.ne] at nq; rw [S.c] at nq; cases nq
    have S2 : StrmAt (upd (upd H l (.lst [.ref ls, .int g, .int (k + 1), .int m])) q (.lst [])) l ls cs g (k + 1) m (N + 1) :=
      ⟨by rw [upd_ne (Ne.symm ql)]; exact S1.o, by rw [upd_ne (Ne.symm qs)]; exact S1.c, S.ne, S1.g0, S1.k0, S1.k1, S1.m0, S1.m1, S1.sz⟩
    have B2 : But l ls H (upd (upd H l (.lst [.ref ls, .int g, .int (k + 1), .int m])) q (.lst [])) := B1.trans (But.of fun b o eb => by
      rw [upd_ne (ne_of_none eb nq)]; exact eb)
    refine ⟨.list (cs.map .int), .list [], .lst (SqL.of S2.c) (dp_ints cs), .lst (SqL.of upd_same) .nil, PySem.W.shaped_ints cs, by decide, ?_⟩
    cases cs with
    | nil =>
      refine ⟨_, rfl, iteF ?_⟩
      exact htl _ none [] g (k + 1) m S2 B2
    | cons c cs =>
      refine ⟨_, rfl, iteT ?_⟩
      refine ⟨_, rfl, _, _, _, _, rfl, rfl, SqL.of S2.o, at0, .inl ⟨rfl, _, SqL.of S2.c⟩, ?_⟩
      have ix0 : ixN ((c :: cs).map V.int).length 0 = some 0 := by
        simp [ixN]
      refine ⟨ls, _, 0, 0, .int c, rfl, rfl, S2.c, by decide, by decide, (ixN_seq ix0).1, rfl, ?_⟩
      have S3 : StrmAt (upd (upd (upd H l (.lst [.ref ls, .int g, .int (k + 1), .int m])) q (.lst [])) ls (.lst (cs.map V.int))) l ls cs g (k + 1) m (N + 1) :=
        ⟨by rw [upd_ne (Ne.symm S.ne)]; exact S2.o, upd_same, S.ne, S2.g0, S2.k0, S2.k1, S2.m0, S2.m1, by have := S2.sz; simp only [List.length_cons] at this; omega⟩
      have B3 := B2.trans (But.upd (l := l) (ls := ls) (a := ls) (H := upd (upd H l (.lst [.ref ls, .int g, .int (k + 1), .int m])) q (.lst [])) (o := .lst (cs.map V.int)) (.inr rfl))
      have hm0 := S.m0
      have hm1 := S.m1
      refine ⟨_, rfl, _, _, _, _, rfl, rfl, SqL.of S3.o, at3, _, _, rfl, rfl, .inl ⟨by omega, by omega⟩, _, rfl, _, _, rfl, rfl, _, _, rfl, rfl, .inl ⟨_, rfl, _, _, rfl, rfl, (by show (0 : Int) < 2147483647; decide), ?_⟩⟩
      refine ⟨_, rfl, _, _, _, _, rfl, rfl, S3.o, rfl, ?_⟩
      have S4 : StrmAt (upd (upd (upd (upd H l (.lst [.ref ls, .int g, .int (k + 1), .int m])) q (.lst [])) ls (.lst (cs.map V.int))) l (.lst [.ref ls, .int g, .int (k + 1), .int ((m * 8191 + c + 3) % 2147483647)])) l ls cs g (k + 1) ((m * 8191 + c + 3) % 2147483647) (N + 1) :=
        ⟨upd_same, by rw [upd_ne S.ne]; exact S3.c, S.ne, S3.g0, S3.k0, S3.k1, Int.emod_nonneg _ (by decide), Int.emod_lt_of_pos _ (by decide), S3.sz⟩
      have B4 := B3.trans (But.upd (l := l) (ls := ls) (a := l) (o := .lst [.ref ls, .int g, .int (k + 1), .int ((m * 8191 + c + 3) % 2147483647)]) (.inl rfl))
      refine ⟨_, rfl, _, _, rfl, rfl, ⟨by decide, by decide, by decide⟩, _, _, rfl, rfl, _, rfl, ite2 (fun e4 => ?_) (fun e4 => ?_)⟩
      · refine ⟨_, rfl, _, rfl, _, _, _, _, rfl, rfl, S4.o, rfl, ?_⟩
        have hc : (0 : Int) ≤ c := by
          have z := of_decide_eq_true e4
          have z2 : (0 : Int) ≤ 10 ^ (Int.toNat 18) := Int.pow_nonneg (by decide)
          omega
        exact htl _ (some (.int c)) cs c (k + 1) ((m * 8191 + c + 3) % 2147483647)
          ⟨upd_same, by rw [upd_ne S.ne]; exact S4.c, S.ne, hc, S4.k0, S4.k1, S4.m0, S4.m1, S4.sz⟩ (B4.trans (But.upd (.inl rfl)))
      · refine ⟨_, rfl, _, _, _, _, rfl, rfl, S4.o, rfl, ?_⟩
        exact htl _ (some (.int c)) cs 0 (k + 1) ((m * 8191 + c + 3) % 2147483647)
          ⟨upd_same, by rw [upd_ne S.ne]; exact S4.c, S.ne, by decide, S4.k0, S4.k1, S4.m0, S4.m1, S4.sz⟩ (B4.trans (But.upd (.inl rfl)))
  · refine iteF ?_
    exact htl _ none cs g (k + 1) m S1 B1
def spStart (K : PySem.W.Frag) : Sp := fun vs H Q _ => ∃ (a : Addr) (ns : List Int), vs = [.ref a] ∧ SqL K H a (ns.map V.int) ∧ ns.length ≤ 100 ∧
  ∀ H' l ls, H l = none → Same H H' → Strm H' l ls 0 → H ls = none → Q (.ref l) H'
theorem scStart : FnScope ["script"] ["script"] (defScope sStart) := ⟨rfl, rfl, rfl, by decide +kernel, rfl, by decide +kernel, by decide +kernel⟩
theorem ok_start (F : Fun K "_law_start" "_law_start" sStart f fd) (gL : mg "list" = none) : FnOk P w K mg base CX0 1 f fd ["script"] (spStart K) := by
  refine F.ok scStart (fun vs H Q E h => by obtain ⟨a, ns, e, _⟩ := h; rw [e]; rfl) fun cdv A outer s H vs Q E hr hsp => ?_
  obtain ⟨a, ns, rfl, hS, hn, hq⟩ := hsp
  refine ⟨_, pss_one (ps_ret (pe_lst (pa_cons (pe_callTy call_list_of rfl gL (by decide +kernel) (pa_cons (pv 0) pa_nil)) (pa_cons pe_int (pa_cons pe_int (pa_cons pe_int pa_nil)))))), ?_⟩
  refine ⟨_, rfl, _, _, rfl, .inl hS, fun ls hls => ⟨by rw [sizeLine_eq]; show 4 ≤ _; omega, fun l hl => ?_⟩⟩
  have ne : ls ≠ l := by
    intro z; rw [← z, upd_same] at hl; cases hl
  have hl2 : H l = none := by rw [upd_ne (Ne.symm ne)] at hl; exact hl
  exact hq _ l ls hl2 (fun b o e => by rw [upd_ne (ne_of_none e hl2), upd_ne (ne_of_none e hls)]; exact e)
    ⟨ns, 0, 0, 11, ⟨upd_same, by rw [upd_ne ne, upd_same], ne, by decide, by decide, by decide, by decide, by decide, hn⟩⟩ hls
def spPick (K : PySem.W.Frag) : Sp := fun vs H Q _ => ∃ (l ls c : Addr) (xs : List V) (N : Int), vs = [.ref l, .ref c] ∧ Strm H l ls N ∧ N ≤ 1000000 ∧
  c ≠ l ∧ c ≠ ls ∧ H c = some (.lst xs) ∧ 0 < xs.length ∧ xs.length < 1000 ∧
  ∀ H' x, x ∈ xs → Strm H' l ls (N + 1) → But l ls H H' → Q x H'
theorem scPick : FnScope ["stream", "some"] ["stream", "some"] (defScope sPick) := ⟨rfl, rfl, rfl, by decide +kernel, rfl, by decide +kernel, by decide +kernel⟩
theorem ok_pick {fD : Addr} {fdD : FuncData} (F : Fun K "_law_pick" "_law_pick" sPick f fd) (FD : Fun K "_law_draw" "_law_draw" sDraw fD fdD)
    (gD : mg "_law_draw" = some (.ref fD)) (gI : mg "int" = none) (gN : mg "len" = none) : FnOk P w K mg base CX0 2 f fd ["stream", "some"] (spPick K) := by
  have G : FnOk P w K mg base CX0 1 fD fdD ["stream", "many"] spDraw := ok_draw FD gI
  have b := FD.binds (ps := ["stream", "many"]) fun _ _ _ _ _ _ us hl => match us, hl with | [_, _], _ => rfl
  refine F.ok scPick (fun vs H Q E h => by obtain ⟨l, ls, c, xs, N, e, _⟩ := h; rw [e]; rfl) fun cdv A outer s H vs Q E hr hsp => ?_
  obtain ⟨l, ls, c, xs, N, rfl, hS, hN, n1, n2, hc, h0, h1, hq⟩ := hsp
  refine ⟨_, pss_one (ps_ret (pe_ix ix_list (pv 1) (pe_call G hr rfl gD FD.kp b .nil pass0 (pa_cons (pv 0) (pa_cons (pe_callB call_len rfl gN boot_len (pa_cons (pv 1) pa_nil)) pa_nil))) (fun _ _ => rfl))), ?_⟩
  refine ⟨_, rfl, _, rfl, _, rfl, _, xs.length, rfl, .inl ⟨_, SqL.of hc, rfl⟩, ?_⟩
  refine ⟨l, ls, _, N, rfl, hS, hN, by omega, by omega, fun H' r r0 r1 S' B' => ?_⟩
  have hr2 : r.toNat < xs.length := by omega
  refine ⟨_, _, _, xs[r.toNat], rfl, rfl, SqL.of (B' c _ n1 n2 hc), ?_, hq H' _ (List.getElem_mem _) S' B'⟩
  have e : ((r.toNat : Nat) : Int) = r := by omega
  have z := atI_nat (xs := xs) (j := r.toNat) (v := xs[r.toNat]) (by simp)
  rw [e] at z
  exact z
end
end L2.TB
namespace L2.TB
open PySem PySem.Spec PyProof.Rows
theorem same_new {H : Hp} {p : Addr} {o : HO} (n : H p = none) : Same H (upd H p o) := fun c u z => by rw [upd_ne (ne_of_none z n)]; exact z
theorem Strm.same {H H' : Hp} {l ls : Addr} {N : Int} (h : Strm H l ls N) (s : Same H H') : Strm H' l ls N := by
  obtain ⟨cs, g, k, m, S⟩ := h
  exact ⟨cs, g, k, m, s _ _ S.o, s _ _ S.c, S.ne, S.g0, S.k0, S.k1, S.m0, S.m1, S.sz⟩
theorem Strm.some {H : Hp} {l ls : Addr} {N : Int} (h : Strm H l ls N) : (∃ o, H l = some o) ∧ ∃ o, H ls = some o := by
  obtain ⟨cs, g, k, m, S⟩ := h
  exact ⟨⟨_, S.o⟩, ⟨_, S.c⟩⟩
/-- what was not there is not the spring -/
theorem Strm.apart {H H' : Hp} {l ls p : Addr} {N : Int} (h : Strm H l ls N) (s : Same H H') (n : H' p = none) : p ≠ l ∧ p ≠ ls := by
  obtain ⟨⟨o, e⟩, ⟨o', e'⟩⟩ := h.some
  exact ⟨(fun z => by rw [z, s _ _ e] at n; cases n), (fun z => by rw [z, s _ _ e'] at n; cases n)⟩
def spPickS : Sp := fun vs H Q _ => ∃ (l ls : Addr) (x : Str) (N : Int), vs = [.ref l, .str x] ∧ Strm H l ls N ∧ N ≤ 1000000 ∧ 0 < x.cps.size ∧ x.cps.size < 1000 ∧
  ∀ H' c, c ∈ x.cps.toList → Strm H' l ls (N + 1) → But l ls H H' → Q (.str ⟨#[c]⟩) H'
/-- a mixed list: what was in it, in some order -/
def spMixed (K : PySem.W.Frag) : Sp := fun vs H Q _ => ∃ (l ls c : Addr) (xs : List V) (N : Int), vs = [.ref l, .ref c] ∧ Strm H l ls N ∧ N ≤ 900000 ∧ SqL K H c xs ∧ xs.length < 1000 ∧
  ∀ H' q ys, ys.Perm xs → H q = none → H' q = some (.lst ys) → Strm H' l ls (N + xs.length) → But l ls H H' → Q (.ref q) H'
theorem scMixed : FnScope ["stream", "some", "left", "k"] ["stream", "some"] (defScope sMixed) := ⟨rfl, rfl, rfl, by decide +kernel, rfl, by decide +kernel, by decide +kernel⟩
theorem pop_perm : ∀ (l : List V) (k : Nat) (y : V), l[k]? = some y → (y :: l.eraseIdx k).Perm l
  | [], k, y, h => by simp at h
  | a :: l, 0, y, h => by
    obtain rfl : a = y := by simpa using h
    exact List.Perm.refl _
  | a :: l, k + 1, y, h => by
    have z := pop_perm l k y (by simpa using h)
    exact (List.Perm.swap a y _).trans (z.cons a)
section
variable {P : Program} {w : World} {K : PySem.W.Frag} {mg : Str → Option Value} {base : Heap} {f fD fP fM : Addr} {fd fdD fdP fdM : FuncData}
theorem ok_pickS (F : Fun K "_law_pick" "_law_pick" sPick f fd) (FD : Fun K "_law_draw" "_law_draw" sDraw fD fdD)
    (gD : mg "_law_draw" = some (.ref fD)) (gI : mg "int" = none) (gN : mg "len" = none) : FnOk P w K mg base CX0 2 f fd ["stream", "some"] spPickS := by
  have G : FnOk P w K mg base CX0 1 fD fdD ["stream", "many"] spDraw := ok_draw FD gI
  have b := FD.binds (ps := ["stream", "many"]) fun _ _ _ _ _ _ us hl => match us, hl with | [_, _], _ => rfl
  refine F.ok scPick (fun vs H Q E h => by obtain ⟨l, ls, x, N, e, _⟩ := h; rw [e]; rfl) fun cdv A outer s H vs Q E hr hsp => ?_
  obtain ⟨l, ls, x, N, rfl, hS, hN, h0, h1, hq⟩ := hsp
  refine ⟨_, pss_one (ps_ret (pe_ix ix_str (pv 1) (pe_call G hr rfl gD FD.kp b .nil pass0 (pa_cons (pv 0) (pa_cons (pe_callB call_len rfl gN boot_len (pa_cons (pv 1) pa_nil)) pa_nil))) (fun _ _ => rfl))), ?_⟩
  have hz : x.length ≤ sizeLine := by rw [sizeLine_eq]; show x.cps.size ≤ _; omega
  have hl : ((x.length : Nat) : Int) = (x.cps.size : Int) := rfl
  refine ⟨_, rfl, _, rfl, _, rfl, _, x.length, rfl, ⟨hz, rfl⟩, ?_⟩
  refine ⟨l, ls, _, N, rfl, hS, hN, by omega, by omega, fun H' r r0 r1 S' B' => ?_⟩
  have hr2 : r.toNat < x.cps.toList.length := by rw [Array.length_toList]; omega
  refine ⟨x, r, x.cps.toList[r.toNat], rfl, rfl, hz, ?_, hq H' _ (List.getElem_mem _) S' B'⟩
  have e : ((r.toNat : Nat) : Int) = r := by omega
  have z := atI_nat (xs := x.cps.toList) (j := r.toNat) (v := x.cps.toList[r.toNat]) (by simp)
  rw [e] at z
  exact z
theorem ok_mixed (F : Fun K "_law_mixed" "_law_mixed" sMixed f fd) (FD : Fun K "_law_draw" "_law_draw" sDraw fD fdD)
    (gD : mg "_law_draw" = some (.ref fD)) (gI : mg "int" = none) (gN : mg "len" = none) (gL : mg "list" = none) (gR : mg "range" = none) : FnOk P w K mg base CX0 2 f fd ["stream", "some"] (spMixed K) := by
  have G : FnOk P w K mg base CX0 1 fD fdD ["stream", "many"] spDraw := ok_draw FD gI
  have b := FD.binds (ps := ["stream", "many"]) fun _ _ _ _ _ _ us hl => match us, hl with | [_, _], _ => rfl
  refine F.ok scMixed (fun vs H Q E h => by obtain ⟨l, ls, c, xs, N, e, _⟩ := h; rw [e]; rfl) fun cdv A outer s H vs Q E hr hsp => ?_
  obtain ⟨l, ls, c, xs, N, rfl, hS, hN, hc, h1, hq⟩ := hsp
  have nd := scMixed.nd
  refine ⟨_, pss_cons (ps_set (i := 2) nd rfl (Or.inr rfl) (pe_callTy call_list_of rfl gL (by decide +kernel) (pa_cons (pv 1) pa_nil)))
    (pss_one (ps_ret (pe_lc (own := [("k", 3)]) (tt := tYes) (te := tBM K "list" rPopAt (tVar 2) (tCons (tCall spDraw [] E0 (tCons (tVar 0) (tCons (tCB (rLen K) (tCons (tVar 2) tNil)) tNil))) tNil)) rfl nd (pi_range1 rfl gR (pa_cons (pe_callB call_len rfl gN boot_len (pa_cons (pv 2) pa_nil)) pa_nil)) (blkOk_by (N := ["stream", "some", "left", "k"]) (sc := defScope sMixed) (by decide +kernel))
      (fun _ _ _ _ _ => pg_name (i := 3) nd rfl (Or.inl rfl)) (fun _ _ _ _ _ => pts_nil)
      (fun _ _ _ _ _ => pe_bm PySem.F.plainAttrs_list PySem.F.slot_list_pop PySem.F.type_list_pop mt_popAt (pv 2) (pa_cons (pe_call G hr rfl gD FD.kp b .nil pass0 (pa_cons (pv 0) (pa_cons (pe_callB call_len rfl gN boot_len (pa_cons (pv 2) pa_nil)) pa_nil))) pa_nil))))), ?_⟩
  refine ⟨_, rfl, c, xs, rfl, .inl hc, fun p np => ?_⟩
  have kp := same_new (o := .lst xs) np
  have ap := hS.apart (Same.refl _) np
  refine ⟨_, rfl, .ref p, xs.length, rfl, .inl ⟨_, SqL.of upd_same, rfl⟩, _, rfl, by omega, by omega, fun q nq => ?_⟩
  have aq := hS.apart kp nq
  have pq : p ≠ q := fun z => by rw [← z, upd_same] at nq; cases nq
  have nq0 : H q = none := Same.free kp nq
  refine lc_range (n := xs.length) (fun i H' => ∃ done rest, H' q = some (.lst done) ∧ H' p = some (.lst rest) ∧ done.length = i ∧ (done ++ rest).Perm xs ∧ Strm H' l ls (N + i) ∧ But l ls H H')
    ⟨[], xs, upd_same, by rw [upd_ne pq]; exact upd_same, rfl, List.Perm.refl _, by simpa using ((hS.same kp).same (same_new nq)), But.of (kp.trans (same_new nq))⟩ ?_ ?_
  · rintro i H3 hi ⟨done, rest, oq, op, ln, pm, S3, B3⟩
    have hlen : done.length + rest.length = xs.length := by rw [← pm.length_eq, List.length_append]
    refine ⟨rfl, ?_⟩
    refine ⟨_, rfl, .inl ⟨rfl, _, SqL.of op⟩, _, rfl, _, rfl, .ref p, rest.length, rfl, .inl ⟨_, SqL.of op, rfl⟩, ?_⟩
    refine ⟨l, ls, _, _, rfl, S3, by omega, by omega, by omega, fun H4 r r0 r1 S4 B4 => ?_⟩
    have hr2 : r.toNat < rest.length := by omega
    have er : ((r.toNat : Nat) : Int) = r := by omega
    have ix0 : ixN rest.length r = some r.toNat := by
      unfold ixN
      rw [if_pos r0, if_pos r1]
    refine ⟨p, rest, r, r.toNat, rest[r.toNat], rfl, rfl, B4 _ _ ap.1 ap.2 op, by omega, by omega, (ixN_seq ix0).1, by simp, done, ?_, (by rw [sizeLine_eq]; omega), done ++ [rest[r.toNat]], rest.eraseIdx r.toNat, upd_same, ?_, by simp [ln], ?_, ?_, ?_⟩
    · rw [upd_ne (Ne.symm pq)]; exact B4 _ _ aq.1 aq.2 oq
    · rw [upd_ne pq, upd_same]
    · have z := pop_perm rest r.toNat rest[r.toNat] (by simp)
      rw [List.append_assoc]
      exact (List.Perm.append_left done z).trans pm
    · obtain ⟨cs, g, k, m, S⟩ := S4
      have e1 : N + ((i + 1 : Nat) : Int) = N + (i : Int) + 1 := by omega
      rw [e1]
      exact ⟨cs, g, k, m, by rw [upd_ne (Ne.symm aq.1), upd_ne (Ne.symm ap.1)]; exact S.o, by rw [upd_ne (Ne.symm aq.2), upd_ne (Ne.symm ap.2)]; exact S.c, S.ne, S.g0, S.k0, S.k1, S.m0, S.m1, S.sz⟩
    · intro b o h1 h2 e
      have nb : b ≠ q := ne_of_none e nq0
      have nb2 : b ≠ p := ne_of_none e np
      rw [upd_ne nb, upd_ne nb2]
      exact B4 _ _ h1 h2 (B3 _ _ h1 h2 e)
  · rintro H3 ⟨done, rest, oq, op, ln, pm, S3, B3⟩
    have hlen : done.length + rest.length = xs.length := by rw [← pm.length_eq, List.length_append]
    have er : rest = [] := List.eq_nil_of_length_eq_zero (by omega)
    subst er
    rw [List.append_nil] at pm
    exact hq H3 q done pm nq0 oq S3 B3
end
end L2.TB
namespace L2.TB
open PySem PySem.Spec PyProof.Rows
theorem Strm.mono {H : Hp} {l ls : Addr} {N M : Int} (h : Strm H l ls N) (le : N ≤ M) : Strm H l ls M := by
  obtain ⟨cs, g, k, m, S⟩ := h
  exact ⟨cs, g, k, m, S.o, S.c, S.ne, S.g0, S.k0, by have := S.k1; omega, S.m0, S.m1, S.sz⟩
/-- some of a mixed list -/
def spSome (K : PySem.W.Frag) : Sp := fun vs H Q _ => ∃ (l ls c : Addr) (xs : List V) (N : Int), vs = [.ref l, .ref c] ∧ Strm H l ls N ∧ N ≤ 800000 ∧ H c = some (.lst xs) ∧ c ≠ l ∧ c ≠ ls ∧ xs.length < 100 ∧
  ∀ H' q ys zs, (ys ++ zs).Perm xs → H q = none → H' q = some (.lst ys) → Strm H' l ls (N + 200) → But l ls H H' → Q (.ref q) H'
theorem scSome : FnScope ["stream", "names"] ["stream", "names"] (defScope sSome) := ⟨rfl, rfl, rfl, by decide +kernel, rfl, by decide +kernel, by decide +kernel⟩
theorem cut_to (xs : List V) (r : Int) (h0 : 0 ≤ r) (h1 : r < xs.length + 1) : cutV xs none (some r) = xs.take r.toNat := by
  have e1 : HT.sIx xs.length 0 none = 0 := rfl
  have e2 : HT.sIx xs.length xs.length (some r) = r.toNat := by
    unfold HT.sIx
    simp only []
    rw [if_neg (show ¬ r < 0 by omega)]
    omega
  unfold cutV
  rw [e1, e2]; simp
section
variable {P : Program} {w : World} {K : PySem.W.Frag} {mg : Str → Option Value} {base : Heap} {f fD fP fM : Addr} {fd fdD fdP fdM : FuncData}
theorem ok_some (F : Fun K "_law_t_some" "_law_t_some" sSome f fd) (FM : Fun K "_law_mixed" "_law_mixed" sMixed fM fdM) (gM : mg "_law_mixed" = some (.ref fM)) (FD : Fun K "_law_draw" "_law_draw" sDraw fD fdD)
    (gD : mg "_law_draw" = some (.ref fD)) (gI : mg "int" = none) (gN : mg "len" = none) (gL : mg "list" = none) (gR : mg "range" = none) : FnOk P w K mg base CX0 3 f fd ["stream", "names"] (spSome K) := by
  have G : FnOk P w K mg base CX0 1 fD fdD ["stream", "many"] spDraw := ok_draw FD gI
  have b := FD.binds (ps := ["stream", "many"]) fun _ _ _ _ _ _ us hl => match us, hl with | [_, _], _ => rfl
  have GM : FnOk P w K mg base CX0 2 fM fdM ["stream", "some"] (spMixed K) := ok_mixed FM FD gD gI gN gL gR
  have bM := FM.binds (ps := ["stream", "some"]) fun _ _ _ _ _ _ us hl => match us, hl with | [_, _], _ => rfl
  refine F.ok scSome (fun vs H Q E h => by obtain ⟨l, ls, c, xs, N, e, _⟩ := h; rw [e]; rfl) fun cdv A outer s H vs Q E hr hsp => ?_
  obtain ⟨l, ls, c, xs, N, rfl, hS, hN, hc, cl, cls, h1, hq⟩ := hsp
  refine ⟨_, pss_one (ps_ret (pe_slice sl_list (pe_call GM hr rfl gM FM.kp bM .nil pass0 (pa_cons (pv 0) (pa_cons (pv 1) pa_nil))) po_none (po_some (pe_call G (hr.mono (by decide)) rfl gD FD.kp b .nil pass0 (pa_cons (pv 0) (pa_cons (pe_op op_add (pe_callB call_len rfl gN boot_len (pa_cons (pv 1) pa_nil)) pe_int) pa_nil)))))), ?_⟩
  refine ⟨_, rfl, _, rfl, l, ls, c, xs, N, rfl, hS, by omega, SqL.of hc, by omega, fun H1 q ys pm nq oq S1 B1 => ?_⟩
  have aq := hS.apart (Same.refl _) nq
  have hcl := B1 _ _ cl cls hc
  refine ⟨_, rfl, _, rfl, .ref c, xs.length, rfl, .inl ⟨_, SqL.of hcl, rfl⟩, _, _, rfl, rfl, ?_⟩
  refine ⟨l, ls, _, _, rfl, S1, by omega, by omega, by omega, fun H2 r r0 r1 S2 B2 => ?_⟩
  refine ⟨r, rfl, q, ys, rfl, SqL.of (B2 _ _ aq.1 aq.2 oq), fun p np => ?_⟩
  have ly : ys.length = xs.length := pm.length_eq
  rw [cut_to ys r r0 (by rw [ly]; exact r1)]
  refine hq _ p (ys.take r.toNat) (ys.drop r.toNat) (by rw [List.take_append_drop]; exact pm) ?_ upd_same ((S2.same (same_new np)).mono (by omega)) ((B1.trans B2).trans (But.of (same_new np)))
  have ap := S2.apart (Same.refl _) np
  cases e : H p with
  | none => rfl
  | some o => have z := (B1.trans B2) _ _ ap.1 ap.2 e; rw [z] at np; cases np
end
end L2.TB
namespace L2.TB
open PySem PySem.Spec PyProof.Rows
def signsL : List Nat := (Str.ofString "abcdefghijklmnopqrstuvwxyz0123456789.").cps.toList
/-- a name that is_name lets pass -/
def NmOk (x : Str) : Prop := 1 ≤ x.cps.toList.length ∧ x.cps.toList.length ≤ 40 ∧ ∀ c ∈ x.cps.toList, c ∈ signsL
def wordL : List Nat := (Str.ofString "abcxyz019").cps.toList
def letL : List Nat := (Str.ofString "abcdefghijklmnopqrstuvwxyz").cps.toList
/-- a name as the law draws it -/
def NmS (x : Str) : Prop := NmOk x ∧ x.cps.toList.length ≤ 3
theorem word_sub : ∀ c ∈ wordL, c ∈ signsL := by decide +kernel
theorem let_sub : ∀ c ∈ letL, c ∈ signsL := by decide +kernel
theorem join_flat : ∀ cs : List Nat, TL.joinL [] (cs.map fun c => [c]) = cs
  | [] => rfl
  | [c] => rfl
  | c :: d :: r => by
    show [c] ++ ([] ++ TL.joinL [] ((d :: r).map fun c => [c])) = _
    rw [join_flat (d :: r)]; rfl
theorem join_cps (cs : List Nat) : (Txt.join (Str.ofString "") (cs.map fun c => (⟨#[c]⟩ : Str))).cps.toList = cs := by
  rw [TL.join_eq]
  have e := TL.tl_join (Str.ofString "") (cs.map fun c => (⟨#[c]⟩ : Str))
  have e2 : (cs.map fun c => (⟨#[c]⟩ : Str)).map TL.tl = cs.map fun c => [c] := by rw [List.map_map]; rfl
  have e3 : TL.tl (Str.ofString "") = [] := by decide +kernel
  rw [e2, e3, join_flat] at e
  exact e
/-- the spare names: a letter and q -/
def spare (c : Nat) : Str := (⟨#[c]⟩ : Str) ++ Str.ofString "q"
theorem spare_ok : ∀ c ∈ letL, NmS (spare c) := by
  unfold NmS NmOk
  decide +kernel
theorem spare_nd : (letL.map spare).Nodup := by decide +kernel
theorem str_inj (a b : Str) : eqV (.str a) (.str b) = decide (a = b) := by
  show (a == b) = _
  by_cases h : a = b
  · subst h; simp
  · rw [decide_eq_false h]; simpa using h
theorem inV_strs (x : Str) : ∀ xs : List Str, inV (.str x) (xs.map V.str) = decide (x ∈ xs)
  | [] => by simp [inV]
  | a :: xs => by
    have e := inV_strs x xs
    unfold inV at e ⊢
    rw [List.map_cons, List.any_cons, e, str_inj]
    by_cases h : a = x
    · subst h; simp
    · by_cases h2 : x ∈ xs
      · simp [h2]
      · simp [h, h2, Ne.symm h]
theorem flat_strs (xs : List Str) : (xs.map V.str).all flatV = true := by
  rw [List.all_map]; exact List.all_eq_true.mpr fun _ _ => rfl
/-- some spare name is not among the found ones -/
theorem spare_left (w : Str) (found : List Str) (h : found.length < 26) : ((w :: letL.map spare).filter fun x => decide (x ∉ found)) ≠ [] := by
  intro e
  have sub : ∀ x ∈ letL.map spare, x ∈ found := fun x hx => by
    by_cases h2 : x ∈ found
    · exact h2
    · have z : x ∈ (w :: letL.map spare).filter fun x => decide (x ∉ found) := List.mem_filter.mpr ⟨List.mem_cons_of_mem _ hx, by simp [h2]⟩
      rw [e] at z; cases z
  have le := List.Nodup.length_le_of_subset spare_nd (fun x hx => sub x hx)
  have e26 : (letL.map spare).length = 26 := by decide +kernel
  omega
def spNames : Sp := fun vs H Q _ => ∃ (l ls : Addr) (many N : Int), vs = [.ref l, .int many] ∧ Strm H l ls N ∧ N ≤ 900000 ∧ 0 ≤ many ∧ many ≤ 20 ∧
  ∀ H' q (ns : List Str), (ns.length : Int) = many → ns.Nodup → (∀ x ∈ ns, NmS x) → H q = none → H' q = some (.lst (ns.map V.str)) → Strm H' l ls (N + 5 * many) → But l ls H H' → Q (.ref q) H'
abbrev NN : List Str := ["stream", "many", "found", "k", "word", "spares", "sign", "letter", "one"]
theorem scNames : FnScope NN ["stream", "many"] (defScope sNames) := ⟨rfl, rfl, rfl, by decide +kernel, rfl, by decide +kernel, by decide +kernel⟩
section
variable {P : Program} {w : World} {K : PySem.W.Frag} {mg : Str → Option Value} {base : Heap} {f fD fP fM : Addr} {fd fdD fdP fdM : FuncData}
theorem ok_names (F : Fun K "_law_t_names" "_law_t_names" sNames f fd) (FP : Fun K "_law_pick" "_law_pick" sPick fP fdP) (gP : mg "_law_pick" = some (.ref fP)) (FD : Fun K "_law_draw" "_law_draw" sDraw fD fdD)
    (gD : mg "_law_draw" = some (.ref fD)) (gI : mg "int" = none) (gN : mg "len" = none) (gR : mg "range" = none) : FnOk P w K mg base CX0 3 f fd ["stream", "many"] spNames := by
  have G : FnOk P w K mg base CX0 1 fD fdD ["stream", "many"] spDraw := ok_draw FD gI
  have b := FD.binds (ps := ["stream", "many"]) fun _ _ _ _ _ _ us hl => match us, hl with | [_, _], _ => rfl
  have GP : FnOk P w K mg base CX0 2 fP fdP ["stream", "some"] spPickS := ok_pickS FP FD gD gI gN
  have bP := FP.binds (ps := ["stream", "some"]) fun _ _ _ _ _ _ us hl => match us, hl with | [_, _], _ => rfl
  refine F.ok scNames (fun vs H Q E h => by obtain ⟨l, ls, many, N, e, _⟩ := h; rw [e]; rfl) fun cdv A outer s H vs Q E hr hsp => ?_
  obtain ⟨l, ls, many, N, rfl, hS, hN, h0, h1, hq⟩ := hsp
  have nd := scNames.nd
  refine ⟨_, pss_cons (ps_set (i := 2) nd rfl (Or.inr rfl) (pe_lst pa_nil))
    (pss_cons (ps_for PassesOwn.never rfl (pi_range1 rfl gR (pa_cons (pv 1) pa_nil)) (pg_name (i := 3) nd rfl (Or.inl rfl))
      (pss_cons (ps_set (i := 4) nd rfl (Or.inl rfl) (pe_join pe_str (pe_lc (own := [("sign", 6)]) (tt := tYes) rfl nd (pi_range1 rfl gR (pa_cons (pe_op op_add pe_int (pe_call G (hr.mono (by decide)) rfl gD FD.kp b .nil pass0 (pa_cons (pv 0) (pa_cons pe_int pa_nil)))) pa_nil))
          (blkOk_by (N := NN) (sc := defScope sNames) (by decide +kernel)) (fun _ _ _ _ _ => pg_name (i := 6) nd rfl (Or.inl rfl)) (fun _ _ _ _ _ => pts_nil) (fun _ _ _ _ _ => pe_call GP hr rfl gP FP.kp bP .nil pass0 (pa_cons (pv 0) (pa_cons pe_str pa_nil))))))
      (pss_cons (ps_set (i := 5) nd rfl (Or.inl rfl) (pe_op op_cat (pe_lst (pa_cons (pv 4) pa_nil)) (pe_lc (own := [("letter", 7)]) (tt := tYes) rfl nd (pi_str pe_str) (blkOk_by (N := NN) (sc := defScope sNames) (by decide +kernel))
          (fun _ _ _ _ _ => pg_name (i := 7) nd rfl (Or.inl rfl)) (fun _ _ _ _ _ => pts_nil) (fun _ _ _ _ _ => pe_op op_add_str (pv 7) pe_str))))
      (pss_one (ps_expr (pe_bm PySem.F.plainAttrs_list PySem.F.slot_list_append PySem.F.type_list_append mt_append (pv 2) (pa_cons (pe_ix ix_list (pe_lc (own := [("one", 8)]) (tt := tTest (tOp (rIn K true) (tVar 8) (tVar 2))) rfl nd (pi_list (pv 5)) (blkOk_by (N := NN) (sc := defScope sNames) (by decide +kernel))
          (fun _ _ _ _ _ => pg_name (i := 8) nd rfl (Or.inl rfl)) (fun _ _ _ _ _ => pts_one (pt_cmpR op_notIn_seq (pv 8) (pv 2) rfl)) (fun _ _ _ _ _ => pv 8)) pe_int (fun _ _ => rfl)) pa_nil)))))))
    (pss_one (ps_ret (pv 2)))), ?_⟩
  refine ⟨Nat.zero_le _, fun q nq => ?_⟩
  have aq := hS.apart (Same.refl _) nq
  refine ⟨_, rfl, many, rfl, by omega, by omega, for_range (n := many.toNat) (fun i σ H' => ∃ ns : List Str, H' q = some (.lst (ns.map V.str)) ∧ ns.length = i ∧ ns.Nodup ∧ (∀ x ∈ ns, NmS x) ∧ Strm H' l ls (N + 5 * i) ∧ But l ls H H' ∧
    ∃ s3 s4 s5 s6 s7 s8, σ = [some (.ref l), some (.int many), some (.ref q), s3, s4, s5, s6, s7, s8])
    ⟨[], upd_same, rfl, .nil, fun x hx => by simp at hx, by simpa using hS.same (same_new nq), But.of (same_new nq), _, _, _, _, _, _, rfl⟩ ?_ ?_⟩
  · rintro i σ H1 hi ⟨ns, oq, ln, nn, nok, S1, B1, s3, s4, s5, s6, s7, s8, rfl⟩
    have hi2 : (i : Int) < 20 := by omega
    -- the word
    refine ⟨⟨_, rfl⟩, _, rfl, l, ls, 3, _, rfl, S1, by omega, by decide, by decide, fun H2 r r0 r1 S2 B2 => ?_⟩
    refine ⟨_, _, rfl, rfl, 1 + r, rfl, by omega, by omega, fun D nD => ?_⟩
    have aD := S2.apart (Same.refl _) nD
    refine lc_range (n := (1 + r).toNat) (fun j H' => ∃ cs : List Nat, H' D = some (.lst (cs.map fun c => V.str ⟨#[c]⟩)) ∧ cs.length = j ∧ (∀ c ∈ cs, c ∈ wordL) ∧ Strm H' l ls (N + 5 * i + 1 + j) ∧ But l ls H2 H')
      ⟨[], upd_same, rfl, fun c hc => by simp at hc, by simpa using S2.same (same_new nD), But.of (same_new nD)⟩ ?_ ?_
    · rintro j H3 hj ⟨cs, oD, lc, cok, S3, B3⟩
      refine ⟨rfl, ?_⟩
      refine ⟨_, rfl, l, ls, _, _, rfl, S3, by omega, by decide +kernel, by decide +kernel, fun H4 c hc S4 B4 => ?_⟩
      have oD4 := B4 _ _ aD.1 aD.2 oD
      refine ⟨_, oD4, (by rw [sizeLine_eq, List.length_map]; omega), cs ++ [c], by rw [upd_same]; simp, by simp [lc], ?_, ?_, ?_⟩
      · intro d hd
        rcases List.mem_append.mp hd with h | h
        · exact cok d h
        · obtain rfl : d = c := by simpa using h
          exact hc
      · obtain ⟨cs', g, k, m, S⟩ := S4
        exact Strm.mono ⟨cs', g, k, m, by rw [upd_ne (Ne.symm aD.1)]; exact S.o, by rw [upd_ne (Ne.symm aD.2)]; exact S.c, S.ne, S.g0, S.k0, S.k1, S.m0, S.m1, S.sz⟩ (by omega)
      · intro b o h1 h2 e
        have nb : b ≠ D := ne_of_none e nD
        rw [upd_ne nb]
        exact B4 _ _ h1 h2 (B3 _ _ h1 h2 e)
    · rintro H3 ⟨cs, oD, lc, cok, S3, B3⟩
      have lc3 : 1 ≤ cs.length ∧ cs.length ≤ 3 := by omega
      have em : (cs.map fun c => V.str ⟨#[c]⟩) = (cs.map fun c => (⟨#[c]⟩ : Str)).map V.str := by rw [List.map_map]; rfl
      rw [em] at oD
      have sums : ∀ l : List Nat, ((l.map fun c => (⟨#[c]⟩ : Str)).map (·.length)).sum = l.length := fun l => by
        induction l with
        | nil => rfl
        | cons a l ih => rw [List.map_cons, List.map_cons, List.sum_cons, ih, List.length_cons]; show 1 + _ = _; omega
      refine ⟨_, D, _, rfl, rfl, .inl (SqL.of oD), ?_, ?_⟩
      · rw [sums, List.length_map]; show cs.length + cs.length * 0 ≤ _; omega
      have hw : (Txt.join (Str.ofString "") (cs.map fun c => (⟨#[c]⟩ : Str))).cps.toList = cs := join_cps cs
      generalize Txt.join (Str.ofString "") (cs.map fun c => (⟨#[c]⟩ : Str)) = wd at hw
      have wok : NmS wd := by
        unfold NmS NmOk
        rw [hw]
        exact ⟨⟨lc3.1, by omega, fun c hc => word_sub c (cok c hc)⟩, by omega⟩
      have B13 := B2.trans B3
      have oq3 := B13 _ _ aq.1 aq.2 oq
      -- the spare names
      refine ⟨_, rfl, (by rw [sizeLine_eq]; show 1 ≤ _; omega), fun a1 n1 => ?_⟩
      have k1 := same_new (o := .lst [.str wd]) n1
      have e26 : (Str.ofString "abcdefghijklmnopqrstuvwxyz").cps.size = 26 := by decide +kernel
      have l26 : letL.length = 26 := by decide +kernel
      refine ⟨_, rfl, fun D2 nD2 => ⟨fun j m H' => m = 26 - j ∧ j ≤ 26 ∧ H' D2 = some (.lst ((letL.take j).map fun c => V.str (spare c))) ∧ Same (upd H3 a1 (.lst [.str wd])) H',
        ⟨26, rfl, by decide, upd_same, same_new nD2⟩, ?_⟩⟩
      rintro j m H4 ⟨rfl, hj, oD2, sm4⟩
      by_cases lt : j < 26
      · refine .inr ⟨(by show j < _; rw [e26]; exact lt), fun H' => H' D2 = some (.lst ((letL.take (j + 1)).map fun c => V.str (spare c))) ∧ Same (upd H3 a1 (.lst [.str wd])) H', fun H' h => ⟨26 - (j + 1), by omega, rfl, lt, h⟩, ?_⟩
        rintro v H' ⟨rfl, c, hc, rfl⟩
        have hc2 : letL[j]? = some c := by
          unfold letL
          rw [Array.getElem?_toList]; exact hc
        refine ⟨rfl, ?_⟩
        refine ⟨_, rfl, _, _, rfl, rfl, (by rw [sizeLine_eq]; show 1 + 1 ≤ _; omega), _, oD2, (by rw [sizeLine_eq, List.length_map, List.length_take]; omega), ?_, fun b o e => by rw [upd_ne (ne_of_none e nD2)]; exact sm4 b o e⟩
        rw [upd_same, List.take_succ, hc2]
        simp [spare]
      · have j26 : j = 26 := by omega
        refine .inl ⟨(by show _ ≤ j; rw [e26]; omega), ?_⟩
        have et : letL.take j = letL := List.take_of_length_le (by omega)
        rw [et] at oD2
        refine ⟨a1, D2, _, _, rfl, rfl, sm4 _ _ upd_same, oD2, (by rw [sizeLine_eq, List.length_map, l26]; show 1 + 26 ≤ _; omega), fun p np => ?_⟩
        have esp : [V.str wd] ++ letL.map (fun c => V.str (spare c)) = (wd :: letL.map spare).map V.str := by simp [List.map_map]
        rw [esp]
        have spl : (wd :: letL.map spare).length = 27 := by rw [List.length_cons, List.length_map, l26]
        have spok : ∀ x ∈ (wd :: letL.map spare), NmS x := fun x hx => by
          rcases List.mem_cons.mp hx with h | h
          · rw [h]; exact wok
          · obtain ⟨c, hc, rfl⟩ := List.mem_map.mp h
            exact spare_ok c hc
        have hne := spare_left wd ns (by omega)
        generalize wd :: letL.map spare = sp at spl spok hne
        have k5 := same_new (o := .lst (sp.map V.str)) np
        have k35 := (k1.trans sm4).trans k5
        refine ⟨_, rfl, .inl ⟨rfl, _, SqL.of (k35 _ _ oq3)⟩, _, rfl, p, rfl, ⟨_, SqL.of upd_same⟩, fun D3 nD3 => ?_⟩
        refine lc_list (xs := sp.map V.str) (fun j H' => H' D3 = some (.lst (((sp.take j).filter fun x => decide (x ∉ ns)).map V.str)) ∧ Same (upd H4 p (.lst (sp.map V.str))) H')
          ⟨by rw [upd_same]; rfl, same_new nD3⟩ (fun j H' _ h => SqL.of (h.2 _ _ upd_same)) ?_ ?_
        · rintro j v H6 ev ⟨oD3, sm6⟩
          rw [List.getElem?_map] at ev
          obtain ⟨x, ex, rfl⟩ := Option.map_eq_some_iff.mp ev
          have et2 : sp.take (j + 1) = sp.take j ++ [x] := by rw [List.take_succ, ex]; rfl
          refine ⟨rfl, ?_⟩
          refine ⟨_, rfl, _, rfl, q, ns.map V.str, rfl, .inl (SqL.of (sm6 _ _ (k35 _ _ oq3))), rfl, flat_strs ns, _, rfl, ?_⟩
          rw [inV_strs]
          by_cases hx : x ∈ ns
          · rw [decide_eq_true hx]
            refine iteF ?_
            refine ⟨?_, sm6⟩
            rw [et2, List.filter_append]
            simpa [hx] using oD3
          · rw [decide_eq_false hx]
            refine iteT ?_
            refine ⟨_, rfl, _, oD3, ?_, ?_, fun b o e => by rw [upd_ne (ne_of_none e nD3)]; exact sm6 b o e⟩
            · have z := List.length_filter_le (fun x => decide (x ∉ ns)) (sp.take j)
              rw [List.length_take] at z
              rw [sizeLine_eq, List.length_map]; omega
            · rw [upd_same, et2, List.filter_append]
              simp [hx]
        · rintro H6 ⟨oD3, sm6⟩
          have ef : sp.take (sp.map V.str).length = sp := List.take_of_length_le (by rw [List.length_map]; omega)
          rw [ef] at oD3
          have oq6 := sm6 _ _ (k35 _ _ oq3)
          cases efl : sp.filter fun x => decide (x ∉ ns) with
          | nil => exact absurd efl hne
          | cons y rest =>
            rw [efl] at oD3
            have hy : y ∈ sp.filter fun x => decide (x ∉ ns) := by rw [efl]; exact List.mem_cons_self
            obtain ⟨hy1, hy2⟩ := List.mem_filter.mp hy
            have hy3 : y ∉ ns := by simpa using hy2
            refine ⟨D3, _, 0, .str y, rfl, rfl, SqL.of oD3, atI_nat (j := 0) (by simp), ?_⟩
            refine ⟨q, ns.map V.str, .str y, rfl, rfl, oq6, (by rw [sizeLine_eq, List.length_map]; omega), ns ++ [y], by rw [upd_same]; simp, by simp [ln], ?_, ?_, ?_, ?_, _, _, _, _, _, _, rfl⟩
            · rw [List.nodup_append]
              exact ⟨nn, by simp, fun a ha b hb => by
                obtain rfl : b = y := by simpa using hb
                exact fun z => hy3 (z ▸ ha)⟩
            · intro x hx
              rcases List.mem_append.mp hx with h | h
              · exact nok x h
              · obtain rfl : x = y := by simpa using h
                exact spok _ hy1
            · obtain ⟨cs', g, k, m, S⟩ := (S3.same k35).same sm6
              exact Strm.mono ⟨cs', g, k, m, by rw [upd_ne (Ne.symm aq.1)]; exact S.o, by rw [upd_ne (Ne.symm aq.2)]; exact S.c, S.ne, S.g0, S.k0, S.k1, S.m0, S.m1, S.sz⟩ (by omega)
            · intro b o h1 h2 e
              have nb : b ≠ q := ne_of_none e nq
              rw [upd_ne nb]
              exact sm6 _ _ (k35 _ _ (B13 _ _ h1 h2 (B1 _ _ h1 h2 e)))
  · rintro σ H1 ⟨ns, oq, ln, nn, nok, S1, B1, s3, s4, s5, s6, s7, s8, rfl⟩
    have em : ((many.toNat : Nat) : Int) = many := by omega
    rw [em] at S1
    exact ⟨_, rfl, hq H1 q ns (by omega) nn nok nq oq S1 B1⟩
end
end L2.TB
namespace L2.TB
open PySem PySem.Spec PyProof.Rows
theorem paired_snoc {α β : Type} {F : α → β → Prop} {x : α} {y : β} (h : F x y) : ∀ {xs : List α} {ys : List β}, Paired F xs ys → Paired F (xs ++ [x]) (ys ++ [y])
  | _, _, .nil => .cons h .nil
  | _, _, .cons r t => .cons r (paired_snoc h t)
theorem paired_map {α β γ : Type} {F : α → γ → Prop} {g : β → γ} : ∀ {xs : List α} {ys : List β}, Paired (fun x y => F x (g y)) xs ys → Paired F xs (ys.map g)
  | _, _, .nil => .nil
  | _, _, .cons r t => .cons r (paired_map t)
/-- the pairs of a row: names and ints -/
def dk (ns : List Str) (vs : List Int) : List (Key × V) := (ns.zip vs).map fun p => (Sum.inr p.1, V.int p.2)
theorem merge_new : ∀ (more acc : List (Key × V)), ((acc ++ more).map (·.1)).Nodup → mergeK acc more = acc ++ more
  | [], acc, _ => by simp [mergeK]
  | p :: more, acc, h => by
    have hn : valV acc p.1 = none := by
      cases e : valV acc p.1 with
      | none => rfl
      | some v =>
        exfalso
        have z : (valV acc p.1).isSome = true := by rw [e]; rfl
        rw [← valV_any, List.any_eq_true] at z
        obtain ⟨q, hq, hq2⟩ := z
        have hq3 : q.1 = p.1 := of_decide_eq_true hq2
        rw [List.map_append, List.nodup_append] at h
        exact h.2.2 q.1 (List.mem_map_of_mem hq) p.1 (List.mem_map_of_mem List.mem_cons_self) hq3
    show mergeK (putK acc p.1 p.2) more = _
    rw [putK_new p.2 hn, merge_new more _ (by rw [List.append_assoc]; exact h), List.append_assoc]
    rfl
theorem merge_nd {kvs : List (Key × V)} (h : (kvs.map (·.1)).Nodup) : mergeK [] kvs = kvs := by
  rw [merge_new kvs [] (by simpa using h), List.nil_append]
theorem dk_keys {ns : List Str} {vs : List Int} (h : ns.length = vs.length) : (dk ns vs).map (·.1) = ns.map Sum.inr := by
  unfold dk
  rw [List.map_map]
  have e : ((fun x => x.1) ∘ fun p : Str × Int => ((Sum.inr p.1 : Key), V.int p.2)) = (fun p : Str × Int => (Sum.inr p.1 : Key)) := rfl
  rw [e]
  have e2 : (ns.zip vs).map (fun p : Str × Int => (Sum.inr p.1 : Key)) = ((ns.zip vs).map Prod.fst).map Sum.inr := by rw [List.map_map]; rfl
  rw [e2, List.map_fst_zip (by omega)]
theorem dk_nd {ns : List Str} {vs : List Int} (h : ns.length = vs.length) (nd : ns.Nodup) : ((dk ns vs).map (·.1)).Nodup := by
  rw [dk_keys h]
  exact List.Pairwise.map Sum.inr (fun a b h e => h (Sum.inr.inj e)) nd
/-- rows as they are drawn: at as dicts with the names ns and the ints of tbl -/
def RowsAt (H : Hp) (l ls : Addr) (ns : List Str) : List Addr → List (List Int) → Prop :=
  Paired fun a vs => H a = some (.dK (dk ns vs)) ∧ vs.length = ns.length ∧ a ≠ l ∧ a ≠ ls
theorem RowsAt.but {H H' : Hp} {l ls : Addr} {ns : List Str} {as : List Addr} {tbl : List (List Int)} (r : RowsAt H l ls ns as tbl) (b : But l ls H H') : RowsAt H' l ls ns as tbl :=
  Paired.mapP r fun a vs h => ⟨b _ _ h.2.2.1 h.2.2.2 h.1, h.2⟩
def spRows : Sp := fun vs H Q _ => ∃ (l ls : Addr) (many rows values N : Int), vs = [.ref l, .int many, .int rows, .int values] ∧ Strm H l ls N ∧ N ≤ 500000 ∧ 0 < many ∧ many ≤ 10 ∧ 0 < rows ∧ rows ≤ 20 ∧ 0 < values ∧ values ≤ 100 ∧
  ∀ H' q as ns tbl, (ns : List Str).length ≤ 10 → ns ≠ [] → ns.Nodup → (∀ x ∈ ns, NmS x) → (tbl : List (List Int)).length ≤ 20 → tbl ≠ [] → H q = none → q ≠ l → q ≠ ls → H' q = some (.lst (as.map V.ref)) → RowsAt H' l ls ns as tbl →
    Strm H' l ls (N + 1000) → But l ls H H' → Q (.ref q) H'
abbrev NR : List Str := ["stream", "many", "rows", "values", "names", "found", "k", "name"]
theorem scRows : FnScope NR ["stream", "many", "rows", "values"] (defScope sRows) := ⟨rfl, rfl, rfl, by decide +kernel, rfl, by decide +kernel, by decide +kernel⟩
section
variable {P : Program} {w : World} {K : PySem.W.Frag} {mg : Str → Option Value} {base : Heap} {f fD fP fN : Addr} {fd fdD fdP fdN : FuncData}
theorem ok_rows (F : Fun K "_law_t_rows" "_law_t_rows" sRows f fd) (FN : Fun K "_law_t_names" "_law_t_names" sNames fN fdN) (gNm : mg "_law_t_names" = some (.ref fN)) (FP : Fun K "_law_pick" "_law_pick" sPick fP fdP) (gP : mg "_law_pick" = some (.ref fP)) (FD : Fun K "_law_draw" "_law_draw" sDraw fD fdD)
    (gD : mg "_law_draw" = some (.ref fD)) (gI : mg "int" = none) (gN : mg "len" = none) (gR : mg "range" = none) (gDi : mg "dict" = none) : FnOk P w K mg base CX0 4 f fd ["stream", "many", "rows", "values"] spRows := by
  have G : FnOk P w K mg base CX0 1 fD fdD ["stream", "many"] spDraw := ok_draw FD gI
  have b := FD.binds (ps := ["stream", "many"]) fun _ _ _ _ _ _ us hl => match us, hl with | [_, _], _ => rfl
  have GN : FnOk P w K mg base CX0 3 fN fdN ["stream", "many"] spNames := ok_names FN FP gP FD gD gI gN gR
  have bN := FN.binds (ps := ["stream", "many"]) fun _ _ _ _ _ _ us hl => match us, hl with | [_, _], _ => rfl
  refine F.ok scRows (fun vs H Q E h => by obtain ⟨l, ls, a, b, c, N, e, _⟩ := h; rw [e]; rfl) fun cdv A outer s H vs Q E hr hsp => ?_
  obtain ⟨l, ls, many, rws, vals, N, rfl, hS, hN, m0, m1, w0, w1, v0, v1, hq⟩ := hsp
  have nd := scRows.nd
  refine ⟨_, pss_cons (ps_par (i := 4) (j := 5) rfl nd rfl rfl (by decide) rfl rfl (pa_cons (pe_call GN hr rfl gNm FN.kp bN .nil pass0 (pa_cons (pv 0) (pa_cons (pe_op op_add pe_int (pe_call G (hr.mono (by decide)) rfl gD FD.kp b .nil pass0 (pa_cons (pv 0) (pa_cons (pv 1) pa_nil)))) pa_nil))) (pa_cons (pe_lst pa_nil) pa_nil)) (by rfl))
    (pss_cons (ps_for PassesOwn.never rfl (pi_range1 rfl gR (pa_cons (pe_op op_add pe_int (pe_call G (hr.mono (by decide)) rfl gD FD.kp b .nil pass0 (pa_cons (pv 0) (pa_cons (pv 2) pa_nil)))) pa_nil)) (pg_name (i := 6) nd rfl (Or.inl rfl))
      (pss_one (ps_expr (pe_bm PySem.F.plainAttrs_list PySem.F.slot_list_append PySem.F.type_list_append mt_append (pv 5) (pa_cons (pe_callTy (call_dictP rfl) rfl gDi (by decide +kernel) (pa_cons (pe_lc (own := [("name", 7)]) (tt := tYes) rfl nd (pi_list (pv 4)) (blkOk_by (N := NR) (sc := defScope sRows) (by decide +kernel))
        (fun _ _ _ _ _ => pg_name (i := 7) nd rfl (Or.inl rfl)) (fun _ _ _ _ _ => pts_nil) (fun _ _ _ _ _ => pe_tup (pa_cons (pv 7) (pa_cons (pe_op op_sub (pe_call G (hr.mono (by decide)) rfl gD FD.kp b .nil pass0 (pa_cons (pv 0) (pa_cons (pv 3) pa_nil))) pe_int) pa_nil)))) pa_nil)) pa_nil)))))
    (pss_one (ps_ret (pv 5)))), ?_⟩
  refine ⟨_, rfl, _, rfl, _, rfl, l, ls, many, N, rfl, hS, by omega, by omega, by omega, fun H1 r r0 r1 S1 B1 => ?_⟩
  refine ⟨_, _, rfl, rfl, l, ls, 1 + r, N + 1, rfl, S1, by omega, by omega, by omega, fun H2 c ns lns nds oks nc oc S2 B2 => ?_⟩
  have ac := S1.apart (Same.refl _) nc
  have nl : 1 ≤ ns.length ∧ ns.length ≤ 10 := by omega
  refine ⟨Nat.zero_le _, fun q nq => ?_⟩
  have aq := S2.apart (Same.refl _) nq
  have S2' : Strm H2 l ls (N + 60) := S2.mono (by omega)
  have B12 := B1.trans B2
  have cq : c ≠ q := fun z => by rw [z, nq] at oc; cases oc
  refine ⟨_, _, rfl, ?_⟩
  refine ⟨_, rfl, _, rfl, l, ls, rws, _, rfl, S2'.same (same_new nq), by omega, w0, by omega, fun H3 r' r0' r1' S3 B3 => ?_⟩
  have oc3 := B3 _ _ ac.1 ac.2 (same_new nq _ _ oc)
  have oq3 := B3 _ _ aq.1 aq.2 (upd_same (H := H2) (a := q) (o := .lst []))
  have B03 : But l ls H H3 := (B12.trans (But.of (same_new nq))).trans B3
  refine ⟨_, _, rfl, rfl, 1 + r', rfl, by omega, by omega, for_range (n := (1 + r').toNat) (fun i σ H' => (∃ as tbl, H' q = some (.lst ((as : List Addr).map V.ref)) ∧ RowsAt H' l ls ns as tbl ∧ tbl.length = i) ∧ H' c = some (.lst (ns.map V.str)) ∧ Strm H' l ls (N + 70 + 12 * i) ∧ But l ls H H' ∧
    ∃ s6 s7, σ = [some (.ref l), some (.int many), some (.int rws), some (.int vals), some (.ref c), some (.ref q), s6, s7]) ⟨⟨[], [], oq3, .nil, rfl⟩, oc3, S3.mono (by omega), B03, _, _, rfl⟩ ?_ ?_⟩
  · rintro i σ H4 hi ⟨⟨as, tbl, oq4, R4, lt4⟩, oc4, S4, B4, s6, s7, rfl⟩
    have hi2 : (i : Int) < 20 := by omega
    refine ⟨_, rfl, .inl ⟨rfl, _, SqL.of oq4⟩, _, rfl, c, rfl, ⟨_, SqL.of oc4⟩, fun D nD => ?_⟩
    have aD := S4.apart (Same.refl _) nD
    have Dq : D ≠ q := fun z => by rw [z, oq4] at nD; cases nD
    refine lc_list (xs := ns.map V.str) (fun j H' => ∃ ps vs, H' D = some (.lst ((ps : List Addr).map V.ref)) ∧ Paired (fun p (kv : Str × Int) => H' p = some (.tup [.str kv.1, .int kv.2]) ∧ p ≠ l ∧ p ≠ ls) ps ((ns.take j).zip vs) ∧ vs.length = j ∧
      Strm H' l ls (N + 70 + 12 * i + j) ∧ But l ls H4 H') ⟨[], [], upd_same, .nil, rfl, by simpa using S4.same (same_new nD), But.of (same_new nD)⟩ (fun j H' _ h => SqL.of (h.choose_spec.choose_spec.2.2.2.2 _ _ ac.1 ac.2 oc4)) ?_ ?_
    · rintro j v H5 ev ⟨ps, vs, oD, pr, lv, S5, B5⟩
      rw [List.getElem?_map] at ev
      obtain ⟨x, ex, rfl⟩ := Option.map_eq_some_iff.mp ev
      have hj : j < ns.length := (List.getElem?_eq_some_iff.mp ex).1
      have et : ns.take (j + 1) = ns.take j ++ [x] := by rw [List.take_succ, ex]; rfl
      refine ⟨rfl, ?_⟩
      refine ⟨_, rfl, _, rfl, _, rfl, l, ls, vals, _, rfl, S5, by omega, v0, by omega, fun H6 z z0 z1 S6 B6 => ?_⟩
      refine ⟨_, _, rfl, rfl, (by rw [sizeLine_eq]; show 2 ≤ _; omega), fun p np => ?_⟩
      have ap := S6.apart (Same.refl _) np
      have k6 := same_new (o := .tup [.str x, .int (z - 1)]) np
      have oD6 := B6 _ _ aD.1 aD.2 oD
      have pD : p ≠ D := fun y => by rw [y, oD6] at np; cases np
      have lps : ps.length = j := by
        have e := Paired.length pr
        rw [List.length_zip, List.length_take] at e
        omega
      refine ⟨_, k6 _ _ oD6, (by rw [sizeLine_eq, List.length_map]; omega), ps ++ [p], vs ++ [z - 1], by rw [upd_same]; simp, ?_, by simp [lv], ?_, ?_⟩
      · rw [et, List.zip_append (by rw [List.length_take]; omega)]
        refine paired_snoc ⟨by rw [upd_ne pD, upd_same], ap⟩ (Paired.mapP pr fun a kv h => ⟨?_, h.2⟩)
        have na : a ≠ D := fun y => by rw [y, oD] at h; cases h.1
        rw [upd_ne na]
        exact k6 _ _ (B6 _ _ h.2.1 h.2.2 h.1)
      · obtain ⟨cs', g, k, m, S⟩ := S6.same k6
        exact Strm.mono ⟨cs', g, k, m, by rw [upd_ne (Ne.symm aD.1)]; exact S.o, by rw [upd_ne (Ne.symm aD.2)]; exact S.c, S.ne, S.g0, S.k0, S.k1, S.m0, S.m1, S.sz⟩ (by omega)
      · intro b' o h1 h2 e
        have nb : b' ≠ D := ne_of_none e nD
        rw [upd_ne nb]
        exact k6 _ _ (B6 _ _ h1 h2 (B5 _ _ h1 h2 e))
    · rintro H5 ⟨ps, vs, oD, pr, lv, S5, B5⟩
      have etk : ns.take (ns.map V.str).length = ns := List.take_of_length_le (by rw [List.length_map]; omega)
      rw [etk] at pr
      have lv2 : vs.length = ns.length := by rw [lv, List.length_map]
      refine ⟨D, ps, dk ns vs, rfl, SqL.of oD, paired_map (Paired.mapP pr fun p kv h => SqT.of h.1), fun p np => ?_⟩
      rw [merge_nd (dk_nd lv2.symm nds)]
      have ap := S5.apart (Same.refl _) np
      have k5 := same_new (o := .dK (dk ns vs)) np
      have oq5 := k5 _ _ (B5 _ _ aq.1 aq.2 oq4)
      have las : as.length = i := by rw [Paired.length R4, lt4]
      have pq : p ≠ q := fun y => by rw [y, B5 _ _ aq.1 aq.2 oq4] at np; cases np
      have B6 : But l ls (upd H5 p (.dK (dk ns vs))) (upd (upd H5 p (.dK (dk ns vs))) q (.lst (as.map V.ref ++ [.ref p]))) → True := fun _ => trivial
      refine ⟨q, as.map V.ref, .ref p, rfl, rfl, oq5, (by rw [sizeLine_eq, List.length_map]; omega), ⟨as ++ [p], tbl ++ [vs], by rw [upd_same]; simp, ?_, by simp [lt4]⟩, ?_, ?_, ?_, _, _, rfl⟩
      · refine paired_snoc ⟨by rw [upd_ne pq, upd_same], lv2, ap⟩ (Paired.mapP R4 fun a vs' h => ⟨?_, h.2⟩)
        have na : a ≠ q := fun y => by rw [y, oq4] at h; cases h.1
        rw [upd_ne na]
        exact k5 _ _ (B5 _ _ h.2.2.1 h.2.2.2 h.1)
      · rw [upd_ne cq]
        exact k5 _ _ (B5 _ _ ac.1 ac.2 oc4)
      · obtain ⟨cs', g, k, m, S⟩ := S5.same k5
        have lx : (ns.map V.str).length ≤ 10 := by rw [List.length_map]; omega
        exact Strm.mono ⟨cs', g, k, m, by rw [upd_ne (Ne.symm aq.1)]; exact S.o, by rw [upd_ne (Ne.symm aq.2)]; exact S.c, S.ne, S.g0, S.k0, S.k1, S.m0, S.m1, S.sz⟩ (by omega)
      · intro b' o h1 h2 e
        have nb : b' ≠ q := fun y => by
          have z := B12 _ _ h1 h2 e
          rw [y, nq] at z; cases z
        rw [upd_ne nb]
        exact k5 _ _ (B5 _ _ h1 h2 (B4 _ _ h1 h2 e))
  · rintro σ H4 ⟨⟨as, tbl, oq4, R4, lt4⟩, oc4, S4, B4, s6, s7, rfl⟩
    have nq0 : H q = none := by
      cases e : H q with
      | none => rfl
      | some o => have z := B12 _ _ aq.1 aq.2 e; rw [nq] at z; cases z
    have nn : ns ≠ [] := fun z => by rw [z] at nl; simp at nl
    have tn : tbl ≠ [] := fun z => by rw [z] at lt4; simp at lt4; omega
    exact ⟨_, rfl, hq H4 q as ns tbl nl.2 nn nds oks (by omega) tn nq0 aq.1 aq.2 oq4 R4 (S4.mono (by omega)) B4⟩
end
end L2.TB
namespace L2.TB
open PySem
open PySem.Spec PyProof.Rows
/-! for i, x in enumerate(thing), thing a list or a tuple -/
abbrev tupIter (t : Addr) : Obj := { cls := .type "tuple_iterator", data := .fields #[.ref t, .int 0 0] }
abbrev enumRec (q : Addr) : Obj := { cls := .type "enumerate", data := .fields #[.none, .bool false, .ref q, rawInt 0, .none, .none] }
section
variable {P : Program} {w : World}
/-- what enumerate's maker does with a tuple -/
theorem made_enum (t : Addr) (ys : Array Value) : Meets (Builtin.«enumerate.__new__» ⟨[.type "enumerate", .ref t], []⟩) fun _ done z =>
    z.heap.IsTuple t ys ∧ done (.ok (.ret (.ref (z.heap.push (tupIter t)).objs.size))) { z with heap := (z.heap.push (tupIter t)).push (enumRec z.heap.objs.size) } :=
  .of_wp fun _ _ _ _ z hz => by
    obtain ⟨h0, gs, ds, tk, os⟩ := z
    obtain ⟨isT, fin⟩ := hz
    have sub := sub_enumerate
    have step : ∀ {A' : Around} {E' : Value → Shared → Prop} {Q' : Value → Shared → Prop} {P' : Program} {w' : World}, Q' (.ref h0.objs.size) ⟨h0.push (tupIter t), gs, ds, tk, os⟩ → wpAny (model P' w') A' (pyIter (.ref t)) Q' E' ⟨h0, gs, ds, tk, os⟩ :=
      fun more => wpAny_pyIter_tuple (s := ⟨h0, gs, ds, tk, os⟩) isT more
    wp_walk using step
    refine wpAny_stack_any (fun _ => wpAny_pure ?_)
    split
    · rename_i c _ _ _ _ _
      rcases (c == Value.type "enumerate") with _ | _ <;> (wp_walk using step; exact ⟨_, rfl, fin⟩)
    · wp_walk using step
      exact ⟨_, rfl, fin⟩
/-- the call -/
theorem enum_of_tuple {A : Around} {z : Shared} {E Q : Value → Shared → Prop} {t : Addr} {ys : Array Value} (isT : z.heap.IsTuple t ys)
    (more : IsEnum ((z.heap.push (tupIter t)).push (enumRec z.heap.objs.size)) (z.heap.objs.size + 1) z.heap.objs.size 0 .none →
      Q (.ref (z.heap.objs.size + 1)) { z with heap := (z.heap.push (tupIter t)).push (enumRec z.heap.objs.size) }) : wpAny (model P w) A (call (.type "enumerate") [.ref t]) Q E z := by
  refine callType_new F.called_enumerate (by decide) (F.typeCall_enumerate_1 _) (F.newCall_enumerate_1 _) (fun b => F.args_object_init_2 b _) F.entry_enumerate_new (made_enum t ys) ⟨isT, ?_⟩
  have size1 : (z.heap.push (tupIter t)).objs.size = z.heap.objs.size + 1 := Heap.size_push ..
  have rec1 := Heap.get?_push_size (z.heap.push (tupIter t)) (o := enumRec z.heap.objs.size) rfl
  rw [size1] at rec1
  show _ ∧ _
  rw [size1]
  exact ⟨⟨_, rec1, rfl⟩, more rec1⟩
end
/-- the items of the tuple at t, each in a new pair with its number -/
def IteT (K : PySem.W.Frag) (t : Addr) : It where
  go i H := ∃ (ys : List V) (y : V), SqT K H t ys ∧ ys[i]? = some y
  yld i H v H' := ∃ T y, v = .ref T ∧ H T = none ∧ H' = upd H T (.tup [.int (i : Nat), y]) ∧ ∀ ys, SqT K H t ys → ys[i]? = some y
  stop i H := ∃ ys : List V, SqT K H t ys ∧ ys.length ≤ i
/-- three records of three classes stand at three places -/
theorem three {h : Heap} {t q r : Addr} {ys : Array Value} {i : Nat} {c : Int} {old : Value} (isT : h.IsTuple t ys) (isQ : h.IsTupleIter q t i) (isR : IsEnum h r q c old) : t ≠ q ∧ r ≠ t := by
  obtain ⟨ot, gt, ct, _⟩ := isT
  obtain ⟨oq, gq, cq, _⟩ := isQ
  have ct : ot.cls = Value.type "tuple" := ct
  have cq : oq.cls = Value.type "tuple_iterator" := cq
  constructor
  · rintro rfl
    rw [gt] at gq
    injection gq with same
    rw [← same, ct] at cq
    exact absurd cq (by decide)
  · rintro rfl
    have gr := isR
    unfold IsEnum at gr
    rw [gt] at gr
    injection gr with same
    rw [same] at ct
    exact absurd (show Value.type "enumerate" = Value.type "tuple" from ct) (by decide)
theorem two_of {b r q : Addr} {p : Addr → Prop} (hr : p r) (hq : p q) (hb : b ∈ [r, q]) : p b := by
  rcases List.mem_cons.mp hb with rfl | hb
  · exact hr
  · obtain rfl := List.mem_singleton.mp hb
    exact hq
theorem turn_enumT {P : Program} {w : World} {K : PySem.W.Frag} {elts : List Expr} {kk : Nat} {tpos : Pos} (t r q : Addr) :
    Turn P w K (.Tuple elts kk tpos) (IteT K t) [r, q] r (fun i h => r ≠ q ∧ h.IsTupleIter q t i ∧ ∃ old, IsEnum h r q ((i : Nat) : Int) old) := by
  refine ⟨List.mem_cons_self, fun i h st b hb => ?_, fun i h h' st same => ?_, ?_, ?_, fun A i z Q E st more => ?_⟩
  · obtain ⟨_, ⟨oq, gq, _, dq⟩, old, gr⟩ := st
    exact two_of (p := fun b => ∃ o, h.get? b = some o ∧ ∀ v, o.data ≠ .cell v) ⟨_, gr, fun _ e => nomatch e⟩ ⟨oq, gq, fun _ e => by rw [dq] at e; exact nomatch e⟩ hb
  · obtain ⟨ne, gq, old, gr⟩ := st
    exact ⟨ne, gq.at fun o e => same q (List.mem_cons_of_mem _ List.mem_cons_self) o e, old, same r List.mem_cons_self _ gr⟩
  · rintro X rfl rfl rfl calm i pins z σ H E I room ⟨ne, gq, old, gr⟩ ⟨ys, y, isY, nth⟩
    obtain ⟨vs, rel, isT, _⟩ := I.tuple isY
    obtain ⟨v, nthV, relV⟩ := rel.get nth
    have isT : z.heap.IsTuple t vs.toArray := isT
    obtain ⟨tq, rt⟩ := three isT gq gr
    have lr : r < z.heap.objs.size := Heap.lt_size gr
    have lq : q < z.heap.objs.size := gq.elim fun _ e => Heap.lt_size e.1
    have inside : i < vs.toArray.size := by
      have := (List.getElem?_eq_some_iff.mp nthV).1
      simpa using this
    have draws := Draws.tuple (prog := X.prog) (w := X.w) (A := X.A.in1) (I.ok.hd calm) q t tq vs.toArray
    refine wpAny_pyNext_enum_itemC draws gr ⟨gq, isT⟩ inside ne (fun m => two_of (p := fun b => r = b → False) ne rt m rfl) fun v' h1 tk hv out stQ newT _ kept1 => ?_
    obtain rfl : v' = v := by
      have hv : vs.toArray[i]? = some v' := hv
      rw [List.getElem?_toArray, nthV] at hv
      exact (Option.some.inj hv).symm
    refine ⟨_, rfl, wpAny_letOwnedTupleGo_enum (s := { z with heap := h1, toks := tk + 1 }) out fun h2 back same2 => ?_⟩
    have at2 : ∀ b o, b ∉ [r, q] → z.heap.get? b = some o → h2.get? b = some o := fun b o away e =>
      (same2.2 b fun k => away (k ▸ List.mem_cons_self)).trans (kept1 b o (fun k => away (k ▸ List.mem_cons_self)) (fun k => away (k ▸ List.mem_cons_of_mem _ List.mem_cons_self)) e)
    have pair : ObjOk X.prog X.w (upd H z.heap.objs.size (.tup [.int (i : Nat), y])) h2 z.heap.objs.size (.tup [.int (i : Nat), y]) :=
      ⟨show 2 ≤ sizeLine by decide, [.int i tk, v'], .cons ⟨tk, rfl⟩ (.cons relV .nil), _, (same2.2 _ (Nat.ne_of_gt lr)).trans newT, rfl, _, rfl⟩
    refine ⟨.ref z.heap.objs.size, _, I.turnedNew (t' := tk + 1) at2 room (Nat.le_refl _) pair, rfl, ⟨_, y, rfl, I.hok.fresh (Nat.le_refl _), rfl, fun ys' is' => ?_⟩, ⟨ne, ?_, v', ?_⟩, fun b hb => ?_⟩
    · rw [I.tuple_inj is' isY]; exact nth
    · exact stQ.1.at fun o e => (same2.2 q ne.symm).trans e
    · rw [show ((i + 1 : Nat) : Int) = (i : Int) + 1 from by omega]; exact back
    · have lb : b < z.heap.objs.size := two_of (p := fun b => b < z.heap.objs.size) lr lq hb
      rw [upd_ne (Nat.ne_of_lt lb)]
      exact (room b hb).1
  · rintro X rfl rfl rfl calm i pins z σ H E I room ⟨ne, gq, old, gr⟩ ⟨ys, isY, past⟩
    obtain ⟨vs, rel, isT, _⟩ := I.tuple isY
    have isT : z.heap.IsTuple t vs.toArray := isT
    obtain ⟨k0, k1, k2, k3, k4, k5⟩ := room q (List.mem_cons_of_mem _ List.mem_cons_self)
    have isE : z.TypeIs (.ref r) "enumerate" := ⟨_, gr, rfl⟩
    have len := rel.length
    have past : vs.toArray[i]? = none := by rw [List.getElem?_toArray, List.getElem?_eq_none_iff]; omega
    unfold pyNext
    refine wpAny_bind (wpAny_attempt (wpAny_callSpecial?_slot (name := Str.ofString "__next__") isE F.slot_enumerate_next (wpAny_call_entry F.slot_enumerate_next isE F.entry_enumerate_next ?_ (F.args_enumerate_next_1 _))))
    show wpAny _ _ (field (.ref r) 2 >>= _) _ _ z
    refine wpAny_bind (wpAny_field gr rfl (x := .ref q) rfl (wpAny_bind (wpAny_nextOf_tuple_end (I.ok.hd calm) gq isT past fun h1 x but ⟨ox, gx, cx⟩ => ?_)))
    exact wpAny_bind (wpAny_isInstance (T := "StopIteration") (b := true) ⟨ox, gx, cx⟩ isSubtype_stop (wpAny_pure ⟨rfl, I.turned (t' := z.toks) (fun b o away e => but b o away e) k0 k1 k3 k4 k5⟩))
  · obtain ⟨_, _, old, gr⟩ := st
    exact wpAny_pyIter_enum gr more
/-- the reading of enumerate over a list or over a tuple -/
def iEnumS (K : PySem.W.Frag) (ta : TA) : TI := fun σ H R => ta σ H fun vs H1 => ∃ a xs, vs = [.ref a] ∧ ((SqL K H1 a xs ∧ R (Ite K a) H1) ∨ (SqT K H1 a xs ∧ R (IteT K a) H1))
theorem pi_enumS {X : Cx} {e : Expr} {ta : TA} {p pos tpos : Pos} {elts : List Expr} {kk : Nat} (hg : Gl X "enumerate") (hm : X.mg "enumerate" = none) (ha : PA X [e] ta) (hs : starEach [e] X.env = [(false, eval e X.env)] := by rfl) :
    PI X (.Tuple elts kk tpos) (.Call (.Name "enumerate" p) [e] [] pos) (iEnumS X.K ta) := by
  refine PI.mk fun pins z σ H R I reading => Call_ (ld_blt I hg hm boot_enumerate (PyProof.Rows.callWith_type1 (thn (ha.run pos pins z σ H _ I reading) fun us z1 hu => ?_) hs rfl))
  obtain ⟨vs, H1, I1, rel, a, xs, rfl, cases2⟩ := hu
  match us, rel with
  | [u], .cons ru .nil =>
    obtain rfl : u = Value.ref a := ru
    have fresh : ∀ b ∈ [z1.heap.objs.size + 1, z1.heap.objs.size], FpOk X pins H1 b := fun b hb =>
      have far : z1.heap.objs.size ≤ b := two_of (p := fun b => z1.heap.objs.size ≤ b) (Nat.le_succ _) (Nat.le_refl _) hb
      I1.fpOk far (I1.hok.fresh far)
    rcases cases2 with ⟨sq, q⟩ | ⟨sq, q⟩
    · obtain ⟨its, rv, isL, _⟩ := I1.list sq
      exact call_enumerate_list isL.isList fun h' gE gI _ kept => wpAny_pyIter_enum gE ⟨_, _, _, _, H1, rfl, I1.kept (t' := z1.toks) kept, turn_enum a _ _, ⟨⟨.none, gE⟩, gI, Nat.succ_ne_self _⟩, fresh, q⟩
    · obtain ⟨its, rv, isT, _⟩ := I1.tuple sq
      have isT : z1.heap.IsTuple a its.toArray := isT
      refine enum_of_tuple isT fun gE => wpAny_pyIter_enum gE ⟨_, _, _, _, H1, rfl, I1.kept (t' := z1.toks) fun b o e => ?_, turn_enumT a _ _, ⟨Nat.succ_ne_self _, ?_, .none, gE⟩, fresh, q⟩
      · exact Heap.get?_push_of_some _ (Heap.get?_push_of_some _ e)
      · exact ⟨_, Heap.get?_push_of_some _ (Heap.get?_push_size _ rfl), rfl, rfl⟩
end L2.TB
namespace L2.TB
open PySem PySem.Spec PyProof.Rows
/-! the program's looks at what it is passed -/
theorem boot_int' : bootBuiltins "int" = some (.type "int") := by decide +kernel
theorem boot_bool' : bootBuiltins "bool" = some (.type "bool") := by decide +kernel
theorem boot_str' : bootBuiltins "str" = some (.type "str") := by decide +kernel
theorem boot_list' : bootBuiltins "list" = some (.type "list") := by decide +kernel
theorem boot_tuple' : bootBuiltins "tuple" = some (.type "tuple") := by decide +kernel
theorem boot_dict' : bootBuiltins "dict" = some (.type "dict") := by decide +kernel
theorem boot_isi : bootBuiltins "isinstance" = some (.builtin "isinstance") := by decide +kernel
/-- the list or the tuple at a -/
def SqA (K : PySem.W.Frag) (H : Hp) (a : Addr) (xs : List V) : Prop := H a = some (.lst xs) ∨ H a = some (.tup xs)
theorem SqA.seq {K : PySem.W.Frag} {H : Hp} {a : Addr} {xs : List V} (h : SqA K H a xs) : SqL K H a xs ∨ SqT K H a xs := h.imp SqL.of SqT.of
theorem SqA.same {K : PySem.W.Frag} {H H' : Hp} {a : Addr} {xs : List V} (h : SqA K H a xs) (s : Same H H') : SqA K H' a xs := h.imp (s _ _) (s _ _)
theorem kit_two_l {K : PySem.W.Frag} : PySem.W.kitAny K (.type "list") [.type "list", .type "tuple"] = some true := by
  unfold PySem.W.kitAny
  rw [kit_ty (K := K) (a := "list") (b := "list") (r := true) (by decide +kernel)]
theorem kit_two_t {K : PySem.W.Frag} : PySem.W.kitAny K (.type "tuple") [.type "list", .type "tuple"] = some true := by
  unfold PySem.W.kitAny
  rw [kit_ty (K := K) (a := "tuple") (b := "list") (r := false) (by decide +kernel)]
  dsimp only
  unfold PySem.W.kitAny
  rw [kit_ty (K := K) (a := "tuple") (b := "tuple") (r := true) (by decide +kernel)]
def spIsInt : Sp := fun vs H Q _ => ∃ k : Int, vs = [.int k] ∧ Q (.bl true) H
def spIsList (K : PySem.W.Frag) : Sp := fun vs H Q _ => ∃ (a : Addr) (xs : List V), vs = [.ref a] ∧ SqA K H a xs ∧ ∀ H', Same H H' → Q (.bl true) H'
def spIsOne (K : PySem.W.Frag) : Sp := fun vs H Q _ => ∃ (c : Addr) (ns : List Str) (x : Str), vs = [.ref c, .str x] ∧ SqL K H c (ns.map V.str) ∧ Q (.bl (decide (x ∈ ns))) H
/-- no bad one -/
def spFirst (K : PySem.W.Frag) : Sp := fun vs H Q _ => ∃ (c a : Addr) (ns known : List Str), vs = [.ref c, .ref a] ∧ H c = some (.lst (ns.map V.str)) ∧ SqA K H a (known.map V.str) ∧ known.Nodup ∧ (∀ x ∈ known, x ∈ ns) ∧ known.length < 1000 ∧ ∀ H', Same H H' → Q .non H'
theorem scIsInt : FnScope ["thing"] ["thing"] (defScope sIsInt) := ⟨rfl, rfl, rfl, by decide +kernel, rfl, by decide +kernel, by decide +kernel⟩
theorem scIsList : FnScope ["thing"] ["thing"] (defScope sIsList) := ⟨rfl, rfl, rfl, by decide +kernel, rfl, by decide +kernel, by decide +kernel⟩
theorem scIsOne : FnScope ["names", "thing"] ["names", "thing"] (defScope sIsOne) := ⟨rfl, rfl, rfl, by decide +kernel, rfl, by decide +kernel, by decide +kernel⟩
abbrev NF : List Str := ["names", "things", "seen", "index", "thing"]
theorem scFirst : FnScope NF ["names", "things"] (defScope sFirst) := ⟨rfl, rfl, rfl, by decide +kernel, rfl, by decide +kernel, by decide +kernel⟩
section
variable {P : Program} {w : World} {K : PySem.W.Frag} {mg : Str → Option Value} {base : Heap} {f fL fO : Addr} {fd fdL fdO : FuncData}
theorem ok_isInt (F : Fun K "is_integer" "is_integer" sIsInt f fd) (gI : mg "isinstance" = none) (gInt : mg "int" = none) (gB : mg "bool" = none) : FnOk P w K mg base CX0 1 f fd ["thing"] spIsInt := by
  refine F.ok scIsInt (fun vs H Q E h => by obtain ⟨k, e, _⟩ := h; rw [e]; rfl) fun cdv A outer s H vs Q E hr hsp => ?_
  obtain ⟨k, rfl, hq⟩ := hsp
  refine ⟨_, pss_one (ps_ret (pe_and (pe_callB (r := rIsi K) call_isi rfl gI boot_isi (pa_cons (pv 0) (pa_cons (pe_bltn (v := .ty "int") rfl gInt boot_int' rfl) pa_nil)))
    (pe_one (pe_not (pe_callB (r := rIsi K) call_isi rfl gI boot_isi (pa_cons (pv 0) (pa_cons (pe_bltn (v := .ty "bool") rfl gB boot_bool' rfl) pa_nil))))))), ?_⟩
  exact ⟨_, rfl, _, _, _, _, true, rfl, .ty _, .base (.int k), kit_ty (by decide +kernel), true, rfl, _, rfl, _, _, _, _, false, rfl, .ty _, .base (.int k), kit_ty (by decide +kernel), false, rfl, hq⟩
theorem ok_isList (F : Fun K "is_list" "is_list" sIsList f fd) (gI : mg "isinstance" = none) (gL : mg "list" = none) (gT : mg "tuple" = none) : FnOk P w K mg base CX0 1 f fd ["thing"] (spIsList K) := by
  refine F.ok scIsList (fun vs H Q E h => by obtain ⟨a, xs, e, _⟩ := h; rw [e]; rfl) fun cdv A outer s H vs Q E hr hsp => ?_
  obtain ⟨a, xs, rfl, hS, hq⟩ := hsp
  refine ⟨_, pss_one (ps_ret (pe_callB (r := rIsiT K) call_isiT rfl gI boot_isi (pa_cons (pv 0) (pa_cons (pe_tup (pa_cons (pe_bltn (v := .ty "list") rfl gL boot_list' rfl) (pa_cons (pe_bltn (v := .ty "tuple") rfl gT boot_tuple' rfl) pa_nil))) pa_nil)))), ?_⟩
  refine ⟨_, rfl, (by show 2 ≤ sizeLine; decide), fun t nt => ?_⟩
  have kt := same_new (o := .tup [.ty "list", .ty "tuple"]) nt
  rcases hS.same kt with e | e
  · exact ⟨_, _, _, _, _, true, rfl, upd_same, .cons (.ty _) (.cons (.ty _) .nil), .base (.lst e), kit_two_l, hq _ kt⟩
  · exact ⟨_, _, _, _, _, true, rfl, upd_same, .cons (.ty _) (.cons (.ty _) .nil), .base (.tup e), kit_two_t, hq _ kt⟩
theorem ok_isOne (F : Fun K "is_one_of" "is_one_of" sIsOne f fd) (gI : mg "isinstance" = none) (gS : mg "str" = none) : FnOk P w K mg base CX0 1 f fd ["names", "thing"] (spIsOne K) := by
  refine F.ok scIsOne (fun vs H Q E h => by obtain ⟨c, ns, x, e, _⟩ := h; rw [e]; rfl) fun cdv A outer s H vs Q E hr hsp => ?_
  obtain ⟨c, ns, x, rfl, hS, hq⟩ := hsp
  refine ⟨_, pss_one (ps_ret (pe_and (pe_callB (r := rIsi K) call_isi rfl gI boot_isi (pa_cons (pv 1) (pa_cons (pe_bltn (v := .ty "str") rfl gS boot_str' rfl) pa_nil)))
    (pe_one (pe_cmpR op_in_seq (pv 1) (pv 0) rfl)))), ?_⟩
  refine ⟨_, rfl, _, _, _, _, true, rfl, .ty _, .base (.str x), kit_ty (by decide +kernel), true, rfl, _, rfl, _, rfl, c, _, rfl, .inl hS, rfl, flat_strs ns, ?_⟩
  rw [inV_strs]
  exact hq
/-- the dict of what was seen -/
def seenD (xs : List Str) : List (Key × V) := xs.map fun x => (Sum.inr x, V.bl true)
theorem seen_none {xs : List Str} {x : Str} (h : x ∉ xs) : valV (seenD xs) (Sum.inr x) = none := by
  cases e : valV (seenD xs) (Sum.inr x) with
  | none => rfl
  | some v =>
    exfalso
    have z : (valV (seenD xs) (Sum.inr x)).isSome = true := by rw [e]; rfl
    rw [← valV_any, List.any_eq_true] at z
    obtain ⟨q, hq, hq2⟩ := z
    obtain ⟨y, hy, rfl⟩ := List.mem_map.mp hq
    have hq3 : (Sum.inr y : Key) = Sum.inr x := of_decide_eq_true hq2
    exact h (Sum.inr.inj hq3 ▸ hy)
theorem seen_put {xs : List Str} {x : Str} (h : x ∉ xs) : putK (seenD xs) (Sum.inr x) (.bl true) = seenD (xs ++ [x]) := by
  rw [putK_new (.bl true) (seen_none h)]
  simp [seenD]
/-- what the for loop asks of its turns -/
def ForW (J : It) (g : TG) (tb : TS) (D : Ends) (σ : St) (H : Hp) : Prop := ∃ W : Nat → Nat → St → Hp → Prop, (∃ m, W 0 m σ H) ∧ ∀ i m σ H, W i m σ H →
  (J.stop i H ∧ D.nx σ H) ∨ (J.go i H ∧ ∃ N : St → Hp → Prop, (∀ σ' H', N σ' H' → ∃ m', m' < m ∧ W (i + 1) m' σ' H') ∧ ∀ x H', J.yld i H x H' → g x σ H' fun σ2 H2 => tb { D with nx := N, ct := N, bk := D.nx } σ2 H2)
theorem enum_seq {K : PySem.W.Frag} {a : Addr} {xs : List V} {o : HO} {g : TG} {tb : TS} {D : Ends} {σ : St} {H : Hp} (ko : o = .lst xs ∨ o = .tup xs) (Pv : Nat → St → Hp → Prop) (h0 : Pv 0 σ H) (hl : ∀ i σ H, i ≤ xs.length → Pv i σ H → H a = some o)
    (hs : ∀ i x σ H T, xs[i]? = some x → Pv i σ H → H T = none → g (.ref T) σ (upd H T (.tup [.int (i : Nat), x])) fun σ2 H2 => tb { D with nx := Pv (i + 1), ct := Pv (i + 1), bk := D.nx } σ2 H2) (hd : ∀ σ H, Pv xs.length σ H → D.nx σ H) :
    ∃ b ys, [V.ref a] = [V.ref b] ∧ ((SqL K H b ys ∧ ForW (Ite K b) g tb D σ H) ∨ (SqT K H b ys ∧ ForW (IteT K b) g tb D σ H)) := by
  have fin : ∀ J : It, (∀ i H, i < xs.length → H a = some o → J.go i H) → (∀ i H, i = xs.length → H a = some o → J.stop i H) → (∀ i H v H', i < xs.length → H a = some o → J.yld i H v H' → ∃ T x, v = .ref T ∧ H T = none ∧ H' = upd H T (.tup [.int (i : Nat), x]) ∧ xs[i]? = some x) → ForW J g tb D σ H := by
    intro J go stop yld
    refine ⟨fun i m σ H => m = xs.length - i ∧ i ≤ xs.length ∧ Pv i σ H, ⟨_, rfl, Nat.zero_le _, h0⟩, ?_⟩
    rintro i m σ H ⟨rfl, le, p⟩
    have q := hl i σ H le p
    by_cases lt : i < xs.length
    · refine .inr ⟨go i H lt q, Pv (i + 1), fun σ' H' p' => ⟨xs.length - (i + 1), by omega, rfl, lt, p'⟩, fun v H' y => ?_⟩
      obtain ⟨T, x, rfl, nT, rfl, ex⟩ := yld i H v H' lt q y
      exact hs i x σ H T ex p nT
    · obtain rfl : i = xs.length := by omega
      exact .inl ⟨stop _ H rfl q, hd σ H p⟩
  have q0 := hl 0 σ H (Nat.zero_le _) h0
  rcases ko with rfl | rfl
  · exact ⟨a, xs, rfl, .inl ⟨SqL.of q0, fin _ (fun i H lt q => ⟨xs, xs[i], SqL.of q, by simp [lt]⟩) (fun i H e' q => ⟨xs, SqL.of q, by omega⟩)
      (fun i H v H' lt q ⟨T, x, e1, e2, e3, e4⟩ => ⟨T, x, e1, e2, e3, e4 xs (SqL.of q)⟩)⟩⟩
  · exact ⟨a, xs, rfl, .inr ⟨SqT.of q0, fin _ (fun i H lt q => ⟨xs, xs[i], SqT.of q, by simp [lt]⟩) (fun i H e' q => ⟨xs, SqT.of q, by omega⟩)
      (fun i H v H' lt q ⟨T, x, e1, e2, e3, e4⟩ => ⟨T, x, e1, e2, e3, e4 xs (SqT.of q)⟩)⟩⟩
theorem ok_first (F : Fun K "first_bad" "first_bad" sFirst f fd) (FL : Fun K "is_list" "is_list" sIsList fL fdL) (gIL : mg "is_list" = some (.ref fL)) (FO : Fun K "is_one_of" "is_one_of" sIsOne fO fdO) (gIO : mg "is_one_of" = some (.ref fO))
    (gI : mg "isinstance" = none) (gL : mg "list" = none) (gT : mg "tuple" = none) (gS : mg "str" = none) (gE : mg "enumerate" = none) : FnOk P w K mg base CX0 2 f fd ["names", "things"] (spFirst K) := by
  have GL : FnOk P w K mg base CX0 1 fL fdL ["thing"] (spIsList K) := ok_isList FL gI gL gT
  have bL := FL.binds (ps := ["thing"]) fun _ _ _ _ _ _ us hl => match us, hl with | [_], _ => rfl
  have GO : FnOk P w K mg base CX0 1 fO fdO ["names", "thing"] (spIsOne K) := ok_isOne FO gI gS
  have bO := FO.binds (ps := ["names", "thing"]) fun _ _ _ _ _ _ us hl => match us, hl with | [_, _], _ => rfl
  refine F.ok scFirst (fun vs H Q E h => by obtain ⟨c, a, ns, known, e, _⟩ := h; rw [e]; rfl) fun cdv A outer s H vs Q E hr hsp => ?_
  obtain ⟨c, a, ns, known, rfl, hc, hS, nd1, sub, short, hq⟩ := hsp
  have nd := scFirst.nd
  have hu := hu_of hr
  refine ⟨_, pss_cons (ps_if (pt_not (pt_val (pe_call GL hr rfl gIL FL.kp bL .nil pass0 (pa_cons (pv 1) pa_nil)))) (pss_one ps_never) pss_nil)
    (pss_cons (ps_set (i := 2) nd rfl (Or.inl rfl) pe_dnewK)
    (pss_cons (ps_for PassesOwn.never rfl (pi_enumS rfl gE (pa_cons (pv 1) pa_nil)) (pg_tup rfl (pgs_cons (pg_name (i := 3) nd rfl (Or.inl rfl)) (pgs_cons (pg_name (i := 4) nd rfl (Or.inl rfl)) pgs_nil)))
      (pss_cons (ps_if (PW.pt (pw_or (pt_not (pt_val (pe_call GO hr rfl gIO FO.kp bO .nil pass0 (pa_cons (pv 0) (pa_cons (pv 4) pa_nil))))) (pw_or1 (pt_cmp (pc_din hu (pv 4) (pv 2)))))) (pss_one ps_never) pss_nil)
      (pss_one (ps_dput hu (pv 2) (pv 4) pe_bl rfl))))
    (pss_one (ps_ret pe_non)))), ?_⟩
  refine ⟨_, rfl, a, _, rfl, hS, fun H1 k1 => ⟨_, rfl, iteF fun d nd2 => ?_⟩⟩
  have kd := same_new (o := .dK []) nd2
  obtain ⟨o, ho, ko⟩ : ∃ o, H1 a = some o ∧ (o = .lst (known.map V.str) ∨ o = .tup (known.map V.str)) := by
    rcases hS.same k1 with e | e
    · exact ⟨_, e, .inl rfl⟩
    · exact ⟨_, e, .inr rfl⟩
  refine ⟨_, rfl, enum_seq ko (fun i σ H' => H' d = some (.dK (seenD (known.take i))) ∧ Same H1 H' ∧ ∃ s3 s4, σ = [some (.ref c), some (.ref a), some (.ref d), s3, s4])
    ⟨upd_same, kd, _, _, rfl⟩ (fun i σ H' _ h => h.2.1 _ _ ho) ?_ ?_⟩
  · rintro i v σ H2 T ev ⟨od, s2, s3, s4, rfl⟩ nT
    rw [List.getElem?_map] at ev
    obtain ⟨x, ex, rfl⟩ := Option.map_eq_some_iff.mp ev
    have hi : i < known.length := (List.getElem?_eq_some_iff.mp ex).1
    have kT := same_new (o := .tup [.int (i : Nat), .str x]) nT
    refine ⟨T, _, rfl, SqT.of upd_same, rfl, ?_⟩
    have e1 : known.take (i + 1) = known.take i ++ [x] := by rw [List.take_succ, ex]; rfl
    have notin : x ∉ known.take i := fun m => by
      have z := nd1
      rw [← List.take_append_drop (i + 1) known, e1, List.append_assoc, List.nodup_append] at z
      exact z.2.2 x m x (by simp) rfl
    have xin : x ∈ ns := sub x (List.mem_of_getElem? ex)
    refine ⟨_, _, rfl, _, _, rfl, rfl, ?_⟩
    refine ⟨_, rfl, _, rfl, c, ns, x, rfl, SqL.of (kT _ _ (s2 _ _ (k1 _ _ hc))), _, rfl, ?_⟩
    rw [decide_eq_true xin]
    refine iteF ⟨_, rfl, _, rfl, d, _, rfl, DGet.k (k := Sum.inr x) (kT _ _ od), ?_⟩
    rw [seen_none notin]
    refine ⟨_, rfl, iteF ?_⟩
    have small : (seenD (known.take i)).length < sizeLine := by
      rw [sizeLine_eq]
      unfold seenD
      rw [List.length_map, List.length_take]; omega
    refine ⟨_, rfl, _, rfl, d, _, rfl, DPut.k (k := Sum.inr x) (kT _ _ od) small, ?_, ?_, _, _, rfl⟩
    · rw [upd_same, seen_put notin, ← e1]
    · intro b u e
      have nb : b ≠ d := ne_of_none e nd2
      rw [upd_ne nb]
      exact kT _ _ (s2 _ _ e)
  · rintro σ H2 ⟨od, s2, s3, s4, rfl⟩
    exact hq _ (k1.trans s2)
end
end L2.TB
namespace L2.TB
open PySem PySem.Spec PyProof.Rows
/-! the checks, where nothing is wrong -/
def spCkA (K : PySem.W.Frag) : Sp := fun vs H Q _ => ∃ (c : Addr) (ns : List Str) (x : Str), vs = [.ref c, .str x] ∧ SqL K H c (ns.map V.str) ∧ x ∈ ns ∧ Q .non H
def spCkB (K : PySem.W.Frag) : Sp := fun vs H Q _ => ∃ (c a : Addr) (ns known : List Str) (x : Str), vs = [.ref c, .ref a, .str x] ∧ H c = some (.lst (ns.map V.str)) ∧ SqA K H a (known.map V.str) ∧ known.Nodup ∧ (∀ x ∈ known, x ∈ ns) ∧ known.length < 1000 ∧ x ∈ ns ∧ ∀ H', Same H H' → Q .non H'
theorem scCkK : FnScope ["names", "known", "index"] ["names", "known"] (defScope sCkK) := ⟨rfl, rfl, rfl, by decide +kernel, rfl, by decide +kernel, by decide +kernel⟩
theorem scCkA : FnScope ["names", "asked"] ["names", "asked"] (defScope sCkA) := ⟨rfl, rfl, rfl, by decide +kernel, rfl, by decide +kernel, by decide +kernel⟩
theorem scCkB : FnScope ["names", "known", "asked"] ["names", "known", "asked"] (defScope sCkB) := ⟨rfl, rfl, rfl, by decide +kernel, rfl, by decide +kernel, by decide +kernel⟩
/-- what the checks need of the module -/
structure Chk (K : PySem.W.Frag) (mg : Str → Option Value) (aF aL aO aK aA aB : Addr) : Prop where
  F : ∃ fd, Fun K "first_bad" "first_bad" sFirst aF fd
  L : ∃ fd, Fun K "is_list" "is_list" sIsList aL fd
  O : ∃ fd, Fun K "is_one_of" "is_one_of" sIsOne aO fd
  CK : ∃ fd, Fun K "check_known" "check_known" sCkK aK fd
  CA : ∃ fd, Fun K "check_asked" "check_asked" sCkA aA fd
  CB : ∃ fd, Fun K "check_both" "check_both" sCkB aB fd
  gF : mg "first_bad" = some (.ref aF)
  gL : mg "is_list" = some (.ref aL)
  gO : mg "is_one_of" = some (.ref aO)
  gCK : mg "check_known" = some (.ref aK)
  gCA : mg "check_asked" = some (.ref aA)
  gCB : mg "check_both" = some (.ref aB)
  nI : mg "isinstance" = none
  nL : mg "list" = none
  nT : mg "tuple" = none
  nS : mg "str" = none
  nE : mg "enumerate" = none
section
variable {P : Program} {w : World} {K : PySem.W.Frag} {mg : Str → Option Value} {base : Heap} {aF aL aO aK aA aB : Addr} {fd : FuncData}
theorem ok_ckK (C : Chk K mg aF aL aO aK aA aB) (F : Fun K "check_known" "check_known" sCkK aK fd) : FnOk P w K mg base CX0 3 aK fd ["names", "known"] (spFirst K) := by
  obtain ⟨fdF, FF⟩ := C.F
  obtain ⟨fdL, FL⟩ := C.L
  obtain ⟨fdO, FO⟩ := C.O
  have G : FnOk P w K mg base CX0 2 aF fdF ["names", "things"] (spFirst K) := ok_first FF FL C.gL FO C.gO C.nI C.nL C.nT C.nS C.nE
  have b := FF.binds (ps := ["names", "things"]) fun _ _ _ _ _ _ us hl => match us, hl with | [_, _], _ => rfl
  refine F.ok scCkK (fun vs H Q E h => by obtain ⟨c, a, ns, known, e, _⟩ := h; rw [e]; rfl) fun cdv A outer s H vs Q E hr hsp => ?_
  obtain ⟨c, a, ns, known, rfl, hc, hS, nd1, sub, short, hq⟩ := hsp
  have nd := scCkK.nd
  refine ⟨_, pss_cons (ps_set (i := 2) nd rfl (Or.inl rfl) (pe_call G hr rfl C.gF FF.kp b .nil pass0 (pa_cons (pv 0) (pa_cons (pv 1) pa_nil))))
    (pss_one (ps_if (pt_cmp (pc_notN (pv 2))) (pss_one ps_never) pss_nil)), ?_⟩
  refine ⟨_, rfl, _, rfl, c, a, ns, known, rfl, hc, hS, nd1, sub, short, fun H1 k1 => ?_⟩
  exact ⟨_, rfl, _, rfl, iteF (hq H1 k1)⟩
theorem ok_ckA (C : Chk K mg aF aL aO aK aA aB) (F : Fun K "check_asked" "check_asked" sCkA aA fd) : FnOk P w K mg base CX0 2 aA fd ["names", "asked"] (spCkA K) := by
  obtain ⟨fdO, FO⟩ := C.O
  have G : FnOk P w K mg base CX0 1 aO fdO ["names", "thing"] (spIsOne K) := ok_isOne FO C.nI C.nS
  have b := FO.binds (ps := ["names", "thing"]) fun _ _ _ _ _ _ us hl => match us, hl with | [_, _], _ => rfl
  refine F.ok scCkA (fun vs H Q E h => by obtain ⟨c, ns, x, e, _⟩ := h; rw [e]; rfl) fun cdv A outer s H vs Q E hr hsp => ?_
  obtain ⟨c, ns, x, rfl, hc, xin, hq⟩ := hsp
  refine ⟨_, pss_one (ps_if (pt_not (pt_val (pe_call G hr rfl C.gO FO.kp b .nil pass0 (pa_cons (pv 0) (pa_cons (pv 1) pa_nil))))) (pss_one ps_never) pss_nil), ?_⟩
  refine ⟨_, rfl, _, rfl, c, ns, x, rfl, hc, _, rfl, ?_⟩
  rw [decide_eq_true xin]
  exact iteF hq
theorem ok_ckB (C : Chk K mg aF aL aO aK aA aB) (F : Fun K "check_both" "check_both" sCkB aB fd) : FnOk P w K mg base CX0 4 aB fd ["names", "known", "asked"] (spCkB K) := by
  obtain ⟨fdK, FK⟩ := C.CK
  obtain ⟨fdA, FA⟩ := C.CA
  have GK := ok_ckK (P := P) (w := w) (base := base) C FK
  have bK := FK.binds (ps := ["names", "known"]) fun _ _ _ _ _ _ us hl => match us, hl with | [_, _], _ => rfl
  have GA := ok_ckA (P := P) (w := w) (base := base) C FA
  have bA := FA.binds (ps := ["names", "asked"]) fun _ _ _ _ _ _ us hl => match us, hl with | [_, _], _ => rfl
  refine F.ok scCkB (fun vs H Q E h => by obtain ⟨c, a, ns, known, x, e, _⟩ := h; rw [e]; rfl) fun cdv A outer s H vs Q E hr hsp => ?_
  obtain ⟨c, a, ns, known, x, rfl, hc, hS, nd1, sub, short, xin, hq⟩ := hsp
  refine ⟨_, pss_cons (ps_expr (pe_call GK hr rfl C.gCK FK.kp bK .nil pass0 (pa_cons (pv 0) (pa_cons (pv 1) pa_nil))))
    (pss_one (ps_expr (pe_call GA (hr.mono (by decide)) rfl C.gCA FA.kp bA .nil pass0 (pa_cons (pv 0) (pa_cons (pv 2) pa_nil))))), ?_⟩
  refine ⟨_, rfl, _, rfl, c, a, ns, known, rfl, hc, hS, nd1, sub, short, fun H1 k1 => ?_⟩
  exact ⟨_, rfl, _, rfl, c, ns, x, rfl, SqL.of (k1 _ _ hc), xin, hq H1 k1⟩
end
end L2.TB
namespace L2.TB
open PySem PySem.Spec PyProof.Rows
/-! what is walked is a list or a tuple -/
def iSeq (K : PySem.W.Frag) (tl : TE) : TI := fun σ H R => tl σ H fun x H1 => ∃ a xs, x = .ref a ∧ ((SqL K H1 a xs ∧ R (Itl K a) H1) ∨ (SqT K H1 a xs ∧ R (Itt K a) H1))
theorem pi_seq {X : Cx} {tg l : Expr} {tl : TE} (hl : PE X l tl) : PI X tg l (iSeq X.K tl) := by
  refine PI.mk fun pins z σ H R I reading => thn (hl.run pins z σ H _ I reading) fun v z1 ⟨x, H1, I1, rel, a, xs, ex, both⟩ => ?_
  subst ex
  obtain rfl : v = Value.ref a := rel
  have one : ∀ (o : Obj), FpOk X pins H1 z1.heap.objs.size := fun _ => I1.fpOk (Nat.le_refl _) (I1.hok.fresh (Nat.le_refl _))
  have fresh : ∀ b ∈ [z1.heap.objs.size], FpOk X pins H1 b := fun b hb => by
    obtain rfl := List.mem_singleton.mp hb
    exact I1.fpOk (Nat.le_refl _) (I1.hok.fresh (Nat.le_refl _))
  rcases both with ⟨sq, q⟩ | ⟨sq, q⟩
  · obtain ⟨its, rv, isL, _⟩ := I1.list sq
    exact wpAny_pyIter_list isL.isList ⟨_, _, _, _, H1, rfl, I1.kept (t' := z1.toks) (fun b o e => Heap.get?_push_of_some _ e), turn_list a _, ⟨_, Heap.get?_push_size _ rfl, rfl, rfl⟩, fresh, q⟩
  · obtain ⟨its, rv, isT, _⟩ := I1.tuple sq
    exact wpAny_pyIter_tuple (show z1.heap.IsTuple a its.toArray from isT) ⟨_, _, _, _, H1, rfl, I1.kept (t' := z1.toks) (fun b o e => Heap.get?_push_of_some _ e), turn_tuple a _, ⟨_, Heap.get?_push_size _ rfl, rfl, rfl⟩, fresh, q⟩
/-- a for loop over it -/
theorem for_seq {K : PySem.W.Frag} {a : Addr} {xs : List V} {o : HO} {g : TG} {tb : TS} {D : Ends} {σ : St} {H : Hp} (ko : o = .lst xs ∨ o = .tup xs) (Pv : Nat → St → Hp → Prop) (h0 : Pv 0 σ H) (hl : ∀ i σ H, i ≤ xs.length → Pv i σ H → H a = some o)
    (hs : ∀ i x σ H, xs[i]? = some x → Pv i σ H → g x σ H fun σ2 H2 => tb { D with nx := Pv (i + 1), ct := Pv (i + 1), bk := D.nx } σ2 H2) (hd : ∀ σ H, Pv xs.length σ H → D.nx σ H) :
    ∃ b ys, V.ref a = V.ref b ∧ ((SqL K H b ys ∧ ForW (Itl K b) g tb D σ H) ∨ (SqT K H b ys ∧ ForW (Itt K b) g tb D σ H)) := by
  have q0 := hl 0 σ H (Nat.zero_le _) h0
  rcases ko with rfl | rfl
  · exact ⟨a, xs, rfl, .inl ⟨SqL.of q0, for_list Pv h0 (fun i σ H le p => SqL.of (hl i σ H le p)) hs hd⟩⟩
  · exact ⟨a, xs, rfl, .inr ⟨SqT.of q0, for_tup Pv h0 (fun i σ H le p => SqT.of (hl i σ H le p)) hs hd⟩⟩
/-- what a list comprehension asks of its turns -/
def LcW (J : It) (g : TG) (tt : TT) (te : TE) (vs : List Nat) (σ : St) (H1 : Hp) (Q : Addr → Hp → Prop) : Prop := ∀ D, H1 D = none → ∃ W : Nat → Nat → Hp → Prop, (∃ m, W 0 m (upd H1 D (.lst []))) ∧ ∀ i m H, W i m H →
  (J.stop i H ∧ Q D H) ∨ (J.go i H ∧ ∃ Nx : Hp → Prop, (∀ H', Nx H' → ∃ m', m' < m ∧ W (i + 1) m' H') ∧ ∀ x H', J.yld i H x H' → g x (wipe σ vs) H' fun σ2 H2 => wipe σ2 vs = wipe σ vs ∧ tt σ2 H2 fun b H3 =>
    if b = true then te σ2 H3 fun y H4 => ∃ acc, H4 D = some (.lst acc) ∧ acc.length < sizeLine ∧ Nx (upd H4 D (.lst (acc ++ [y]))) else Nx H3)
/-- a turn of a comprehension: keep tells whether x is kept, fv x is what is made of it; nothing that was there is changed -/
def LcTurn (g : TG) (tt : TT) (te : TE) (vs : List Nat) (σ : St) (xs : List V) (keep : V → Bool) (fv : V → V) (H1 : Hp) : Prop :=
  ∀ (i : Nat) (x : V) (H : Hp) (C : V → Hp → Prop) (N : Hp → Prop), xs[i]? = some x → Same H1 H → (keep x = true → ∀ H4, Same H H4 → C (fv x) H4) → (keep x = false → ∀ H4, Same H H4 → N H4) →
    g x (wipe σ vs) H fun σ2 H2 => wipe σ2 vs = wipe σ vs ∧ tt σ2 H2 fun b H3 => if b = true then te σ2 H3 C else N H3
theorem filter_snoc (keep : V → Bool) (fv : V → V) {xs : List V} {i : Nat} {x : V} (ex : xs[i]? = some x) :
    ((xs.take (i + 1)).filter keep).map fv = ((xs.take i).filter keep).map fv ++ (if keep x = true then [fv x] else []) := by
  have e1 : xs.take (i + 1) = xs.take i ++ [x] := by rw [List.take_succ, ex]; rfl
  rw [e1, List.filter_append, List.map_append]
  congr 1
  cases h : keep x <;> simp [h]
theorem lc_seq {K : PySem.W.Frag} {a : Addr} {xs : List V} {o : HO} {g : TG} {tt : TT} {te : TE} {vs : List Nat} {σ : St} {H1 : Hp} {Q : Addr → Hp → Prop} (ko : o = .lst xs ∨ o = .tup xs) (ho : H1 a = some o) (short : xs.length < 1000000) (keep : V → Bool) (fv : V → V)
    (turn : LcTurn g tt te vs σ xs keep fv H1) (fin : ∀ H D, H1 D = none → H D = some (.lst ((xs.filter keep).map fv)) → Same H1 H → Q D H) :
    ∃ b ys, V.ref a = V.ref b ∧ ((SqL K H1 b ys ∧ LcW (Itl K b) g tt te vs σ H1 Q) ∨ (SqT K H1 b ys ∧ LcW (Itt K b) g tt te vs σ H1 Q)) := by
  have go : ∀ D, H1 D = none → ∀ (i : Nat) (x : V) (H : Hp), xs[i]? = some x → (H D = some (.lst (((xs.take i).filter keep).map fv)) ∧ Same H1 H) → g x (wipe σ vs) H fun σ2 H2 => wipe σ2 vs = wipe σ vs ∧ tt σ2 H2 fun b H3 =>
      if b = true then te σ2 H3 fun y H4 => ∃ acc, H4 D = some (.lst acc) ∧ acc.length < sizeLine ∧ ((upd H4 D (.lst (acc ++ [y]))) D = some (.lst (((xs.take (i + 1)).filter keep).map fv)) ∧ Same H1 (upd H4 D (.lst (acc ++ [y])))) else (H3 D = some (.lst (((xs.take (i + 1)).filter keep).map fv)) ∧ Same H1 H3) := by
    rintro D nD i x H ex ⟨oD, s1⟩
    refine turn i x H _ _ ex s1 (fun k H4 s4 => ⟨_, s4 _ _ oD, ?_, ?_, ?_⟩) (fun k H4 s4 => ⟨?_, s1.trans s4⟩)
    · rw [sizeLine_eq, List.length_map]
      have := List.length_filter_le keep (xs.take i)
      rw [List.length_take] at this
      omega
    · rw [upd_same, filter_snoc keep fv ex, if_pos k]
    · intro b u e
      have nb : b ≠ D := ne_of_none e nD
      rw [upd_ne nb]
      exact s4 _ _ (s1 _ _ e)
    · rw [filter_snoc keep fv ex, k]
      simpa using s4 _ _ oD
  have all : xs.take xs.length = xs := List.take_length
  rcases ko with rfl | rfl
  · exact ⟨a, xs, rfl, .inl ⟨SqL.of ho, fun D nD => lc_list (xs := xs) (fun i H => H D = some (.lst (((xs.take i).filter keep).map fv)) ∧ Same H1 H) ⟨upd_same, same_new nD⟩ (fun i H _ p => SqL.of (p.2 _ _ ho)) (fun i x H ex p => go D nD i x H ex p)
      (fun H p => fin H D nD (by rw [all] at p; exact p.1) p.2)⟩⟩
  · exact ⟨a, xs, rfl, .inr ⟨SqT.of ho, fun D nD => lc_tup (xs := xs) (fun i H => H D = some (.lst (((xs.take i).filter keep).map fv)) ∧ Same H1 H) ⟨upd_same, same_new nD⟩ (fun i H _ p => SqT.of (p.2 _ _ ho)) (fun i x H ex p => go D nD i x H ex p)
      (fun H p => fin H D nD (by rw [all] at p; exact p.1) p.2)⟩⟩
end L2.TB
namespace L2.TB
open PySem PySem.Spec PyProof.Rows
/-! the table and its methods -/
def tabF (qa ra : Addr) : List (Str × V) := [("_questions", .ref qa), ("_rows", .ref ra)]
theorem tabF_q (qa ra : Addr) : (tabF qa ra).lookup ("_questions" : Str) = some (V.ref qa) := rfl
theorem tabF_r (qa ra : Addr) : (tabF qa ra).lookup ("_rows" : Str) = some (V.ref ra) := rfl
/-- the rows of the list at ra -/
def TRows (H : Hp) (ra : Addr) (n : Nat) (tbl : List (List Int)) : Prop := ∃ ps : List Addr, H ra = some (.lst (ps.map V.ref)) ∧ Paired (fun p vs => H p = some (.tup (vs.map V.int)) ∧ vs.length = n) ps tbl
structure TabAt (H : Hp) (C a : Addr) (ns : List Str) (tbl : List (List Int)) : Prop where
  ex : ∃ dx qa ra, H a = some (.ins C dx (tabF qa ra)) ∧ H qa = some (.lst (ns.map V.str)) ∧ TRows H ra ns.length tbl
theorem TRows.same {H H' : Hp} {ra : Addr} {n : Nat} {tbl : List (List Int)} (t : TRows H ra n tbl) (s : Same H H') : TRows H' ra n tbl := by
  obtain ⟨ps, o, r⟩ := t
  exact ⟨ps, s _ _ o, Paired.mapP r fun p vs h => ⟨s _ _ h.1, h.2⟩⟩
theorem TabAt.same {H H' : Hp} {C a : Addr} {ns : List Str} {tbl : List (List Int)} (t : TabAt H C a ns tbl) (s : Same H H') : TabAt H' C a ns tbl := by
  obtain ⟨dx, qa, ra, h1, h2, h3⟩ := t.ex
  exact ⟨dx, qa, ra, s _ _ h1, s _ _ h2, h3.same s⟩
structure TabC (K : PySem.W.Frag) (C : Addr) : Prop where
  cl : Cls K C
  nQ : NoAttr K C "_questions"
  nR : NoAttr K C "_rows"
def spQs (K : PySem.W.Frag) (C : Addr) : Sp := fun vs H Q _ => ∃ (a : Addr) (ns : List Str) (tbl : List (List Int)), vs = [.ref a] ∧ TabAt H C a ns tbl ∧ ∀ H' q, H q = none → H' q = some (.lst (ns.map V.str)) → Same H H' → Q (.ref q) H'
def idx (ns : List Str) (x : Str) : Nat := ns.idxOf x
def spPlaces (K : PySem.W.Frag) (C : Addr) : Sp := fun vs H Q _ => ∃ (a b : Addr) (ns known : List Str) (tbl : List (List Int)), vs = [.ref a, .ref b] ∧ TabAt H C a ns tbl ∧ SqA K H b (known.map V.str) ∧ (∀ x ∈ known, x ∈ ns) ∧ known.length < 1000 ∧
  ∀ H' q, H q = none → H' q = some (.lst (known.map fun x => V.int (idx ns x : Nat))) → Same H H' → Q (.ref q) H'
theorem scQs : FnScope ["self"] ["self"] (defScope sQs) := ⟨rfl, rfl, rfl, by decide +kernel, rfl, by decide +kernel, by decide +kernel⟩
abbrev NP : List Str := ["self", "names", "name"]
theorem scPlaces : FnScope NP ["self", "names"] (defScope sPlaces) := ⟨rfl, rfl, rfl, by decide +kernel, rfl, by decide +kernel, by decide +kernel⟩
theorem idx_at {ns : List Str} {x : Str} (h : x ∈ ns) : (ns.map V.str)[idx ns x]? = some (.str x) ∧ ∀ (m : Nat) (z : V), m < idx ns x → (ns.map V.str)[m]? = some z → eqV z (.str x) = false := by
  have lt : idx ns x < ns.length := List.idxOf_lt_length_of_mem h
  refine ⟨?_, fun m z lm ez => ?_⟩
  · rw [List.getElem?_map, List.getElem?_eq_getElem lt]
    have e : ns[idx ns x] = x := List.getElem_idxOf lt
    rw [e]; rfl
  · rw [List.getElem?_map] at ez
    obtain ⟨y, ey, rfl⟩ := Option.map_eq_some_iff.mp ez
    rw [str_inj]
    refine decide_eq_false fun q => ?_
    subst q
    have : idx ns y ≤ m := by
      obtain ⟨hm, em⟩ := List.getElem?_eq_some_iff.mp ey
      by_cases c : m < idx ns y
      · have z := List.not_of_lt_findIdx (p := fun a => a == y) (xs := ns) (i := m) c
        rw [em] at z
        simp at z
      · omega
    omega
section
variable {P : Program} {w : World} {K : PySem.W.Frag} {mg : Str → Option Value} {base : Heap} {f C : Addr} {fd : FuncData}
theorem ok_qs (F : Fun K "questions" "Table.questions" sQs f fd) (T : TabC K C) (gL : mg "list" = none) : FnOk P w K mg base CX0 1 f fd ["self"] (spQs K C) := by
  refine F.ok scQs (fun vs H Q E h => by obtain ⟨a, ns, tbl, e, _⟩ := h; rw [e]; rfl) fun cdv A outer s H vs Q E hr hsp => ?_
  obtain ⟨a, ns, tbl, rfl, ⟨dx, qa, ra, ha, hqa, hra⟩, hq⟩ := hsp
  refine ⟨_, pss_one (ps_ret (pe_callTy call_list_of rfl gL (by decide +kernel) (pa_cons (pe_fld (pv 0) rfl) pa_nil))), ?_⟩
  exact ⟨_, rfl, _, _, _, _, _, rfl, ha, T.cl, T.nQ, tabF_q _ _, _, _, rfl, .inl (SqL.of hqa), fun q nq => hq _ q nq upd_same (same_new nq)⟩
theorem ok_places (F : Fun K "_places" "Table._places" sPlaces f fd) (T : TabC K C) : FnOk P w K mg base CX0 1 f fd ["self", "names"] (spPlaces K C) := by
  refine F.ok scPlaces (fun vs H Q E h => by obtain ⟨a, b, ns, known, tbl, e, _⟩ := h; rw [e]; rfl) fun cdv A outer s H vs Q E hr hsp => ?_
  obtain ⟨a, b, ns, known, tbl, rfl, ⟨dx, qa, ra, ha, hqa, hra⟩, hb, sub, short, hq⟩ := hsp
  have nd := scPlaces.nd
  refine ⟨_, pss_one (ps_ret (pe_lc (own := [("name", 2)]) (tt := tYes) (te := tBM K "list" (rIndex K) (tFld K (tVar 0) "_questions") (tCons (tVar 2) tNil)) rfl nd (pi_seq (pv 1)) (blkOk_by (N := NP) (sc := defScope sPlaces) (by decide +kernel))
    (fun _ _ _ _ _ => pg_name (i := 2) nd rfl (Or.inl rfl)) (fun _ _ _ _ _ => pts_nil) (fun _ _ _ _ _ => pe_bm PySem.F.plainAttrs_list PySem.F.slot_list_index PySem.F.type_list_index mt_index (pe_fld (pv 0) rfl) (pa_cons (pv 2) pa_nil)))), ?_⟩
  obtain ⟨o, ho, ko⟩ : ∃ o, H b = some o ∧ (o = .lst (known.map V.str) ∨ o = .tup (known.map V.str)) := by
    rcases hb with e | e
    · exact ⟨_, e, .inl rfl⟩
    · exact ⟨_, e, .inr rfl⟩
  refine ⟨_, rfl, lc_seq ko ho (by rw [List.length_map]; omega) (fun _ => true) (fun v => match v with | .str x => .int (idx ns x : Nat) | _ => .non) ?_ ?_⟩
  · rintro i v H2 D N ev s2 yes no
    rw [List.getElem?_map] at ev
    obtain ⟨x, ex, rfl⟩ := Option.map_eq_some_iff.mp ev
    have xin : x ∈ ns := sub x (List.mem_of_getElem? ex)
    obtain ⟨i1, i2⟩ := idx_at xin
    refine ⟨rfl, ?_⟩
    refine ⟨_, rfl, _, _, _, _, _, rfl, s2 _ _ ha, T.cl, T.nQ, tabF_q _ _, .inl ⟨rfl, _, SqL.of (s2 _ _ hqa)⟩, _, rfl, ?_⟩
    exact ⟨qa, _, .str x, idx ns x, .str x, rfl, rfl, SqL.of (s2 _ _ hqa), rfl, flat_strs ns, i1, by rw [str_inj]; simp, i2, yes rfl H2 (Same.refl _)⟩
  · intro H2 q nq oq s2
    refine hq H2 q nq ?_ s2
    rw [oq, List.filter_eq_self.mpr (fun _ _ => rfl), List.map_map]
    rfl
end
end L2.TB
namespace L2.TB
open PySem PySem.Spec PyProof.Rows
theorem boot_all' : bootBuiltins "all" = some (.builtin "all") := by decide +kernel
/-- a comprehension without a test over anything: ys is what it makes -/
theorem lc_gen {J : It} {g : TG} {tt : TT} {te : TE} {vs : List Nat} {σ : St} {H1 : Hp} {Q : Addr → Hp → Prop} (ys : List V) (short : ys.length < 1000000) (go : ∀ i H, Same H1 H → i < ys.length → J.go i H) (stop : ∀ H, Same H1 H → J.stop ys.length H)
    (turn : ∀ (i : Nat) (x y : V) (H H' : Hp) (C : V → Hp → Prop) (N : Hp → Prop), ys[i]? = some y → Same H1 H → J.yld i H x H' → (∀ H4, Same H H4 → C y H4) → g x (wipe σ vs) H' fun σ2 H2 => wipe σ2 vs = wipe σ vs ∧ tt σ2 H2 fun b H3 => if b = true then te σ2 H3 C else N H3)
    (fin : ∀ H D, H1 D = none → H D = some (.lst ys) → Same H1 H → Q D H) : LcW J g tt te vs σ H1 Q := by
  intro D nD
  refine ⟨fun i m H => m = ys.length - i ∧ i ≤ ys.length ∧ H D = some (.lst (ys.take i)) ∧ Same H1 H, ⟨_, rfl, Nat.zero_le _, upd_same, same_new nD⟩, ?_⟩
  rintro i m H ⟨rfl, le, oD, s1⟩
  by_cases lt : i < ys.length
  · refine .inr ⟨go i H s1 lt, fun H' => H' D = some (.lst (ys.take (i + 1))) ∧ Same H1 H', fun H' h => ⟨ys.length - (i + 1), by omega, rfl, lt, h⟩, fun x H' yl => ?_⟩
    have ey : ys[i]? = some ys[i] := List.getElem?_eq_getElem lt
    refine turn i x ys[i] H H' _ _ ey s1 yl fun H4 s4 => ⟨_, s4 _ _ oD, ?_, ?_, ?_⟩
    · rw [sizeLine_eq, List.length_take]; omega
    · rw [upd_same, List.take_succ, ey]; rfl
    · intro b u e
      rw [upd_ne (ne_of_none e nD)]
      exact s4 _ _ (s1 _ _ e)
  · obtain rfl : i = ys.length := by omega
    rw [List.take_length] at oD
    exact .inl ⟨stop H s1, fin H D nD oD s1⟩
def bools (n : Nat) : List V := List.replicate n (V.bl true)
theorem bools_map (n : Nat) : bools n = (List.replicate n true).map V.bl := by unfold bools; rw [List.map_replicate]
theorem bools_at {n i : Nat} {y : V} (h : (bools n)[i]? = some y) : y = .bl true ∧ i < n := by
  unfold bools at h
  rw [List.getElem?_replicate] at h
  split at h
  · exact ⟨(Option.some.inj h).symm, by assumption⟩
  · cases h
theorem bools_len (n : Nat) : (bools n).length = n := List.length_replicate
theorem all_true (n : Nat) : (List.replicate n true).all id = true := by simp
def spIsName : Sp := fun vs H Q _ => ∃ x : Str, vs = [.str x] ∧ NmOk x ∧ ∀ H', Same H H' → Q (.bl true) H'
abbrev NIn : List Str := ["thing", "sign"]
theorem scIsName : FnScope NIn ["thing"] (defScope sIsName) := ⟨rfl, rfl, rfl, by decide +kernel, rfl, by decide +kernel, by decide +kernel⟩
/-- a dict has just these names, all true -/
def spHasJust : Sp := fun vs H Q _ => ∃ (d c : Addr) (kvs : List (Key × V)) (ns : List Str), vs = [.ref d, .ref c] ∧ H d = some (.dK kvs) ∧ H c = some (.lst (ns.map V.str)) ∧ kvs.map (·.1) = ns.map Sum.inr ∧ ns.length < 1000 ∧ ∀ H', Same H H' → Q (.bl true) H'
abbrev NHj : List Str := ["thing", "names", "name"]
theorem scHasJust : FnScope NHj ["thing", "names"] (defScope sHasJust) := ⟨rfl, rfl, rfl, by decide +kernel, rfl, by decide +kernel, by decide +kernel⟩
section
variable {P : Program} {w : World} {K : PySem.W.Frag} {mg : Str → Option Value} {base : Heap} {f : Addr} {fd : FuncData}
theorem ok_isName (F : Fun K "is_name" "is_name" sIsName f fd) (gI : mg "isinstance" = none) (gS : mg "str" = none) (gN : mg "len" = none) (gA : mg "all" = none) (gL : ∃ t, mg "LONGEST" = some (.int 40 t)) (gSg : ∃ t, mg "SIGNS" = some (.str (Str.ofString "abcdefghijklmnopqrstuvwxyz0123456789.") t)) :
    FnOk P w K mg base CX0 1 f fd ["thing"] spIsName := by
  obtain ⟨tL, gL⟩ := gL
  obtain ⟨tS, gSg⟩ := gSg
  refine F.ok scIsName (fun vs H Q E h => by obtain ⟨x, e, _⟩ := h; rw [e]; rfl) fun cdv A outer s H vs Q E hr hsp => ?_
  obtain ⟨x, rfl, ok, hq⟩ := hsp
  obtain ⟨l1, l2, chars⟩ := ok
  have nd := scIsName.nd
  refine ⟨_, pss_cons (ps_if (PW.pt (pw_or (pt_not (pt_val (pe_callB (r := rIsi K) call_isi rfl gI boot_isi (pa_cons (pv 0) (pa_cons (pe_bltn (v := .ty "str") rfl gS boot_str' rfl) pa_nil)))))
      (pw_or1 (pt_not (pt_chain op_le op_le pe_int (pe_callB call_len_str rfl gN boot_len (pa_cons (pv 0) pa_nil)) (pe_glob (v := .int 40) rfl gL ⟨_, rfl⟩)))))) (pss_one ps_never) pss_nil)
    (pss_one (ps_ret (pe_callB (cr_all rfl) rfl gA boot_all' (pa_cons (pe_lc (own := [("sign", 1)]) (tt := tYes) rfl nd (pi_str (pv 0)) (blkOk_by (N := NIn) (sc := defScope sIsName) (by decide +kernel)) (fun _ _ _ _ _ => pg_name (i := 1) nd rfl (Or.inl rfl)) (fun _ _ _ _ _ => pts_nil)
      (fun _ _ _ _ _ => pe_cmpR op_in_sign (pv 1) (pe_glob (v := .str (Str.ofString "abcdefghijklmnopqrstuvwxyz0123456789.")) rfl gSg ⟨_, rfl⟩) rfl)) pa_nil)))), ?_⟩
  have lz : x.length = x.cps.toList.length := (Array.length_toList (xs := x.cps)).symm
  refine ⟨_, rfl, _, _, _, _, true, rfl, .ty _, .base (.str x), kit_ty (by decide +kernel), _, rfl, iteF ?_⟩
  refine ⟨_, rfl, x, rfl, (by rw [sizeLine_eq]; omega), _, _, rfl, rfl, _, rfl, ?_⟩
  rw [decide_eq_true (by omega : (1 : Int) ≤ (x.length : Nat))]
  refine iteT ⟨_, _, rfl, rfl, _, rfl, ?_⟩
  rw [decide_eq_true (by omega : ((x.length : Nat) : Int) ≤ 40)]
  refine iteF ?_
  refine ⟨_, rfl, x, rfl, lc_gen (bools x.cps.toList.length) (by rw [bools_len]; omega) (fun i H' _ lt => ?_) (fun H' _ => ?_) ?_ ?_⟩
  · rw [bools_len, Array.length_toList] at lt; exact lt
  · rw [bools_len, Array.length_toList]; exact Nat.le_refl _
  · rintro i v y H2 H3 Cn Nn ey s2 ⟨rfl, c, ec, rfl⟩ yes
    obtain ⟨rfl, lt⟩ := bools_at ey
    have cin : c ∈ signsL := chars c (List.mem_of_getElem? (by rw [Array.getElem?_toList]; exact ec))
    refine ⟨rfl, ?_⟩
    refine ⟨_, rfl, c, _, rfl, rfl, ?_⟩
    have z := yes H3 (Same.refl _)
    have e : decide (c ∈ (Str.ofString "abcdefghijklmnopqrstuvwxyz0123456789.").cps.toList) = true := decide_eq_true cin
    rw [e]
    exact z
  · intro H2 D nD oD s2
    rw [bools_map] at oD
    refine ⟨D, _, rfl, SqL.of oD, ?_⟩
    rw [all_true]
    exact hq H2 s2
end
end L2.TB
namespace L2.TB
open PySem PySem.Spec PyProof.Rows
def av (ns : List Str) (vs : List Int) (x : Str) : Int := vs.getD (idx ns x) 0
def keyR (ns known : List Str) (vs : List Int) : List Int := known.map (av ns vs)
theorem has_key {kvs : List (Key × V)} {ns : List Str} {x : Str} (h : kvs.map (·.1) = ns.map Sum.inr) (xin : x ∈ ns) : ∃ v, valV kvs (Sum.inr x) = some v := by
  have z : (Sum.inr x : Key) ∈ kvs.map (·.1) := by rw [h]; exact List.mem_map_of_mem xin
  obtain ⟨e, he, ee⟩ := List.mem_map.mp z
  have a : (kvs.any fun kv => decide (kv.1 = Sum.inr x)) = true := List.any_eq_true.mpr ⟨e, he, decide_eq_true ee⟩
  rw [valV_any] at a
  exact Option.isSome_iff_exists.mp a
theorem const_map (xs : List Str) : ((xs.map V.str).filter fun _ => true).map (fun _ => V.bl true) = bools xs.length := by
  rw [List.filter_eq_self.mpr (fun _ _ => rfl), List.map_map]
  unfold bools
  induction xs with
  | nil => rfl
  | cons a l ih => rw [List.map_cons, ih, List.length_cons, List.replicate_succ]; rfl
theorem dec_int2 (a b : Int) : decide (V.int a = V.int b) = decide (a = b) := by
  by_cases h : a = b
  · rw [h]; simp
  · rw [decide_eq_false h, decide_eq_false]
    exact fun z => h (V.int.inj z)
/-- dict rows of ints at as -/
def DRows (H : Hp) (ns : List Str) : List Addr → List (List Int) → Prop := Paired fun a vs => H a = some (.dK (dk ns vs)) ∧ vs.length = ns.length
theorem DRows.same {H H' : Hp} {ns : List Str} {as : List Addr} {tbl : List (List Int)} (r : DRows H ns as tbl) (s : Same H H') : DRows H' ns as tbl := Paired.mapP r fun a vs h => ⟨s _ _ h.1, h.2⟩
def spBadRow : Sp := fun vs H Q _ => ∃ (r : Addr) (as : List Addr) (ns : List Str) (tbl : List (List Int)), vs = [.ref r] ∧ H r = some (.lst (as.map V.ref)) ∧ DRows H ns as tbl ∧ tbl ≠ [] ∧ tbl.length < 1000 ∧ ns ≠ [] ∧ ns.Nodup ∧ (∀ x ∈ ns, NmOk x) ∧ ns.length < 1000 ∧ ∀ H', Same H H' → Q .non H'
abbrev NB : List Str := ["rows", "index", "row", "name"]
theorem scBadRow : FnScope NB ["rows"] (defScope sBadRow) := ⟨rfl, rfl, rfl, by decide +kernel, rfl, by decide +kernel, by decide +kernel⟩
theorem lock_off {H H' : Hp} {d : Addr} {u : HO} {od : Obj} (hd : H d = some u) (s : Same (upd H d (.frz od u)) H') : H' d = some (.frz od u) ∧ Same H (upd H' d u) := by
  refine ⟨s _ _ upd_same, fun b o e => ?_⟩
  by_cases hb : b = d
  · rw [hb, upd_same, ← hd, ← hb]; exact e
  · rw [upd_ne hb]
    exact s _ _ (by rw [upd_ne hb]; exact e)
theorem dk_at {ns : List Str} {vs : List Int} {i : Nat} {k : Key} {v : V} (h : (dk ns vs)[i]? = some (k, v)) (nd : ns.Nodup) (hl : ns.length = vs.length) : ∃ x n, k = Sum.inr x ∧ v = .int n ∧ ns[i]? = some x ∧ valV (dk ns vs) (Sum.inr x) = some (.int n) := by
  unfold dk at h ⊢
  rw [List.getElem?_map] at h
  obtain ⟨p, ep, e⟩ := Option.map_eq_some_iff.mp h
  cases e
  have ez : (ns.zip vs)[i]? = some p := ep
  rw [List.getElem?_zip_eq_some] at ez
  refine ⟨p.1, p.2, rfl, rfl, ez.1, ?_⟩
  have nk : (((ns.zip vs).map fun p : Str × Int => ((Sum.inr p.1 : Key), V.int p.2)).map (·.1)).Nodup := dk_nd hl nd
  have mem : ((Sum.inr p.1 : Key), V.int p.2) ∈ (ns.zip vs).map fun p : Str × Int => ((Sum.inr p.1 : Key), V.int p.2) := List.mem_map_of_mem (List.mem_of_getElem? ep)
  generalize (ns.zip vs).map (fun p : Str × Int => ((Sum.inr p.1 : Key), V.int p.2)) = kvs at nk mem
  clear h ez ep
  induction kvs with
  | nil => cases mem
  | cons q kvs ih =>
    unfold valV
    rw [List.find?_cons]
    by_cases hq : q.1 = Sum.inr p.1
    · rw [decide_eq_true hq]
      rcases List.mem_cons.mp mem with z | z
      · rw [← z]; rfl
      · exfalso
        rw [List.map_cons, List.nodup_cons] at nk
        exact nk.1 (hq ▸ List.mem_map_of_mem (f := (·.1)) z)
    · rw [decide_eq_false hq]
      rcases List.mem_cons.mp mem with z | z
      · exact absurd (by rw [← z]) hq
      · rw [List.map_cons, List.nodup_cons] at nk
        exact ih nk.2 z
abbrev NI : List Str := ["self", "rows", "index", "row", "name"]
theorem scInit : FnScope NI ["self", "rows"] (defScope sInit) := ⟨rfl, rfl, rfl, by decide +kernel, rfl, by decide +kernel, by decide +kernel⟩
def spInit (C : Addr) : Sp := fun vs H Q _ => ∃ (p dx r : Addr) (as : List Addr) (ns : List Str) (tbl : List (List Int)), vs = [.ref p, .ref r] ∧ H p = some (.ins C dx []) ∧ H r = some (.lst (as.map V.ref)) ∧ DRows H ns as tbl ∧ tbl ≠ [] ∧ tbl.length < 1000 ∧ ns ≠ [] ∧ ns.Nodup ∧ (∀ x ∈ ns, NmOk x) ∧ ns.length < 1000 ∧
  ∀ H', TabAt H' C p ns tbl → (∀ b o, b ≠ p → H b = some o → H' b = some o) → Q .non H'
theorem qr_ : ¬ (("_questions" : Str) = "_rows") := by decide +kernel
theorem put_two (qa ra : Addr) : putF "_rows" (.ref ra) (putF "_questions" (.ref qa) []) = tabF qa ra := by
  show (if ("_questions" : Str) = "_rows" then _ else (("_questions" : Str), V.ref qa) :: putF "_rows" (.ref ra) []) = tabF qa ra
  rw [if_neg qr_]
  rfl
abbrev scRow : Scope := { kind := ScopeKind.function, names := [(Str.ofString ".0", NameKind.local), (Str.ofString "row", NameKind.cell), (Str.ofString "tuple", NameKind.globalImplicit), (Str.ofString "self", NameKind.cell)], isGenerator := false, isCoroutine := false }
abbrev rTupOf (K : PySem.W.Frag) : List V → Hp → VK → Prop := fun xs H Q => ∃ p ys, xs = [V.ref p] ∧ ((SqL K H p ys ∧ ∀ l, H l = none → Q (.ref l) (upd H l (.tup ys))) ∨ (SqT K H p ys ∧ Q (.ref p) H))
theorem key_mem {ns K : List Str} {u v : List Int} (h : keyR ns K u = keyR ns K v) : ∀ x ∈ K, av ns u x = av ns v x := by
  intro x hx
  exact List.map_inj_left.mp h x hx
theorem key_of {ns K : List Str} {u v : List Int} (h : ∀ x ∈ K, av ns u x = av ns v x) : keyR ns K u = keyR ns K v := List.map_inj_left.mpr h
theorem strs_shape : ∀ ks : List Str, (∀ k ∈ ks, PyData.strOk k = true) → PyData.canLayAll0 (ks.map PyData.str) = true ∧ PyData.depthAll (ks.map PyData.str) = 0
  | [], _ => ⟨by simp [PyData.canLayAll0], by simp [PyData.depthAll]⟩
  | b :: bs, h => by
    obtain ⟨h1, h2⟩ := strs_shape bs fun k hk => h k (List.mem_cons_of_mem _ hk)
    have h3 := h b List.mem_cons_self
    exact ⟨by simp [PyData.canLayAll0, PyData.canLay0, h1, h3], by simp [PyData.depthAll, PyData.depth, h2]⟩
theorem strs_shaped (ks : List Str) (h : ∀ k ∈ ks, PyData.strOk k = true) : SeqAt.shaped (.list (ks.map PyData.str)) = true := by
  obtain ⟨h1, h2⟩ := strs_shape ks h
  unfold SeqAt.shaped
  simp [PyData.canLay0, PyData.depth, h1, h2]
theorem strs_eqvAll : ∀ a b : List Str, PyData.eqvAll (a.map PyData.str) (b.map PyData.str) = decide (a = b)
  | [], [] => by simp [PyData.eqvAll]
  | [], _ :: _ => by simp [PyData.eqvAll]
  | _ :: _, [] => by simp [PyData.eqvAll]
  | x :: a, y :: b => by
    rw [List.map_cons, List.map_cons, PyData.eqvAll, strs_eqvAll a b, PyData.eqv]
    by_cases h1 : x = y
    · by_cases h2 : a = b <;> simp [h1, h2]
    · simp [h1]
theorem strs_eqv (a b : List Str) : PyData.eqv (.list (a.map PyData.str)) (.list (b.map PyData.str)) = decide (a = b) := by rw [PyData.eqv, strs_eqvAll]
theorem dp_strs {K : PySem.W.Frag} {H : Hp} : ∀ cs : List Str, DpAll K H (cs.map V.str) (cs.map PyData.str)
  | [] => .nil
  | c :: cs => .cons (.str c) (dp_strs cs)
theorem dp_list {K : PySem.W.Frag} {H : Hp} {a : Addr} {cs : List Str} (h : H a = some (.lst (cs.map V.str))) : Dp K H (.ref a) (.list (cs.map PyData.str)) := .lst (SqL.of h) (dp_strs cs)
theorem dk_av {ns : List Str} {vs : List Int} {x : Str} (nd : ns.Nodup) (hl : vs.length = ns.length) (xin : x ∈ ns) : valV (dk ns vs) (Sum.inr x) = some (.int (av ns vs x)) := by
  have lt : idx ns x < ns.length := List.idxOf_lt_length_of_mem xin
  have e1 : ns[idx ns x]? = some x := by
    rw [List.getElem?_eq_getElem lt]
    exact congrArg some (List.getElem_idxOf lt)
  have e2 : vs[idx ns x]? = some (av ns vs x) := by
    unfold av
    rw [List.getD_eq_getElem?_getD, List.getElem?_eq_getElem (by omega)]
    rfl
  have edk : (dk ns vs)[idx ns x]? = some (Sum.inr x, V.int (av ns vs x)) := by
    unfold dk
    rw [List.getElem?_map, List.getElem?_zip_eq_some.mpr (show ns[idx ns x]? = some (x, av ns vs x).1 ∧ vs[idx ns x]? = some (x, av ns vs x).2 from ⟨e1, e2⟩)]
    rfl
  obtain ⟨z', n', q1, q2, _, hv⟩ := dk_at edk nd hl.symm
  obtain rfl := Sum.inr.inj q1
  obtain rfl := V.int.inj q2
  exact hv
theorem nm_strOk {x : Str} (h : NmOk x) : PyData.strOk x = true := by
  unfold PyData.strOk
  rw [← Array.all_toList, List.all_eq_true]
  intro c hc
  have z : ∀ c ∈ signsL, c < 0x110000 := by decide +kernel
  exact decide_eq_true (z c (h.2.2 c hc))
theorem strs_of : ∀ ys : List V, (∀ y ∈ ys, ∃ x, y = V.str x) → ∃ ks : List Str, ys = ks.map V.str
  | [], _ => ⟨[], rfl⟩
  | y :: ys, h => by
    obtain ⟨x, rfl⟩ := h y List.mem_cons_self
    obtain ⟨ks, rfl⟩ := strs_of ys fun z hz => h z (List.mem_cons_of_mem _ hz)
    exact ⟨x :: ks, rfl⟩
/-- a new key comes last -/
theorem put_last {acc : List (Key × V)} {k : Key} {v : V} (h : k ∉ acc.map (·.1)) : putK acc k v = acc ++ [(k, v)] := by
  have nd : ∀ acc : List (Key × V), k ∉ acc.map (·.1) → putK acc k v = acc ++ [(k, v)] := by
    intro acc h
    have no : (acc.any fun e => decide (e.1 = k)) = false := by
      cases q : acc.any fun e => decide (e.1 = k) with
      | false => rfl
      | true =>
        obtain ⟨e, he, ee⟩ := List.any_eq_true.mp q
        exact absurd (of_decide_eq_true ee ▸ List.mem_map_of_mem (f := (·.1)) he) h
    unfold putK
    rw [no]
    rfl
  exact nd acc h
/-- what a dict comprehension asks of its turns -/
def DcW (J : It) (g : TG) (tt : TT) (tk tv : TE) (vs : List Nat) (σ : St) (H1 : Hp) (Q : Addr → Hp → Prop) : Prop := ∀ D, H1 D = none → ∃ W : Nat → Nat → Hp → Prop, (∃ m, W 0 m (upd H1 D (.dK []))) ∧ ∀ i m H, W i m H →
  (J.stop i H ∧ Q D H) ∨ (J.go i H ∧ ∃ Nx : Hp → Prop, (∀ H', Nx H' → ∃ m', m' < m ∧ W (i + 1) m' H') ∧ ∀ x H', J.yld i H x H' → g x (wipe σ vs) H' fun σ2 H2 => wipe σ2 vs = wipe σ vs ∧ tt σ2 H2 fun b H3 =>
    if b = true then tk σ2 H3 fun y H4 => tv σ2 H4 fun z H5 => ∃ kvs k, y = kV k ∧ H5 D = some (.dK kvs) ∧ kvs.length < sizeLine ∧ Nx (upd H5 D (.dK (putK kvs k z))) else Nx H3)
/-- unlike keys: kvs is what it makes -/
theorem dc_gen {J : It} {g : TG} {tt : TT} {tk tv : TE} {vs : List Nat} {σ : St} {H1 : Hp} {Q : Addr → Hp → Prop} (kvs : List (Key × V)) (short : kvs.length < 1000000) (unlike : (kvs.map (·.1)).Nodup) (go : ∀ i H, Same H1 H → i < kvs.length → J.go i H) (stop : ∀ H, Same H1 H → J.stop kvs.length H)
    (turn : ∀ (i : Nat) (x : V) (k : Key) (v : V) (H H' : Hp) (C : V → V → Hp → Prop) (N : Hp → Prop), kvs[i]? = some (k, v) → Same H1 H → J.yld i H x H' → (∀ H5, Same H H5 → C (kV k) v H5) →
      g x (wipe σ vs) H' fun σ2 H2 => wipe σ2 vs = wipe σ vs ∧ tt σ2 H2 fun b H3 => if b = true then tk σ2 H3 fun y H4 => tv σ2 H4 fun z H5 => C y z H5 else N H3)
    (fin : ∀ H D, H1 D = none → H D = some (.dK kvs) → Same H1 H → Q D H) : DcW J g tt tk tv vs σ H1 Q := by
  intro D nD
  refine ⟨fun i m H => m = kvs.length - i ∧ i ≤ kvs.length ∧ H D = some (.dK (kvs.take i)) ∧ Same H1 H, ⟨_, rfl, Nat.zero_le _, upd_same, same_new nD⟩, ?_⟩
  rintro i m H ⟨rfl, le, oD, s1⟩
  by_cases lt : i < kvs.length
  · refine .inr ⟨go i H s1 lt, fun H' => H' D = some (.dK (kvs.take (i + 1))) ∧ Same H1 H', fun H' h => ⟨kvs.length - (i + 1), by omega, rfl, lt, h⟩, fun x H' yl => ?_⟩
    obtain ⟨k, v⟩ : Key × V := kvs[i]
    have ey : kvs[i]? = some (kvs[i].1, kvs[i].2) := List.getElem?_eq_getElem lt
    have et : kvs.take (i + 1) = kvs.take i ++ [(kvs[i].1, kvs[i].2)] := by rw [List.take_succ, ey]; rfl
    refine turn i x _ _ H H' (fun y z H5 => ∃ acc k, y = kV k ∧ H5 D = some (.dK acc) ∧ acc.length < sizeLine ∧ (upd H5 D (.dK (putK acc k z))) D = some (.dK (kvs.take (i + 1))) ∧ Same H1 (upd H5 D (.dK (putK acc k z)))) _ ey s1 yl fun H5 s5 => ⟨_, _, rfl, s5 _ _ oD, ?_, ?_, ?_⟩
    · rw [sizeLine_eq, List.length_take]; omega
    · rw [upd_same, put_last, et]
      have sp : ((kvs.take (i + 1)).map (·.1)).Nodup := (unlike.sublist ((List.take_sublist _ _).map _))
      rw [et, List.map_append, List.nodup_append] at sp
      exact fun hin => sp.2.2 _ hin _ (by simp) rfl
    · intro b u e
      rw [upd_ne (ne_of_none e nD)]
      exact s5 _ _ (s1 _ _ e)
  · obtain rfl : i = kvs.length := by omega
    rw [List.take_length] at oD
    exact .inl ⟨stop H s1, fin H D nD oD s1⟩
/-- a comprehension whose turns make things anew: R tells what the thing of a turn is -/
theorem lc_made {J : It} {g : TG} {tt : TT} {te : TE} {vs : List Nat} {σ : St} {H1 : Hp} {Q : Addr → Hp → Prop} (n : Nat) (short : n < 1000000) (go : ∀ i H, Same H1 H → i < n → J.go i H) (stop : ∀ H, Same H1 H → J.stop n H) (R : Nat → V → Hp → Prop)
    (stays : ∀ i y H H' D l, R i y H → H D = some (.lst l) → (∀ b o, b ≠ D → H b = some o → H' b = some o) → R i y H')
    (turn : ∀ (i : Nat) (x : V) (H H' : Hp) (C : V → Hp → Prop) (N : Hp → Prop), i < n → Same H1 H → J.yld i H x H' → (∀ y H4, R i y H4 → Same H H4 → C y H4) → g x (wipe σ vs) H' fun σ2 H2 => wipe σ2 vs = wipe σ vs ∧ tt σ2 H2 fun b H3 => if b = true then te σ2 H3 C else N H3)
    (fin : ∀ H D ys, H1 D = none → H D = some (.lst ys) → ys.length = n → (∀ j y, ys[j]? = some y → R j y H) → Same H1 H → Q D H) : LcW J g tt te vs σ H1 Q := by
  intro D nD
  refine ⟨fun i m H => m = n - i ∧ i ≤ n ∧ ∃ ys : List V, H D = some (.lst ys) ∧ ys.length = i ∧ (∀ j y, ys[j]? = some y → R j y H) ∧ Same H1 H, ⟨_, rfl, Nat.zero_le _, [], upd_same, rfl, (fun j y e => by cases e), same_new nD⟩, ?_⟩
  rintro i m H ⟨rfl, le, ys, oD, ly, ry, s1⟩
  by_cases lt : i < n
  · refine .inr ⟨go i H s1 lt, fun H' => ∃ ys : List V, H' D = some (.lst ys) ∧ ys.length = i + 1 ∧ (∀ j y, ys[j]? = some y → R j y H') ∧ Same H1 H', fun H' h => ⟨n - (i + 1), by omega, rfl, lt, h⟩, fun x H' yl => ?_⟩
    refine turn i x H H' _ _ lt s1 yl fun y H4 ry4 s4 => ⟨_, s4 _ _ oD, by rw [sizeLine_eq]; omega, ys ++ [y], upd_same, by simp [ly], fun j z ej => ?_, ?_⟩
    · have keep : ∀ b o, b ≠ D → H4 b = some o → upd H4 D (.lst (ys ++ [y])) b = some o := fun b o nb e => by rw [upd_ne nb]; exact e
      rcases Nat.lt_or_ge j ys.length with h | h
      · rw [List.getElem?_append_left h] at ej
        exact stays _ _ _ _ D _ (stays j z H H4 D _ (ry j z ej) oD fun b o _ e => s4 _ _ e) (s4 _ _ oD) keep
      · rw [List.getElem?_append_right h] at ej
        have e0 : j - ys.length = 0 := by
          have := (List.getElem?_eq_some_iff.mp ej).1
          simp at this
          omega
        rw [e0] at ej
        obtain rfl : y = z := Option.some.inj ej
        have ji : j = i := by omega
        subst ji
        exact stays _ _ _ _ D _ ry4 (s4 _ _ oD) keep
    · intro b u e
      rw [upd_ne (ne_of_none e nD)]
      exact s4 _ _ (s1 _ _ e)
  · obtain rfl : i = n := by omega
    exact .inl ⟨stop H s1, fin H D ys nD oD ly ry s1⟩
/-- from the things made to their addresses -/
theorem addrs_of {H : Hp} {P : Nat → Addr → Prop} : ∀ (ys : List V) (k : Nat), (∀ j y, ys[j]? = some y → ∃ t, y = V.ref t ∧ P (k + j) t) → ∃ as : List Addr, ys = as.map V.ref ∧ ∀ j a, as[j]? = some a → P (k + j) a
  | [], k, _ => ⟨[], rfl, fun j a e => by cases e⟩
  | y :: ys, k, h => by
    obtain ⟨t, rfl, pt⟩ := h 0 y rfl
    obtain ⟨as, e, pa⟩ := addrs_of (H := H) (P := P) ys (k + 1) fun j z ez => by
      have := h (j + 1) z ez
      rw [show k + 1 + j = k + (j + 1) from by omega]
      exact this
    refine ⟨t :: as, by rw [e]; rfl, fun j a ea => ?_⟩
    cases j with
    | zero => obtain rfl : t = a := Option.some.inj ea; exact pt
    | succ j =>
      have := pa j a ea
      rw [show k + (j + 1) = k + 1 + j from by omega]
      exact this
theorem paired_of {α β : Type} {R : α → β → Prop} : ∀ (xs : List α) (ys : List β), xs.length = ys.length → (∀ (i : Nat) (x : α) (y : β), xs[i]? = some x → ys[i]? = some y → R x y) → Paired R xs ys
  | [], [], _, _ => .nil
  | x :: xs, y :: ys, l, h => .cons (h 0 x y rfl rfl) (paired_of xs ys (by simpa using l) fun i a b ea eb => h (i + 1) a b ea eb)
theorem val_at : ∀ (kvs : List (Key × V)) (k : Key) (v : V), (kvs.map (·.1)).Nodup → (k, v) ∈ kvs → valV kvs k = some v
  | [], _, _, _, h => by cases h
  | q :: kvs, k, v, nk, mem => by
    unfold valV
    rw [List.find?_cons]
    by_cases hq : q.1 = k
    · rw [decide_eq_true hq]
      rcases List.mem_cons.mp mem with z | z
      · rw [← z]; rfl
      · exfalso
        rw [List.map_cons, List.nodup_cons] at nk
        exact nk.1 (hq ▸ List.mem_map_of_mem (f := (·.1)) z)
    · rw [decide_eq_false hq]
      rcases List.mem_cons.mp mem with z | z
      · exact absurd (by rw [← z]) hq
      · rw [List.map_cons, List.nodup_cons] at nk
        exact val_at kvs k v nk.2 z
theorem lc_genO {J : It} {g : TG} {tt : TT} {te : TE} {vs : List Nat} {σ : St} {H1 : Hp} {Q : Addr → Hp → Prop} (ys : List (Option V)) (short : ys.length < 1000000) (go : ∀ i H, Same H1 H → i < ys.length → J.go i H) (stop : ∀ H, Same H1 H → J.stop ys.length H)
    (turn : ∀ (i : Nat) (x : V) (o : Option V) (H H' : Hp) (C : V → Hp → Prop) (N : Hp → Prop), ys[i]? = some o → Same H1 H → J.yld i H x H' → (∀ y, o = some y → ∀ H4, Same H H4 → C y H4) → (o = none → ∀ H4, Same H H4 → N H4) →
      g x (wipe σ vs) H' fun σ2 H2 => wipe σ2 vs = wipe σ vs ∧ tt σ2 H2 fun b H3 => if b = true then te σ2 H3 C else N H3)
    (fin : ∀ H D, H1 D = none → H D = some (.lst (ys.filterMap id)) → Same H1 H → Q D H) : LcW J g tt te vs σ H1 Q := by
  intro D nD
  refine ⟨fun i m H => m = ys.length - i ∧ i ≤ ys.length ∧ H D = some (.lst ((ys.take i).filterMap id)) ∧ Same H1 H, ⟨_, rfl, Nat.zero_le _, upd_same, same_new nD⟩, ?_⟩
  rintro i m H ⟨rfl, le, oD, s1⟩
  by_cases lt : i < ys.length
  · refine .inr ⟨go i H s1 lt, fun H' => H' D = some (.lst ((ys.take (i + 1)).filterMap id)) ∧ Same H1 H', fun H' h => ⟨ys.length - (i + 1), by omega, rfl, lt, h⟩, fun x H' yl => ?_⟩
    have ey : ys[i]? = some ys[i] := List.getElem?_eq_getElem lt
    have et : ys.take (i + 1) = ys.take i ++ [ys[i]] := by rw [List.take_succ, ey]; rfl
    refine turn i x ys[i] H H' _ _ ey s1 yl (fun y e H4 s4 => ⟨_, s4 _ _ oD, ?_, ?_, ?_⟩) fun e H4 s4 => ⟨?_, s1.trans s4⟩
    · rw [sizeLine_eq]
      have := List.length_filterMap_le id (ys.take i)
      rw [List.length_take] at this
      omega
    · rw [upd_same, et, List.filterMap_append, e]; rfl
    · intro b u e'
      rw [upd_ne (ne_of_none e' nD)]
      exact s4 _ _ (s1 _ _ e')
    · rw [et, List.filterMap_append, e]
      simpa using s4 _ _ oD
  · obtain rfl : i = ys.length := by omega
    rw [List.take_length] at oD
    exact .inl ⟨stop H s1, fin H D nD oD s1⟩
end L2.TB
namespace L2.TB
open PySem PySem.Spec PyProof.Rows
/-! tables of rows whose questions stand in any order -/
structure RowD (ns : List Str) (kvs : List (Key × V)) (us : List Int) : Prop where
  keys : (kvs.map (·.1)).Perm (ns.map Sum.inr)
  val : ∀ x ∈ ns, valV kvs (Sum.inr x) = some (.int (av ns us x))
  len : us.length = ns.length
theorem inr_nd {ns : List Str} (nd : ns.Nodup) : (ns.map (Sum.inr : Str → Key)).Nodup := List.Pairwise.map Sum.inr (fun a b h e => h (Sum.inr.inj e)) nd
theorem RowD.nd {ns : List Str} {kvs : List (Key × V)} {us : List Int} (h : RowD ns kvs us) (nd : ns.Nodup) : (kvs.map (·.1)).Nodup := h.keys.nodup_iff.mpr (inr_nd nd)
theorem RowD.size {ns : List Str} {kvs : List (Key × V)} {us : List Int} (h : RowD ns kvs us) : kvs.length = ns.length := by
  have := h.keys.length_eq
  rw [List.length_map, List.length_map] at this
  exact this
theorem RowD.at {ns : List Str} {kvs : List (Key × V)} {us : List Int} {i : Nat} {k : Key} {v : V} (h : RowD ns kvs us) (nd : ns.Nodup) (e : kvs[i]? = some (k, v)) : ∃ x, x ∈ ns ∧ k = Sum.inr x ∧ v = .int (av ns us x) := by
  have m : k ∈ ns.map Sum.inr := h.keys.mem_iff.mp (List.mem_map_of_mem (f := (·.1)) (List.mem_of_getElem? e))
  obtain ⟨x, hx, rfl⟩ := List.mem_map.mp m
  have a := val_at _ _ _ (h.nd nd) (List.mem_of_getElem? e)
  rw [h.val x hx] at a
  exact ⟨x, hx, rfl, (Option.some.inj a).symm⟩
theorem rowD_dk {ns : List Str} {us : List Int} (nd : ns.Nodup) (l : us.length = ns.length) : RowD ns (dk ns us) us :=
  ⟨by rw [dk_keys l.symm], fun x hx => dk_av nd l hx, l⟩
def GRows (H : Hp) (ns : List Str) : List Addr → List (List Int) → Prop := Paired fun a us => ∃ kvs, H a = some (.dK kvs) ∧ RowD ns kvs us
theorem GRows.same {H H' : Hp} {ns : List Str} {as : List Addr} {tbl : List (List Int)} (r : GRows H ns as tbl) (s : Same H H') : GRows H' ns as tbl := Paired.mapP r fun a vs h => let ⟨kvs, e, d⟩ := h; ⟨kvs, s _ _ e, d⟩
/-- the first row's own order -/
def HeadD (H : Hp) (ns : List Str) (as : List Addr) : Prop := ∀ a, as[0]? = some a → ∃ kvs : List (Key × V), H a = some (.dK kvs) ∧ kvs.map (·.1) = ns.map Sum.inr
theorem HeadD.same {H H' : Hp} {ns : List Str} {as : List Addr} (h : HeadD H ns as) (s : Same H H') : HeadD H' ns as := fun a e => let ⟨kvs, o, k⟩ := h a e; ⟨kvs, s _ _ o, k⟩
theorem av_all {ns : List Str} {us : List Int} (nd : ns.Nodup) (l : us.length = ns.length) : ns.map (av ns us) = us := by
  apply List.ext_getElem
  · rw [List.length_map, l]
  · intro i h1 h2
    rw [List.length_map] at h1
    rw [List.getElem_map]
    have e : idx ns ns[i] = i := List.Nodup.idxOf_getElem nd i h1
    unfold av
    rw [e, List.getD_eq_getElem?_getD, List.getElem?_eq_getElem h2]
    rfl
/-- a list or a tuple by its place -/
def rIxA (K : PySem.W.Frag) : R2 := fun x y H Q => rIxL K x y H Q ∨ rIxT K x y H Q
theorem ix_any {X : Cx} : IxR X (rIxA X.K) := by
  intro value slice pins s σ H x y v u Q I rx ry h hs
  rcases h with h | h
  · exact ix_list value slice pins s σ H x y v u Q I rx ry h hs
  · exact ix_tup value slice pins s σ H x y v u Q I rx ry h hs
theorem at_any {K : PySem.W.Frag} {H : Hp} {a : Addr} {xs : List V} {i : Int} {v : V} {Q : VK} (h : SqA K H a xs) (e : atI xs i = some v) (q : Q v H) : rIxA K (.ref a) (.int i) H Q := by
  rcases h with h | h
  · exact .inl ⟨_, _, _, _, rfl, rfl, SqL.of h, e, q⟩
  · exact .inr ⟨_, _, _, _, rfl, rfl, SqT.of h, e, q⟩
/-- things made anew over a list or a tuple -/
theorem lc_madeS {K : PySem.W.Frag} {a : Addr} {xs : List V} {g : TG} {tt : TT} {te : TE} {vs : List Nat} {σ : St} {H1 : Hp} {Q : Addr → Hp → Prop} (h : SqA K H1 a xs) (short : xs.length < 1000000) (R : Nat → V → Hp → Prop)
    (stays : ∀ i y H H' D l, R i y H → H D = some (.lst l) → (∀ b o, b ≠ D → H b = some o → H' b = some o) → R i y H')
    (turn : ∀ (i : Nat) (x : V) (H : Hp) (C : V → Hp → Prop) (N : Hp → Prop), xs[i]? = some x → Same H1 H → (∀ y H4, R i y H4 → Same H H4 → C y H4) → g x (wipe σ vs) H fun σ2 H2 => wipe σ2 vs = wipe σ vs ∧ tt σ2 H2 fun b H3 => if b = true then te σ2 H3 C else N H3)
    (fin : ∀ H D ys, H1 D = none → H D = some (.lst ys) → ys.length = xs.length → (∀ j y, ys[j]? = some y → R j y H) → Same H1 H → Q D H) :
    ∃ b ys, V.ref a = V.ref b ∧ ((SqL K H1 b ys ∧ LcW (Itl K b) g tt te vs σ H1 Q) ∨ (SqT K H1 b ys ∧ LcW (Itt K b) g tt te vs σ H1 Q)) := by
  rcases h with h | h
  · refine ⟨a, xs, rfl, .inl ⟨SqL.of h, lc_made xs.length short (fun i H' s lt => ⟨_, _, SqL.of (s _ _ h), List.getElem?_eq_getElem lt⟩) (fun H' s => ⟨_, SqL.of (s _ _ h), Nat.le_refl _⟩) R stays ?_ fin⟩⟩
    rintro i x H H' C N lt s1 ⟨rfl, ex⟩ yes
    exact turn i x H' C N (ex _ (SqL.of (s1 _ _ h))) s1 yes
  · refine ⟨a, xs, rfl, .inr ⟨SqT.of h, lc_made xs.length short (fun i H' s lt => ⟨_, _, SqT.of (s _ _ h), List.getElem?_eq_getElem lt⟩) (fun H' s => ⟨_, SqT.of (s _ _ h), Nat.le_refl _⟩) R stays ?_ fin⟩⟩
    rintro i x H H' C N lt s1 ⟨rfl, ex⟩ yes
    exact turn i x H' C N (ex _ (SqT.of (s1 _ _ h))) s1 yes
def spHasJustG (K : PySem.W.Frag) : Sp := fun vs H Q _ => ∃ (d c : Addr) (kvs : List (Key × V)) (ns : List Str), vs = [.ref d, .ref c] ∧ H d = some (.dK kvs) ∧ H c = some (.lst (ns.map V.str)) ∧ kvs.length = ns.length ∧ (∀ x ∈ ns, ∃ v, valV kvs (Sum.inr x) = some v) ∧ ns.length < 1000 ∧ ∀ H', Same H H' → Q (.bl true) H'
def spBadRowG (K : PySem.W.Frag) : Sp := fun vs H Q _ => ∃ (r : Addr) (as : List Addr) (ns : List Str) (tbl : List (List Int)), vs = [.ref r] ∧ SqA K H r (as.map V.ref) ∧ GRows H ns as tbl ∧ HeadD H ns as ∧ tbl ≠ [] ∧ tbl.length < 1000 ∧ ns ≠ [] ∧ ns.Nodup ∧ (∀ x ∈ ns, NmOk x) ∧ ns.length < 1000 ∧ ∀ H', Same H H' → Q .non H'
def spInitG (K : PySem.W.Frag) (C : Addr) : Sp := fun vs H Q _ => ∃ (p dx r : Addr) (as : List Addr) (ns : List Str) (tbl : List (List Int)), vs = [.ref p, .ref r] ∧ H p = some (.ins C dx []) ∧ SqA K H r (as.map V.ref) ∧ GRows H ns as tbl ∧ HeadD H ns as ∧ tbl ≠ [] ∧ tbl.length < 1000 ∧ ns ≠ [] ∧ ns.Nodup ∧ (∀ x ∈ ns, NmOk x) ∧ ns.length < 1000 ∧
  ∀ H', TabAt H' C p ns tbl → (∀ b o, b ≠ p → H b = some o → H' b = some o) → Q .non H'
section
variable {P : Program} {w : World} {K : PySem.W.Frag} {mg : Str → Option Value} {base : Heap} {f fL fI fN fH fB C : Addr} {fd fdL fdI fdN fdH fdB : FuncData}
theorem ok_hasJustG (F : Fun K "has_just" "has_just" sHasJust f fd) (gI : mg "isinstance" = none) (gD : mg "dict" = none) (gN : mg "len" = none) (gA : mg "all" = none) : FnOk P w K mg base CX0 1 f fd ["thing", "names"] (spHasJustG K) := by
  refine F.ok scHasJust (fun vs H Q E h => by obtain ⟨d, c, kvs, ns, e, _⟩ := h; rw [e]; rfl) fun cdv A outer s H vs Q E hr hsp => ?_
  obtain ⟨d, c, kvs, ns, rfl, hd, hc, lk, has, short, hq⟩ := hsp
  have nd := scHasJust.nd
  have hu := hu_of hr
  refine ⟨_, pss_one (ps_ret (pe_and (pe_callB (r := rIsi K) call_isi rfl gI boot_isi (pa_cons (pv 0) (pa_cons (pe_bltn (v := .ty "dict") rfl gD boot_dict' rfl) pa_nil))) (pe_and (pe_cmpR op_eq (pe_callB call_lenD rfl gN boot_len (pa_cons (pv 0) pa_nil)) (pe_callB call_len_seq rfl gN boot_len (pa_cons (pv 1) pa_nil)) (nomark _))
    (pe_one (pe_callB (cr_all rfl) rfl gA boot_all' (pa_cons (pe_lc (own := [("name", 2)]) (tt := tYes) rfl nd (pi_seq (pv 1)) (blkOk_by (N := NHj) (sc := defScope sHasJust) (by decide +kernel)) (fun _ _ _ _ _ => pg_name (i := 2) nd rfl (Or.inl rfl)) (fun _ _ _ _ _ => pts_nil)
      (fun _ _ _ _ _ => pe_cmp (pc_din hu (pv 2) (pv 0)))) pa_nil)))))), ?_⟩
  refine ⟨_, rfl, _, _, _, _, true, rfl, .ty _, .base (.dK hd), kit_ty (by decide +kernel), _, rfl, iteT ?_⟩
  refine ⟨_, rfl, d, kvs, rfl, hd, _, rfl, c, _, rfl, .inl (SqL.of hc), rfl, _, rfl, ?_⟩
  rw [dec_int2, List.length_map, lk, decide_eq_true rfl]
  refine iteT ⟨_, rfl, lc_seq (.inl rfl) hc (by rw [List.length_map]; omega) (fun _ => true) (fun _ => .bl true) ?_ ?_⟩
  · rintro i v H2 Cn Nn ev s2 yes no
    rw [List.getElem?_map] at ev
    obtain ⟨x, ex, rfl⟩ := Option.map_eq_some_iff.mp ev
    obtain ⟨y, ey⟩ := has x (List.mem_of_getElem? ex)
    refine ⟨rfl, ?_⟩
    refine ⟨_, rfl, _, rfl, d, _, rfl, DGet.k (k := Sum.inr x) (s2 _ _ hd), ?_⟩
    rw [ey]
    exact yes rfl H2 (Same.refl _)
  · intro H2 D nD oD s2
    rw [const_map, bools_map] at oD
    refine ⟨D, _, rfl, SqL.of oD, ?_⟩
    rw [all_true]
    exact hq H2 s2
theorem ok_badRowG (F : Fun K "_first_bad_row" "_first_bad_row" sBadRow f fd) (FL : Fun K "is_list" "is_list" sIsList fL fdL) (gIL : mg "is_list" = some (.ref fL)) (FI : Fun K "is_integer" "is_integer" sIsInt fI fdI) (gII : mg "is_integer" = some (.ref fI))
    (FN : Fun K "is_name" "is_name" sIsName fN fdN) (gIN : mg "is_name" = some (.ref fN)) (FH : Fun K "has_just" "has_just" sHasJust fH fdH) (gHJ : mg "has_just" = some (.ref fH))
    (gI : mg "isinstance" = none) (gL : mg "list" = none) (gT : mg "tuple" = none) (gS : mg "str" = none) (gE : mg "enumerate" = none) (gN : mg "len" = none) (gA : mg "all" = none) (gD : mg "dict" = none) (gInt : mg "int" = none) (gB : mg "bool" = none)
    (gLo : ∃ t, mg "LONGEST" = some (.int 40 t)) (gSg : ∃ t, mg "SIGNS" = some (.str (Str.ofString "abcdefghijklmnopqrstuvwxyz0123456789.") t)) : FnOk P w K mg base CX0 2 f fd ["rows"] (spBadRowG K) := by
  have GL : FnOk P w K mg base CX0 1 fL fdL ["thing"] (spIsList K) := ok_isList FL gI gL gT
  have bL := FL.binds (ps := ["thing"]) fun _ _ _ _ _ _ us hl => match us, hl with | [_], _ => rfl
  have GI : FnOk P w K mg base CX0 1 fI fdI ["thing"] spIsInt := ok_isInt FI gI gInt gB
  have bI := FI.binds (ps := ["thing"]) fun _ _ _ _ _ _ us hl => match us, hl with | [_], _ => rfl
  have GN : FnOk P w K mg base CX0 1 fN fdN ["thing"] spIsName := ok_isName FN gI gS gN gA gLo gSg
  have bN := FN.binds (ps := ["thing"]) fun _ _ _ _ _ _ us hl => match us, hl with | [_], _ => rfl
  have GH : FnOk P w K mg base CX0 1 fH fdH ["thing", "names"] (spHasJustG K) := ok_hasJustG FH gI gD gN gA
  have bH := FH.binds (ps := ["thing", "names"]) fun _ _ _ _ _ _ us hl => match us, hl with | [_, _], _ => rfl
  refine F.ok scBadRow (fun vs H Q E h => by obtain ⟨r, as, ns, tbl, e, _⟩ := h; rw [e]; rfl) fun cdv A outer s H vs Q E hr hsp => ?_
  obtain ⟨r, as, ns, tbl, rfl, hrr, rows, hd0, tne, tsh, nne, nnd, nok, nsh, hq⟩ := hsp
  have nd := scBadRow.nd
  have hu := hu_of hr
  refine ⟨_, pss_cons (ps_if (PW.pt (pw_or (pt_not (pt_val (pe_call GL hr rfl gIL FL.kp bL .nil pass0 (pa_cons (pv 0) pa_nil)))) (pw_or1 (pt_cmpR op_eq (pe_callB call_len_seq rfl gN boot_len (pa_cons (pv 0) pa_nil)) pe_int (nomark _))))) (pss_one ps_never) pss_nil)
    (pss_cons (ps_for PassesOwn.never rfl (pi_enumS rfl gE (pa_cons (pv 0) pa_nil)) (pg_tup rfl (pgs_cons (pg_name (i := 1) nd rfl (Or.inl rfl)) (pgs_cons (pg_name (i := 2) nd rfl (Or.inr rfl)) pgs_nil)))
      (pss_cons (ps_if (PW.pt (pw_or (pt_not (pt_val (pe_callB (r := rIsi K) call_isi rfl gI boot_isi (pa_cons (pv 2) (pa_cons (pe_bltn (v := .ty "dict") rfl gD boot_dict' rfl) pa_nil)))))
          (pw_or (pt_cmpR op_eq (pe_callB call_lenD rfl gN boot_len (pa_cons (pv 2) pa_nil)) pe_int (nomark _))
          (pw_or1 (pt_not (pt_val (pe_callB (cr_all rfl) rfl gA boot_all' (pa_cons (pe_lock (pe_lc (own := [("name", 3)]) (tt := tYes) rfl nd (pi_keys (pv 2)) (blkOk_by (N := NB) (sc := defScope sBadRow) (by decide +kernel)) (fun _ _ _ _ _ => pg_name (i := 3) nd rfl (Or.inl rfl)) (fun _ _ _ _ _ => pts_nil)
            (fun _ _ _ _ _ => pe_call GI hr rfl gII FI.kp bI .nil pass0 (pa_cons (pe_dget hu (pv 2) (pv 3) (fun _ _ => rfl)) pa_nil)))) pa_nil)))))))) (pss_one ps_never) pss_nil)
      (pss_one (ps_if (PW.pt (pw_or (pt_not (pt_val (pe_callB (cr_all rfl) rfl gA boot_all' (pa_cons (pe_lock (pe_lc (own := [("name", 3)]) (tt := tYes) rfl nd (pi_keys (pv 2)) (blkOk_by (N := NB) (sc := defScope sBadRow) (by decide +kernel)) (fun _ _ _ _ _ => pg_name (i := 3) nd rfl (Or.inl rfl)) (fun _ _ _ _ _ => pts_nil)
            (fun _ _ _ _ _ => pe_call GN hr rfl gIN FN.kp bN .nil pass0 (pa_cons (pv 3) pa_nil)))) pa_nil))))
          (pw_or1 (pt_not (pt_val (pe_call GH hr rfl gHJ FH.kp bH .nil pass0 (pa_cons (pv 2) (pa_cons (pe_callTy (call_listD rfl) rfl gL boot_list' (pa_cons (pe_ix (r := rIxA K) ix_any (pv 0) pe_int (fun _ _ => rfl)) pa_nil)) pa_nil)))))))) (pss_one ps_never) pss_nil))))
    (pss_one (ps_ret pe_non))), ?_⟩
  have las : as.length = tbl.length := Paired.length rows
  have pos : 0 < tbl.length := List.length_pos_iff.mpr tne
  have npos : 0 < ns.length := List.length_pos_iff.mpr nne
  refine ⟨_, rfl, r, _, rfl, hrr, fun H1 k1 => ⟨_, rfl, iteF ?_⟩⟩
  refine ⟨_, rfl, r, _, rfl, (hrr.same k1).seq, rfl, _, rfl, ?_⟩
  rw [dec_int2, List.length_map, decide_eq_false (by omega : ¬ ((as.length : Nat) : Int) = 0)]
  refine iteF ?_
  have ko : ∃ o, (o = .lst (as.map V.ref) ∨ o = .tup (as.map V.ref)) ∧ H r = some o := hrr.elim (fun h => ⟨_, .inl rfl, h⟩) (fun h => ⟨_, .inr rfl, h⟩)
  obtain ⟨o, ko, hro⟩ := ko
  refine ⟨_, rfl, enum_seq ko (fun i σ H' => Same H1 H' ∧ ∃ s1 s2 s3, σ = [some (.ref r), s1, s2, s3]) ⟨Same.refl _, _, _, _, rfl⟩ (fun i σ H' _ h => h.1 _ _ (k1 _ _ hro)) ?_ ?_⟩
  · rintro i v σ H2 T ev ⟨s2, s1', s2', s3', rfl⟩ nT
    rw [List.getElem?_map] at ev
    obtain ⟨a, ea, rfl⟩ := Option.map_eq_some_iff.mp ev
    have sT := (k1.trans s2).trans (same_new (o := .tup [.int (i : Nat), .ref a]) nT)
    refine ⟨T, _, rfl, SqT.of upd_same, rfl, _, _, rfl, _, _, rfl, rfl, ?_⟩
    have s2T := s2.trans (same_new (o := .tup [.int (i : Nat), .ref a]) nT)
    generalize upd H2 T (.tup [.int (i : Nat), .ref a]) = H3 at sT s2T
    obtain ⟨us, ev2, kvs, oa, rd⟩ := paired_get (rows.same sT) ea
    have ldk := rd.size
    refine ⟨_, rfl, _, _, _, _, true, rfl, .ty _, .base (.dK oa), kit_ty (by decide +kernel), _, rfl, iteF ?_⟩
    refine ⟨_, rfl, a, _, rfl, oa, rfl, _, rfl, ?_⟩
    rw [dec_int2, ldk, decide_eq_false (by omega : ¬ ((ns.length : Nat) : Int) = 0)]
    refine iteF ?_
    refine ⟨a, _, oa, trivial, fun od => ⟨_, rfl, a, od, rfl, .inl ⟨_, upd_same, lc_gen (bools ns.length) (by rw [bools_len]; omega) (fun j H' s lt => ⟨s _ _ upd_same, by rw [ldk]; rw [bools_len] at lt; exact lt⟩) (fun H' s => ⟨s _ _ upd_same, by rw [ldk, bools_len]; exact Nat.le_refl _⟩) ?_ ?_⟩⟩⟩
    · rintro j v y H4 H5 Cn Nn ey s4 ⟨rfl, k, w', ek, rfl⟩ yes
      obtain ⟨rfl, lt⟩ := bools_at ey
      obtain ⟨x, xin, rfl, rfl⟩ := rd.at nnd ek
      refine ⟨rfl, ?_⟩
      exact ⟨_, rfl, _, rfl, a, _, rfl, .inl ⟨_, Sum.inr x, .inr ⟨_, s4 _ _ upd_same⟩, rfl, (rd.val x xin).symm⟩, _, rfl, yes H5 (Same.refl _)⟩
    · intro H4 D nD oD s4
      obtain ⟨b1, s34⟩ := lock_off oa s4
      have Da : D ≠ a := fun z => by rw [z, upd_same] at nD; cases nD
      rw [bools_map] at oD
      refine ⟨b1, D, _, rfl, SqL.of (by rw [upd_ne Da]; exact oD), _, rfl, ?_⟩
      rw [all_true]
      refine iteF ?_
      have oa4 := s34 _ _ oa
      have sH4 := sT.trans s34
      have s14 := s2T.trans s34
      generalize upd H4 a (.dK kvs) = H5 at s34 oa4 sH4 s14
      refine ⟨a, _, oa4, trivial, fun od2 => ⟨_, rfl, a, od2, rfl, .inl ⟨_, upd_same, lc_gen (bools ns.length) (by rw [bools_len]; omega) (fun j H' s lt => ⟨s _ _ upd_same, by rw [ldk]; rw [bools_len] at lt; exact lt⟩) (fun H' s => ⟨s _ _ upd_same, by rw [ldk, bools_len]; exact Nat.le_refl _⟩) ?_ ?_⟩⟩⟩
      · rintro j v y H6 H7 Cn Nn ey s6 ⟨rfl, k, w', ek, rfl⟩ yes
        obtain ⟨rfl, lt⟩ := bools_at ey
        obtain ⟨x, xin, rfl, rfl⟩ := rd.at nnd ek
        refine ⟨rfl, ?_⟩
        exact ⟨_, rfl, x, rfl, nok x xin, fun H' s' => yes H' s'⟩
      · intro H6 D2 nD2 oD2 s6
        obtain ⟨b2, s56⟩ := lock_off oa4 s6
        have Da2 : D2 ≠ a := fun z => by rw [z, upd_same] at nD2; cases nD2
        rw [bools_map] at oD2
        refine ⟨b2, D2, _, rfl, SqL.of (by rw [upd_ne Da2]; exact oD2), _, rfl, ?_⟩
        rw [all_true]
        refine iteF ?_
        have oa6 := s56 _ _ oa4
        have sH6 := sH4.trans s56
        have s16 := s14.trans s56
        generalize upd H6 a (.dK kvs) = H7 at oa6 sH6 s16
        obtain ⟨a0, ea0⟩ : ∃ a0, as[0]? = some a0 := ⟨as[0]'(by omega), List.getElem?_eq_getElem _⟩
        obtain ⟨kv0, oa0, ek0⟩ := (hd0.same sH6) a0 ea0
        have at0' : atI (as.map V.ref) ((0 : Nat) : Int) = some (.ref a0) := atI_nat (by rw [List.getElem?_map, ea0]; rfl)
        refine ⟨_, rfl, _, rfl, at_any (hrr.same sH6) at0' ⟨a0, _, rfl, .inl oa0, fun q nq => ?_⟩⟩
        have ekeys : (kv0.map fun kv => kV kv.1) = ns.map V.str := by
          have z := congrArg (List.map kV) ek0
          rw [List.map_map, List.map_map] at z
          exact z
        rw [ekeys]
        have sq := same_new (o := .lst (ns.map V.str)) nq
        exact ⟨a, q, kvs, ns, rfl, sq _ _ oa6, upd_same, ldk, fun x hx => ⟨_, rd.val x hx⟩, nsh, fun H' s' => ⟨_, rfl, iteF ⟨(s16.trans sq).trans s', _, _, _, rfl⟩⟩⟩
  · rintro σ H2 ⟨s2, s1', s2', s3', rfl⟩
    exact hq _ (k1.trans s2)
end
end L2.TB
namespace L2.TB
open PySem PySem.Spec PyProof.Rows
section
variable {P : Program} {w : World} {K : PySem.W.Frag} {mg : Str → Option Value} {base : Heap} {f C fB : Addr} {fd fdB : FuncData}
theorem ok_initG (F : Fun K "__init__" "Table.__init__" sInit f fd) (T : TabC K C) (GB : FnOk P w K mg base CX0 2 fB fdB ["rows"] (spBadRowG K)) (FB : Fun K "_first_bad_row" "_first_bad_row" sBadRow fB fdB) (gB : mg "_first_bad_row" = some (.ref fB)) (gL : mg "list" = none) (gT : mg "tuple" = none) : FnOk P w K mg base CX0 3 f fd ["self", "rows"] (spInitG K C) := by
  have bB := FB.binds (ps := ["rows"]) fun _ _ _ _ _ _ us hl => match us, hl with | [_], _ => rfl
  refine F.ok scInit (fun vs H Q E h => by obtain ⟨p, dx, r, as, ns, tbl, e, _⟩ := h; rw [e]; rfl) fun cdv A outer s H vs Q E hr hsp => ?_
  obtain ⟨p, dx, r, as, ns, tbl, rfl, hp, hrr, rows, hd0, tne, tsh, nne, nnd, nok, nsh, hq⟩ := hsp
  have nd := scInit.nd
  have hu := hu_of hr
  refine ⟨_, pss_cons (ps_set (i := 2) nd rfl (Or.inl rfl) (pe_call GB hr rfl gB FB.kp bB .nil pass0 (pa_cons (pv 1) pa_nil)))
    (pss_cons (ps_if (pt_cmp (pc_notN (pv 2))) (pss_one ps_never) pss_nil)
    (pss_cons (ps_fld (pv 0) (pe_callTy (call_listD rfl) rfl gL boot_list' (pa_cons (pe_ix (r := rIxA K) ix_any (pv 1) pe_int (fun _ _ => rfl)) pa_nil)) rfl)
    (pss_one (ps_fld (pv 0) (pe_lc (own := [("row", 3)]) (tt := tYes) (te := tCB (rTupOf K) (tCons (tLc (iList K (tFld K (tVar 0) "_questions")) (gName 4) tYes (tDGet (tVar 3) (tVar 4)) [4]) tNil)) rfl nd (pi_seq (pv 1)) (blkOk_by (N := NI) (sc := defScope sInit) (by decide +kernel)) (fun _ _ _ _ _ => pg_name (i := 3) nd rfl (Or.inr rfl)) (fun _ _ _ _ _ => pts_nil)
      (fun _ _ _ _ _ => pe_callTy (r := rTupOf K) call_tuple_of rfl gT boot_tuple' (pa_cons (pe_lc (own := [("name", 4)]) (tt := tYes) (g := gName 4) (wi := iList K (tFld K (tVar 0) "_questions")) (te := tDGet (tVar 3) (tVar 4)) rfl nd (pi_list (pe_fld (pv 0) rfl)) (blkOk_by (N := NI) (sc := scRow) (by decide +kernel)) (fun _ _ _ _ _ => pg_name (i := 4) nd rfl (Or.inl rfl)) (fun _ _ _ _ _ => pts_nil)
        (fun _ _ _ _ _ => pe_dget hu (pv 3) (pv 4) (fun _ _ => rfl))) pa_nil))) rfl)))), ?_⟩
  have las : as.length = tbl.length := Paired.length rows
  have pos : 0 < tbl.length := List.length_pos_iff.mpr tne
  refine ⟨_, rfl, r, as, ns, tbl, rfl, hrr, rows, hd0, tne, tsh, nne, nnd, nok, nsh, fun H1 s1 => ?_⟩
  refine ⟨_, rfl, _, rfl, iteF ?_⟩
  obtain ⟨a0, ea0⟩ : ∃ a0, as[0]? = some a0 := ⟨as[0]'(by omega), List.getElem?_eq_getElem _⟩
  obtain ⟨kv0, oa0, ek0⟩ := (hd0.same s1) a0 ea0
  have at0' : atI (as.map V.ref) ((0 : Nat) : Int) = some (.ref a0) := atI_nat (by rw [List.getElem?_map, ea0]; rfl)
  have ekeys : (kv0.map fun kv => kV kv.1) = ns.map V.str := by
    have z := congrArg (List.map kV) ek0
    rw [List.map_map, List.map_map] at z
    exact z
  refine ⟨_, rfl, at_any (hrr.same s1) at0' ⟨a0, _, rfl, .inl oa0, fun qa nqa => ?_⟩⟩
  rw [ekeys]
  have sq := same_new (o := .lst (ns.map V.str)) nqa
  have hp2 := sq _ _ (s1 _ _ hp)
  have oq2 : upd H1 qa (.lst (ns.map V.str)) qa = some (.lst (ns.map V.str)) := upd_same
  have s12 := s1.trans sq
  generalize upd H1 qa (.lst (ns.map V.str)) = H2 at sq hp2 oq2 s12
  refine ⟨_, rfl, p, C, dx, _, rfl, hp2, T.cl, T.nQ, by decide, ?_⟩
  have hpu : upd H2 p (.ins C dx (putF "_questions" (.ref qa) [])) p = some (.ins C dx (putF "_questions" (.ref qa) [])) := upd_same
  have s2p : ∀ b o, b ≠ p → H2 b = some o → upd H2 p (.ins C dx (putF "_questions" (.ref qa) [])) b = some o := fun b o nb e => by rw [upd_ne nb]; exact e
  generalize upd H2 p (.ins C dx (putF "_questions" (.ref qa) [])) = H4 at hpu s2p
  have rp : r ≠ p := by
    intro z
    rw [z] at hrr
    rcases hrr with h | h <;> (rw [hp] at h; cases h)
  have qp : qa ≠ p := ne_of oq2 hp2 (by intro z; cases z)
  have or4 : SqA K H4 r (as.map V.ref) := (hrr.same s12).imp (s2p _ _ rp) (s2p _ _ rp)
  have oq4 := s2p _ _ qp oq2
  have rows4 : GRows H4 ns as tbl := Paired.mapP rows fun a vs h => let ⟨kvs, e, d⟩ := h; ⟨kvs, s2p _ _ (ne_of e hp (by intro z; cases z)) (s12 _ _ e), d⟩
  refine ⟨_, rfl, lc_madeS or4 (by rw [List.length_map]; omega) (fun i y H' => ∃ t us, y = V.ref t ∧ tbl[i]? = some us ∧ H' t = some (.tup (us.map V.int)) ∧ us.length = ns.length) ?_ ?_ ?_⟩
  · rintro i y H5 H6 D l ⟨t, us, rfl, eu, ot, lu⟩ oD keep
    exact ⟨t, us, rfl, eu, keep _ _ (ne_of ot oD (by intro z; cases z)) ot, lu⟩
  · rintro i v H5 Cn Nn ev s5 yes
    rw [List.getElem?_map] at ev
    obtain ⟨a, ea, rfl⟩ := Option.map_eq_some_iff.mp ev
    obtain ⟨us, eu, kvs, oa, rd⟩ := paired_get (rows4.same s5) ea
    refine ⟨rfl, ?_⟩
    refine ⟨_, rfl, p, C, dx, _, _, rfl, s5 _ _ hpu, T.cl, T.nQ, rfl, qa, rfl, ⟨_, SqL.of (s5 _ _ oq4)⟩, lc_gen ((ns.map (av ns us)).map V.int) (by rw [List.length_map, List.length_map]; omega) (fun j H' s lt => ⟨ns.map V.str, _, SqL.of (s _ _ (s5 _ _ oq4)), List.getElem?_eq_getElem (by rw [List.length_map, List.length_map] at lt; rw [List.length_map]; exact lt)⟩) (fun H' s => ⟨ns.map V.str, SqL.of (s _ _ (s5 _ _ oq4)), by rw [List.length_map, List.length_map, List.length_map]; omega⟩) ?_ ?_⟩
    · rintro j x y H6 H7 Cm Nm ey s6 ⟨rfl, ex⟩ yes2
      have ex := ex _ (SqL.of (s6 _ _ (s5 _ _ oq4)))
      rw [List.getElem?_map] at ex
      obtain ⟨z, ez, rfl⟩ := Option.map_eq_some_iff.mp ex
      rw [List.getElem?_map, List.getElem?_map, ez] at ey
      obtain rfl : V.int (av ns us z) = y := Option.some.inj ey
      refine ⟨rfl, ?_⟩
      exact ⟨_, rfl, _, rfl, a, _, rfl, rd.val z (List.mem_of_getElem? ez) ▸ DGet.k (k := Sum.inr z) (s6 _ _ oa), yes2 H7 (Same.refl _)⟩
    · intro H6 l nl ol s6
      rw [av_all nnd rd.len] at ol
      refine ⟨l, _, rfl, .inl ⟨SqL.of ol, fun t nt => ?_⟩⟩
      have st := same_new (o := .tup (us.map V.int)) nt
      exact yes _ _ ⟨t, us, rfl, eu, upd_same, rd.len⟩ (s6.trans st)
  · intro H5 D ys nD oD ly ry s5
    rw [List.length_map] at ly
    obtain ⟨ps, rfl, pa⟩ := addrs_of (H := H5) (P := fun i t => ∃ us, tbl[i]? = some us ∧ H5 t = some (.tup (us.map V.int)) ∧ us.length = ns.length) ys 0 fun j y e => by
      obtain ⟨t, us, e1, e2, e3, e4⟩ := ry j y e
      exact ⟨t, e1, us, by simpa using e2, e3, e4⟩
    refine ⟨_, rfl, p, C, dx, _, rfl, s5 _ _ hpu, T.cl, T.nR, by show 1 < 1000; decide, ?_⟩
    rw [put_two]
    have Dp : D ≠ p := fun z => by rw [z, hpu] at nD; cases nD
    have frame : ∀ b o, b ≠ p → H b = some o → upd H5 p (.ins C dx (tabF qa D)) b = some o := fun b o nb e => by
      rw [upd_ne nb]
      exact s5 _ _ (s2p _ _ nb (s12 _ _ e))
    refine hq _ ⟨dx, qa, D, upd_same, ?_, ps, ?_, paired_of ps tbl (by rw [← las, ← ly, List.length_map]) fun i q us eq eu => ?_⟩ frame
    · rw [upd_ne qp]; exact s5 _ _ oq4
    · rw [upd_ne Dp]; exact oD
    · obtain ⟨us', e2, e3, e4⟩ := pa i q eq
      rw [Nat.zero_add, eu] at e2
      cases e2
      refine ⟨?_, e4⟩
      rw [upd_ne (ne_of e3 (s5 _ _ hpu) (by intro z; cases z))]
      exact e3
end
end L2.TB
namespace L2.TB
open PySem PySem.Spec PyProof.Rows
/-! own __add__ of two of one class, own __len__ -/
section
variable {X : Cx} {CX : CXT} {k : Nat} {f C : Addr} {fd : FuncData} {ps : List Str} {sp : Sp} {E : XK}
theorem rel_ref {v : V} {c : Addr} {u : Value} (e : v = .ref c) (r : RelV v u) : u = .ref c := by
  subst e
  exact r
/-- two objects of the class at C; the method tells an object -/
def rAddI (C : Addr) (sp : Sp) (E : XK) : R2 := fun x y H Q => ∃ a b dx dy fs gs, x = .ref a ∧ y = .ref b ∧ H a = some (.ins C dx fs) ∧ H b = some (.ins C dy gs) ∧ sp [.ref a, .ref b] H (fun v H' => ∃ c, v = .ref c ∧ Q (.ref c) H') E
theorem op_addI (F : FnOk X.prog X.w X.K X.mg X.base CX k f fd ps sp) (hr : Room k X.A) (hm : Meth X.K C "__add__" f) (sf : PySem.W.selfFirst X.K C = true) (hb : Binds X.K fd ps []) (hx : Passes CX X E) : OpR X (binaryOp .Add) (rAddI C sp E) := by
  intro pins s σ H x y v u Q I rx ry h
  obtain ⟨a, b, dx, dy, fs, gs, rfl, rfl, ha, hb', hsp⟩ := h
  have ev := rel_ref rfl rx
  have eu := rel_ref rfl ry
  subst ev eu
  obtain ⟨mA, JA, _⟩ := ins_get I.hok ha
  obtain ⟨mB, JB, _⟩ := ins_get I.hok hb'
  obtain ⟨od, LA, _⟩ := JA.look
  obtain ⟨od', LB, _⟩ := JB.look
  obtain ⟨m, hF⟩ := I.fr
  refine PySem.W.binop_K hF I.ok.mod.kin LA LB.type sf hm.at_ hm.fn ?_
  have z := run_fn (us := [Value.ref a, Value.ref b]) (vs := [V.ref a, V.ref b]) F hr hb .nil hx I (.cons rfl (.cons rfl .nil)) (by simpa using hsp)
  refine wpAny_mono z (fun r s' q => ?_) fun _ _ q => q
  obtain ⟨t, H', I', rt, c, et, qq⟩ := q
  have er := rel_ref et rt
  subst er
  exact ⟨.ref c, H', I', rfl, qq⟩
/-- the method tells a whole number that is small -/
def rLenI (C : Addr) (sp : Sp) (E : XK) : List V → Hp → VK → Prop := fun xs H Q => ∃ a dx fs, xs = [.ref a] ∧ H a = some (.ins C dx fs) ∧ sp [.ref a] H (fun v H' => ∃ n : Int, v = .int n ∧ (0 ≤ n ∧ n < 2 ^ 63) ∧ Q (.int n) H') E
theorem call_lenI (F : FnOk X.prog X.w X.K X.mg X.base CX k f fd ps sp) (hr : Room (k + 1) X.A) (hm : Meth X.K C "__len__" f) (hb : Binds X.K fd ps []) (hx : Passes CX X E) : CallR X (.builtin "len") (rLenI C sp E) := by
  intro pins s σ H xs us Q I r h
  obtain ⟨a, dx, fs, rfl, ha, hsp⟩ := h
  obtain ⟨u, rfl, rx⟩ := vals1 r
  have eu := rel_ref rfl rx
  subst eu
  obtain ⟨mA, JA, _⟩ := ins_get I.hok ha
  obtain ⟨od, LA, _⟩ := JA.look
  obtain ⟨m, hF⟩ := I.fr
  refine PySem.W.len_K hF I.ok.mod.kin LA hm.at_ hm.fn ?_
  have e0 : Env0 X.prog X.w X.K X.mg X.base X.A.in1 X.stack s H := by
    have z := I.env0
    exact ⟨z.frames, z.mod, z.bs, z.bsz, z.funs, z.frf, z.hok, z.bare⟩
  have many := F.len _ _ _ _ hsp
  have two : Vals [V.ref a] [Value.ref a] := .cons rfl .nil
  have ok := F.run X.A.in1 X.stack s H ⟨[.ref a], []⟩ [.ref a] [.ref a] _ E hr.in1 e0 (by simpa using hb s [.ref a] I.kIn (by simpa using many)) two hsp
  refine wpAny_call (codeAny_mono ok fun q s' got => ?_)
  cases q with
  | error e => exact hx pins σ H s e s' I got
  | ok fl =>
    cases fl with
    | next => exact got.elim
    | brk => exact got.elim
    | cont => exact got.elim
    | ret v =>
      obtain ⟨t, H', I', rt, n, et, lim, qq⟩ := I.after got
      subst et
      obtain ⟨tk, ev⟩ := rt
      subst ev
      exact ⟨lim, .int n, H', I'.tok _, ⟨_, rfl⟩, qq⟩
end
end L2.TB
namespace L2.TB
open PySem PySem.Spec PyProof.Rows
/-! for x, y in zip(xs, ys), xs a list, ys a tuple of as many -/
section
/-- what the maker leaves, one cell after the other -/
abbrev mk1 (h : Heap) (l : Addr) : Heap := h.push { cls := .type "list_iterator", data := .fields #[.ref l, .int 0 0] }
abbrev mk2 (h : Heap) (l t : Addr) : Heap := (mk1 h l).push { cls := .type "tuple_iterator", data := .fields #[.ref t, .int 0 0] }
abbrev mk3 (h : Heap) (l t : Addr) : Heap := (mk2 h l t).push { cls := .type "tuple", data := .seq #[.ref h.objs.size, .ref (mk1 h l).objs.size] }
abbrev mk4 (h : Heap) (l t : Addr) : Heap := (mk3 h l t).push { cls := .type "tuple", data := .seq #[.none, .none] }
abbrev mk5 (h : Heap) (l t : Addr) : Heap := (mk4 h l t).push { cls := .type "zip", data := .fields #[.none, .bool false, .bool false, .ref (mk2 h l t).objs.size, .ref (mk3 h l t).objs.size] }
theorem made_zip (l t : Addr) (as bs : Array Value) : Meets (Builtin.«zip.__new__» ⟨[.type "zip", .ref l, .ref t], []⟩) fun _ done z =>
    z.heap.IsList l as ∧ z.heap.IsTuple t bs ∧ done (.ok (.ret (.ref (mk4 z.heap l t).objs.size))) { z with heap := mk5 z.heap l t } :=
  .of_wp fun _ _ _ _ z hz => by
    obtain ⟨h0, gs, ds, tk, os⟩ := z
    obtain ⟨isL, isT, fin⟩ := hz
    have sub := sub_zip
    have isL0 : Heap.IsList (Shared.heap ⟨h0, gs, ds, tk, os⟩) l as := isL
    have isT1 : Heap.IsTuple (Shared.heap ⟨mk1 h0 l, gs, ds, tk, os⟩) t bs := Heap.IsTuple.push isT _
    wp_walk using wpAny_pyIter_list isL0, wpAny_pyIter_tuple isT1
    exact ⟨_, rfl, fin⟩
theorem zip_mixed {P : Program} {w : World} {A : Around} {z : Shared} {E Q : Value → Shared → Prop} {l t : Addr} {as bs : Array Value} (isL : z.heap.IsList l as) (isT : z.heap.IsTuple t bs)
    (more : ∀ h', IsZip h' (z.heap.objs.size + 4) (z.heap.objs.size + 2) (z.heap.objs.size + 3) .none → IsTupOf2 h' (z.heap.objs.size + 2) (.ref z.heap.objs.size) (.ref (z.heap.objs.size + 1)) →
      IsTupOf2 h' (z.heap.objs.size + 3) .none .none → h'.IsListIter z.heap.objs.size l 0 → h'.IsTupleIter (z.heap.objs.size + 1) t 0 → (∀ c o, z.heap.get? c = some o → h'.get? c = some o) → Q (.ref (z.heap.objs.size + 4)) { z with heap := h' }) :
    wpAny (model P w) A (call (.type "zip") [.ref l, .ref t]) Q E z := by
  refine callType_new F.called_zip (by decide) (F.typeCall_zip_2 _ _) (F.newCall_zip_2 _ _) (fun o => F.args_object_init_3 o _ _) F.entry_zip_new (made_zip l t as bs) ⟨isL, isT, ?_⟩
  have s1 : (mk1 z.heap l).objs.size = z.heap.objs.size + 1 := Heap.size_push ..
  have s2 : (mk2 z.heap l t).objs.size = z.heap.objs.size + 2 := by rw [Heap.size_push, s1]
  have s3 : (mk3 z.heap l t).objs.size = z.heap.objs.size + 3 := by rw [Heap.size_push, s2]
  have s4 : (mk4 z.heap l t).objs.size = z.heap.objs.size + 4 := by rw [Heap.size_push, s3]
  have e5 : (mk5 z.heap l t).get? (mk4 z.heap l t).objs.size = some { cls := .type "zip", data := .fields #[.none, .bool false, .bool false, .ref (mk2 z.heap l t).objs.size, .ref (mk3 z.heap l t).objs.size] } := Heap.get?_push_size _ rfl
  have up5 : ∀ {c : Addr} {o : Obj}, (mk4 z.heap l t).get? c = some o → (mk5 z.heap l t).get? c = some o := fun e => Heap.get?_push_of_some _ e
  have up4 : ∀ {c : Addr} {o : Obj}, (mk3 z.heap l t).get? c = some o → (mk5 z.heap l t).get? c = some o := fun e => up5 (Heap.get?_push_of_some _ e)
  have up3 : ∀ {c : Addr} {o : Obj}, (mk2 z.heap l t).get? c = some o → (mk5 z.heap l t).get? c = some o := fun e => up4 (Heap.get?_push_of_some _ e)
  have up2 : ∀ {c : Addr} {o : Obj}, (mk1 z.heap l).get? c = some o → (mk5 z.heap l t).get? c = some o := fun e => up3 (Heap.get?_push_of_some _ e)
  have e4 : (mk5 z.heap l t).get? (mk3 z.heap l t).objs.size = some { cls := .type "tuple", data := .seq #[.none, .none] } := up5 (Heap.get?_push_size _ rfl)
  have e3 : (mk5 z.heap l t).get? (mk2 z.heap l t).objs.size = some { cls := .type "tuple", data := .seq #[.ref z.heap.objs.size, .ref (mk1 z.heap l).objs.size] } := up4 (Heap.get?_push_size _ rfl)
  have e2 : (mk5 z.heap l t).get? (mk1 z.heap l).objs.size = some { cls := .type "tuple_iterator", data := .fields #[.ref t, .int 0 0] } := up3 (Heap.get?_push_size _ rfl)
  have e1 : (mk5 z.heap l t).get? z.heap.objs.size = some { cls := .type "list_iterator", data := .fields #[.ref l, .int 0 0] } := up2 (Heap.get?_push_size _ rfl)
  show _ ∧ _
  rw [s2, s3, s4] at e5
  rw [s3] at e4
  rw [s1, s2] at e3
  rw [s1] at e2
  rw [s4]
  exact ⟨⟨_, e5, rfl⟩, more _ e5 e3 e4 ⟨_, e1, rfl, rfl⟩ ⟨_, e2, rfl, rfl⟩ fun c o e => up2 (Heap.get?_push_of_some _ e)⟩
end
/-- the items of the list at a and of the tuple at b, in new pairs -/
def ItzM (K : PySem.W.Frag) (a b : Addr) : It where
  go i H := ∃ (xs ys : List V) (x y : V), SqL K H a xs ∧ SqT K H b ys ∧ xs[i]? = some x ∧ ys[i]? = some y
  yld i H v H' := ∃ T x y, v = .ref T ∧ H T = none ∧ H' = upd H T (.tup [x, y]) ∧ (∀ xs, SqL K H a xs → xs[i]? = some x) ∧ ∀ ys, SqT K H b ys → ys[i]? = some y
  stop i H := ∃ xs ys : List V, SqL K H a xs ∧ SqT K H b ys ∧ xs.length = i ∧ ys.length = i
theorem five {p : Addr → Prop} {z u v i j b : Addr} (h : b ∈ [z, u, v, i, j]) (h1 : p z) (h2 : p u) (h3 : p v) (h4 : p i) (h5 : p j) : p b := by
  simp only [List.mem_cons, List.not_mem_nil, or_false] at h
  rcases h with rfl | rfl | rfl | rfl | rfl <;> assumption
theorem turn_zipM {P : Program} {w : World} {K : PySem.W.Frag} {elts : List Expr} {kk : Nat} {tpos : Pos} {a b z u v i1 i2 : Addr} (S : ZipSep2 z u v i1 i2 [i1, a] [i2, b]) :
    Turn P w K (.Tuple elts kk tpos) (ItzM K a b) [z, u, v, i1, i2] z (fun i h => IsZip h z u v .none ∧ IsTupOf2 h u (.ref i1) (.ref i2) ∧ (∃ x y, IsTupOf2 h v x y) ∧ h.IsListIter i1 a i ∧ h.IsTupleIter i2 b i) := by
  have list_ne : ∀ {h : Heap} {i : Nat} {as : Array Value}, h.IsListIter i1 a i → h.IsList a as → a ≠ i1 := by
    rintro h i as ⟨o, eo, co, _⟩ isL rfl
    obtain ⟨o', eo', co', _⟩ := isL
    rw [eo] at eo'
    cases eo'
    rw [co] at co'
    exact absurd co' (by decide)
  have tup_ne : ∀ {h : Heap} {i : Nat} {bs : Array Value}, h.IsTupleIter i2 b i → h.IsTuple b bs → b ≠ i2 := by
    rintro h i bs ⟨o, eo, co, _⟩ isT rfl
    obtain ⟨o', eo', co', _⟩ := isT
    rw [eo] at eo'
    cases eo'
    have co' : o.cls = Value.type "tuple" := co'
    rw [co] at co'
    exact absurd co' (by decide)
  refine ⟨List.mem_cons_self, fun i h st c hc => ?_, fun i h h' st same => ?_, ?_, ?_, fun A i s Q E st more => wpAny_pyIter_zip st.1 more⟩
  · obtain ⟨gz, gu, ⟨x, y, gv⟩, ⟨o1, e1, _, d1⟩, ⟨o2, e2, _, d2⟩⟩ := st
    exact five (p := fun c => ∃ o, h.get? c = some o ∧ ∀ v, o.data ≠ .cell v) hc ⟨_, gz, fun _ e => nomatch e⟩ ⟨_, gu, fun _ e => nomatch e⟩ ⟨_, gv, fun _ e => nomatch e⟩ ⟨o1, e1, fun _ e => by rw [d1] at e; exact nomatch e⟩ ⟨o2, e2, fun _ e => by rw [d2] at e; exact nomatch e⟩
  · obtain ⟨gz, gu, ⟨x, y, gv⟩, h1, h2⟩ := st
    exact ⟨same z (by simp) _ gz, same u (by simp) _ gu, ⟨x, y, same v (by simp) _ gv⟩, h1.at fun o e => same i1 (by simp) o e, h2.at fun o e => same i2 (by simp) o e⟩
  · rintro X rfl rfl rfl calm i pins s σ H E I room ⟨gz, gu, ⟨x0, y0, gv⟩, g1, g2⟩ ⟨xs, ys, x, y, isX, isY, nx, ny⟩
    obtain ⟨us, rel1, p1, _⟩ := I.list isX
    obtain ⟨vs, rel2, p2, _⟩ := I.tuple isY
    obtain ⟨c, nc, rc⟩ := rel1.get nx
    obtain ⟨d, ny', rd⟩ := rel2.get ny
    have isL : s.heap.IsList a us.toArray := p1.isList
    have isT : s.heap.IsTuple b vs.toArray := p2
    have D1 := Draws.list (prog := X.prog) (w := X.w) (A := X.A.in1) (I.ok.hd calm) i1 a (list_ne g1 isL) us.toArray
    have D2 := Draws.tuple (prog := X.prog) (w := X.w) (A := X.A.in1) (I.ok.hd calm) i2 b (tup_ne g2 isT) vs.toArray
    have in1 : i < us.toArray.size := by
      have := (List.getElem?_eq_some_iff.mp nc).1
      simpa using this
    have in2 : i < vs.toArray.size := by
      have := (List.getElem?_eq_some_iff.mp ny').1
      simpa using this
    have lz : z < s.heap.objs.size := Heap.lt_size gz
    refine wpAny_pyNext_zipD2_item S D1 D2 gz gu gv ⟨g1, isL⟩ ⟨g2, isT⟩ in1 in2 fun c' d' h1 tk ec ed gz' gv' st1 st2 newT _ kept => ?_
    obtain rfl : c' = c := by
      have ec : us.toArray[i]? = some c' := ec
      rw [List.getElem?_toArray, nc] at ec
      exact (Option.some.inj ec).symm
    obtain rfl : d' = d := by
      have ed : vs.toArray[i]? = some d' := ed
      rw [List.getElem?_toArray, ny'] at ed
      exact (Option.some.inj ed).symm
    refine ⟨_, rfl, wpAny_letOwnedTupleGo_zip (s := { s with heap := h1, toks := tk }) gz' fun h2 back same2 => ?_⟩
    have far : ∀ q o, q ∉ [z, u, v, i1, i2] → s.heap.get? q = some o → h2.get? q = some o := fun q o away e =>
      (same2.2 q fun k => away (by simp [k])).trans (kept q o (fun k => away (by simp [k])) (fun k => away (by simp [k])) (fun k => away (by simp [k])) (fun k => away (by simp [k])) e)
    have pair : ObjOk X.prog X.w (upd H s.heap.objs.size (.tup [x, y])) h2 s.heap.objs.size (.tup [x, y]) :=
      ⟨show 2 ≤ sizeLine by decide, [c', d'], .cons rc (.cons rd .nil), _, (same2.2 _ (Nat.ne_of_gt lz)).trans newT, rfl, _, rfl⟩
    refine ⟨.ref s.heap.objs.size, _, I.turnedNew (t' := tk) (ch := [z, u, v, i1, i2]) far room (Nat.le_refl _) pair, rfl, ⟨_, x, y, rfl, I.hok.fresh (Nat.le_refl _), rfl, fun l is' => ?_, fun l is' => ?_⟩, ⟨back, ?_, ⟨c', d', ?_⟩, ?_, ?_⟩, fun q hq => ?_⟩
    · rw [I.list_inj is' isX]; exact nx
    · rw [I.tuple_inj is' isY]; exact ny
    · exact (same2.2 _ S.TIz).trans (kept _ _ S.TIz S.TITO S.TIi1 S.TIi2 gu)
    · exact (same2.2 _ S.TOz).trans gv'
    · exact st1.1.at fun o e => (same2.2 _ fun k => S.zi1 k.symm).trans e
    · exact st2.1.at fun o e => (same2.2 _ fun k => S.zi2 k.symm).trans e
    · have lq : q < s.heap.objs.size := by
        obtain ⟨_, e1, _⟩ := g1
        obtain ⟨_, e2, _⟩ := g2
        exact five (p := fun q => q < s.heap.objs.size) hq lz (Heap.lt_size gu) (Heap.lt_size gv) (Heap.lt_size e1) (Heap.lt_size e2)
      rw [upd_ne (Nat.ne_of_lt lq)]
      exact (room q hq).1
  · rintro X rfl rfl rfl calm i pins s σ H E I room ⟨gz, gu, ⟨x0, y0, gv⟩, g1, g2⟩ ⟨xs, ys, isX, isY, l1, l2⟩
    obtain ⟨us, rel1, p1, _⟩ := I.list isX
    obtain ⟨vs, rel2, p2, _⟩ := I.tuple isY
    have isL : s.heap.IsList a us.toArray := p1.isList
    have isT : s.heap.IsTuple b vs.toArray := p2
    have D1 := Draws.list (prog := X.prog) (w := X.w) (A := X.A.in1) (I.ok.hd calm) i1 a (list_ne g1 isL) us.toArray
    have D2 := Draws.tuple (prog := X.prog) (w := X.w) (A := X.A.in1) (I.ok.hd calm) i2 b (tup_ne g2 isT) vs.toArray
    have n1 : i = us.toArray.size := by rw [List.size_toArray, ← rel1.length, l1]
    have n2 : i = vs.toArray.size := by rw [List.size_toArray, ← rel2.length, l2]
    refine wpAny_pyNext_zipD2_end S D1 D2 gz gu gv ⟨g1, isL⟩ ⟨g2, isT⟩ (by omega) (by omega) (.inl n1) fun h1 tk kept => ⟨rfl, ?_⟩
    exact I.turnedL (t' := tk) (ch := [z, u, v, i1, i2]) (fun c o away e => kept c o (fun k => away (by simp [k])) (fun k => away (by simp [k])) (fun k => away (by simp [k])) (fun k => away (by simp [k])) e) room
theorem sep_of (n a b : Nat) (la : a < n) (lb : b < n) : ZipSep2 (n + 4) (n + 2) (n + 3) n (n + 1) [n, a] [n + 1, b] := by
  have h1 : ¬ (n + 4 = a) := by omega
  have h2 : ¬ (n + 4 = b) := by omega
  have h3 : ¬ (n + 3 = a) := by omega
  have h4 : ¬ (n + 3 = b) := by omega
  have h5 : ¬ (n = b) := by omega
  have h6 : ¬ (n + 1 = a) := by omega
  constructor <;> simp [h1, h2, h3, h4, h5, h6]
/-- the reading of zip over a list and a tuple -/
def iZipM (K : PySem.W.Frag) (ta : TA) : TI := fun σ H R => ta σ H fun vs H1 => ∃ a b xs ys, vs = [.ref a, .ref b] ∧ SqL K H1 a xs ∧ SqT K H1 b ys ∧ R (ItzM K a b) H1
theorem pi_zipM {X : Cx} {e e2 : Expr} {ta : TA} {p pos tpos : Pos} {elts : List Expr} {kk : Nat} (hg : Gl X "zip") (hm : X.mg "zip" = none) (ha : PA X [e, e2] ta)
    (hs : starEach [e, e2] X.env = (false, eval e X.env) :: starEach [e2] X.env := by rfl) (hpl : (backTo pos (starEach [e2] X.env)).any (·.1) = false := by rfl) :
    PI X (.Tuple elts kk tpos) (.Call (.Name "zip" p) [e, e2] [] pos) (iZipM X.K ta) := by
  refine ⟨fun pins z σ H R I reading => Call_ (ld_blt I hg hm PyProof.Rows.boot_zip (PyProof.Rows.callWith_type1 (thn (ha.run pos pins z σ H _ I reading) fun us z1 got => ?_) hs hpl))⟩
  obtain ⟨vs, H1, I1, rel, a, b, xs, ys, rfl, isX, isY, q⟩ := got
  match us, rel with
  | [c, d], .cons rc (.cons rd .nil) =>
    obtain rfl : c = Value.ref a := rc
    obtain rfl : d = Value.ref b := rd
    obtain ⟨us, rel1, p1, _⟩ := I1.list isX
    obtain ⟨vs, rel2, p2, _⟩ := I1.tuple isY
    have isL : z1.heap.IsList a us.toArray := p1.isList
    have isT : z1.heap.IsTuple b vs.toArray := p2
    have la : a < z1.heap.objs.size := p1.lt
    have lb : b < z1.heap.objs.size := by
      obtain ⟨o, e, _⟩ := isT
      exact Heap.lt_size e
    refine zip_mixed isL isT fun h' gz gu gv g1 g2 kept => wpAny_pyIter_zip gz ?_
    have fresh : ∀ c ∈ [z1.heap.objs.size + 4, z1.heap.objs.size + 2, z1.heap.objs.size + 3, z1.heap.objs.size, z1.heap.objs.size + 1], FpOk X pins H1 c := fun c hc =>
      have far : z1.heap.objs.size ≤ c := five (p := fun c => z1.heap.objs.size ≤ c) hc (by omega) (by omega) (by omega) (by omega) (by omega)
      I1.fpOk far (I1.hok.fresh far)
    refine ⟨_, _, _, _, H1, rfl, I1.kept (t' := z1.toks) kept, turn_zipM (a := a) (b := b) (z := z1.heap.objs.size + 4) (u := z1.heap.objs.size + 2) (v := z1.heap.objs.size + 3) (i1 := z1.heap.objs.size) (i2 := z1.heap.objs.size + 1) ?_, ⟨gz, gu, ⟨_, _, gv⟩, g1, g2⟩, fresh, q⟩
    exact sep_of _ a b la lb
end L2.TB
namespace L2.TB
open PySem PySem.Spec PyProof.Rows
/-! the table's rows as dicts -/
def spDictOf (C : Addr) : Sp := fun vs H Q _ => ∃ (a p : Addr) (ns : List Str) (tbl : List (List Int)) (us : List Int), vs = [.ref a, .ref p] ∧ TabAt H C a ns tbl ∧ ns.Nodup ∧ ns.length < 1000 ∧ H p = some (.tup (us.map V.int)) ∧ us.length = ns.length ∧ ∀ H' d, H d = none → H' d = some (.dK (dk ns us)) → Same H H' → Q (.ref d) H'
def spRowsM (C : Addr) : Sp := fun vs H Q _ => ∃ (a : Addr) (ns : List Str) (tbl : List (List Int)), vs = [.ref a] ∧ TabAt H C a ns tbl ∧ ns.Nodup ∧ ns.length < 1000 ∧ tbl.length < 1000 ∧
  ∀ H' q as, H q = none → H' q = some (.lst ((as : List Addr).map V.ref)) → DRows H' ns as tbl → (∀ t ∈ as, H t = none) → Same H H' → Q (.ref q) H'
abbrev NDo : List Str := ["self", "row", "name", "answer"]
theorem scDictOf : FnScope NDo ["self", "row"] (defScope sDictOf) := ⟨rfl, rfl, rfl, by decide +kernel, rfl, by decide +kernel, by decide +kernel⟩
abbrev NRm : List Str := ["self", "row"]
theorem scRowsM : FnScope NRm ["self"] (defScope sRowsM) := ⟨rfl, rfl, rfl, by decide +kernel, rfl, by decide +kernel, by decide +kernel⟩
section
variable {P : Program} {w : World} {K : PySem.W.Frag} {mg : Str → Option Value} {base : Heap} {f C fD : Addr} {fd fdD : FuncData}
theorem ok_dictOf (F : Fun K "_dict_of" "Table._dict_of" sDictOf f fd) (T : TabC K C) (gZ : mg "zip" = none) : FnOk P w K mg base CX0 1 f fd ["self", "row"] (spDictOf C) := by
  refine F.ok scDictOf (fun vs H Q E h => by obtain ⟨a, p, ns, tbl, us, e, _⟩ := h; rw [e]; rfl) fun cdv A outer s H vs Q E hr hsp => ?_
  obtain ⟨a, p, ns, tbl, us, rfl, tab, nnd, nsh, hp, lu, hq⟩ := hsp
  obtain ⟨dx, qa, ra, ha, hqa, hra⟩ := tab.ex
  have nd := scDictOf.nd
  refine ⟨_, pss_one (ps_ret (pe_dc (own := [("name", 2), ("answer", 3)]) (tt := tYes) (g := gTup K 2 (gCons (gName 2) (gCons (gName 3) gNil))) (tk := tVar 2) (tv := tVar 3) rfl nd (pi_zipM rfl gZ (pa_cons (pe_fld (pv 0) rfl) (pa_cons (pv 1) pa_nil))) (blkOk_by (N := NDo) (sc := defScope sDictOf) (by decide +kernel))
    (fun _ _ _ _ _ => pg_tup rfl (pgs_cons (pg_name (i := 2) nd rfl (Or.inl rfl)) (pgs_cons (pg_name (i := 3) nd rfl (Or.inl rfl)) pgs_nil))) (fun _ _ _ _ _ => pts_nil) (fun _ _ _ _ _ => pv 2) (fun _ _ _ _ _ => pv 3))), ?_⟩
  have ldk : (dk ns us).length = ns.length := by
    unfold dk
    rw [List.length_map, List.length_zip]; omega
  refine ⟨_, rfl, a, C, dx, _, _, rfl, ha, T.cl, T.nQ, rfl, _, rfl, qa, p, ns.map V.str, us.map V.int, rfl, SqL.of hqa, SqT.of hp, ?_⟩
  refine dc_gen (Q := fun D H' => Q (.ref D) H') (dk ns us) (by omega) (dk_nd lu.symm nnd) (fun i H' k lt => ?_) (fun H' k => ⟨_, _, SqL.of (k _ _ hqa), SqT.of (k _ _ hp), by rw [List.length_map, ldk], by rw [List.length_map, ldk, lu]⟩) ?_ fun H' D nD oD k => hq H' D nD oD k
  · rw [ldk] at lt
    exact ⟨_, _, _, _, SqL.of (k _ _ hqa), SqT.of (k _ _ hp), List.getElem?_eq_getElem (by rw [List.length_map]; exact lt), List.getElem?_eq_getElem (by rw [List.length_map]; omega)⟩
  · rintro i x k v H2 H3 Cn Nn ekv s2 ⟨t, x1, x2, rfl, nt, rfl, g1, g2⟩ yes
    have e1 := g1 _ (SqL.of (s2 _ _ hqa))
    have e2 := g2 _ (SqT.of (s2 _ _ hp))
    obtain ⟨y, n, rfl, rfl, ey, _⟩ := dk_at ekv nnd lu.symm
    rw [List.getElem?_map, ey] at e1
    obtain rfl : V.str y = x1 := Option.some.inj e1
    have ex : x2 = V.int n := by
      unfold dk at ekv
      rw [List.getElem?_map] at ekv
      obtain ⟨z, ez, e⟩ := Option.map_eq_some_iff.mp ekv
      have ez : (ns.zip us)[i]? = some z := ez
      rw [List.getElem?_zip_eq_some] at ez
      have en : z.2 = n := V.int.inj (congrArg Prod.snd e)
      rw [List.getElem?_map, ez.2, Option.map_some, en] at e2
      exact (Option.some.inj e2).symm
    subst ex
    have st := same_new (o := .tup [V.str y, V.int n]) nt
    refine ⟨t, _, rfl, SqT.of upd_same, rfl, _, _, rfl, _, _, rfl, rfl, rfl, ?_⟩
    exact ⟨_, rfl, _, rfl, yes _ st⟩
theorem ok_rowsM (F : Fun K "rows" "Table.rows" sRowsM f fd) (T : TabC K C) (FD : Fun K "_dict_of" "Table._dict_of" sDictOf fD fdD) (mD : Meth K C "_dict_of" fD) (gZ : mg "zip" = none) : FnOk P w K mg base CX0 2 f fd ["self"] (spRowsM C) := by
  have GD : FnOk P w K mg base CX0 1 fD fdD ["self", "row"] (spDictOf C) := ok_dictOf FD T gZ
  have bD := FD.binds (ps := ["self", "row"]) fun _ _ _ _ _ _ us hl => match us, hl with | [_, _], _ => rfl
  refine F.ok scRowsM (fun vs H Q E h => by obtain ⟨a, ns, tbl, e, _⟩ := h; rw [e]; rfl) fun cdv A outer s H vs Q E hr hsp => ?_
  obtain ⟨a, ns, tbl, rfl, tab, nnd, nsh, tsh, hq⟩ := hsp
  obtain ⟨dx, qa, ra, ha, hqa, hra⟩ := id tab.ex
  obtain ⟨ps, hps, prs⟩ := hra
  have nd := scRowsM.nd
  have lp : ps.length = tbl.length := Paired.length prs
  refine ⟨_, pss_one (ps_ret (pe_lc (own := [("row", 1)]) (tt := tYes) rfl nd (pi_list (pe_fld (pv 0) rfl)) (blkOk_by (N := NRm) (sc := defScope sRowsM) (by decide +kernel)) (fun _ _ _ _ _ => pg_name (i := 1) nd rfl (Or.inl rfl)) (fun _ _ _ _ _ => pts_nil)
    (fun _ _ _ _ _ => pe_meth (pv 0) T.cl mD GD hr bD .nil pass0 (pa_cons (pv 1) pa_nil)))), ?_⟩
  refine ⟨_, rfl, a, C, dx, _, _, rfl, ha, T.cl, T.nR, rfl, ra, rfl, ⟨_, SqL.of hps⟩, ?_⟩
  refine lc_made (Q := fun D H' => Q (.ref D) H') tbl.length (by omega) (fun i H' k lt => ⟨_, _, SqL.of (k _ _ hps), List.getElem?_eq_getElem (by rw [List.length_map]; omega)⟩) (fun H' k => ⟨_, SqL.of (k _ _ hps), by rw [List.length_map]; omega⟩)
    (fun i y H' => ∃ t us, y = V.ref t ∧ tbl[i]? = some us ∧ H' t = some (.dK (dk ns us)) ∧ us.length = ns.length ∧ H t = none) ?_ ?_ ?_
  · rintro i y H2 H3 D l ⟨t, us, rfl, eu, ot, lu, nt⟩ oD keep
    exact ⟨t, us, rfl, eu, keep _ _ (ne_of ot oD (by intro z; cases z)) ot, lu, nt⟩
  · rintro i x H2 H3 Cn Nn lt s2 ⟨rfl, ex⟩ yes
    have ex := ex _ (SqL.of (s2 _ _ hps))
    rw [List.getElem?_map] at ex
    obtain ⟨p, ep, rfl⟩ := Option.map_eq_some_iff.mp ex
    obtain ⟨us, eu, op, lu⟩ := paired_get prs ep
    refine ⟨rfl, ?_⟩
    exact ⟨_, rfl, a, dx, _, rfl, s2 _ _ ha, rfl, _, rfl, a, p, ns, tbl, us, rfl, tab.same s2, nnd, nsh, s2 _ _ op, lu, fun H4 d nd od s4 => yes _ _ ⟨d, us, rfl, eu, od, lu, s2.free nd⟩ s4⟩
  · intro H2 D ys nD oD ly ry s2
    obtain ⟨as, rfl, pa⟩ := addrs_of (H := H2) (P := fun i t => (∃ us, tbl[i]? = some us ∧ H2 t = some (.dK (dk ns us)) ∧ us.length = ns.length) ∧ H t = none) ys 0 fun j y e => by
      obtain ⟨t, us, e1, e2, e3, e4, e5⟩ := ry j y e
      exact ⟨t, e1, ⟨us, by simpa using e2, e3, e4⟩, e5⟩
    refine hq H2 D as nD oD (paired_of as tbl (by rw [← ly, List.length_map]) fun i t us et eu => ?_) (fun t ht => ?_) s2
    rotate_left
    · obtain ⟨i, hi, e⟩ := List.getElem_of_mem ht
      exact (pa i t (by rw [List.getElem?_eq_getElem hi, e])).2
    obtain ⟨⟨us', e2, e3, e4⟩, _⟩ := pa i t et
    rw [Nat.zero_add, eu] at e2
    cases e2
    exact ⟨e3, e4⟩
end
end L2.TB
namespace L2.TB
open PySem PySem.Spec PyProof.Rows
/-! len, + and the answers at hand -/
/-- a table's facts besides -/
structure Wide (ns : List Str) (tbl : List (List Int)) : Prop where
  nd : ns.Nodup
  ne : ns ≠ []
  ok : ∀ x ∈ ns, NmOk x
  l1 : ns.length ≤ 10
  l2 : tbl.length ≤ 100
  t : tbl ≠ []
def spLen (C : Addr) : Sp := fun vs H Q _ => ∃ (a : Addr) (ns : List Str) (tbl : List (List Int)), vs = [.ref a] ∧ TabAt H C a ns tbl ∧ tbl.length < 1000 ∧ Q (.int tbl.length) H
def spAdd (C : Addr) : Sp := fun vs H Q _ => ∃ (a b : Addr) (ns : List Str) (t1 t2 : List (List Int)), vs = [.ref a, .ref b] ∧ TabAt H C a ns t1 ∧ TabAt H C b ns t2 ∧ Wide ns t1 ∧ t2.length ≤ 100 ∧
  ∀ H' c, H c = none → TabAt H' C c ns (t1 ++ t2) → Same H H' → Q (.ref c) H'
theorem scLen : FnScope ["self"] ["self"] (defScope sLen) := ⟨rfl, rfl, rfl, by decide +kernel, rfl, by decide +kernel, by decide +kernel⟩
theorem scAdd : FnScope ["self", "other"] ["self", "other"] (defScope sAdd) := ⟨rfl, rfl, rfl, by decide +kernel, rfl, by decide +kernel, by decide +kernel⟩
theorem paired_append {α β : Type} {R : α → β → Prop} : ∀ {xs xs' : List α} {ys ys' : List β}, Paired R xs ys → Paired R xs' ys' → Paired R (xs ++ xs') (ys ++ ys')
  | _, _, _, _, .nil, h => h
  | _, _, _, _, .cons h t, h' => .cons h (paired_append t h')
theorem DRows.append {H : Hp} {ns : List Str} {as bs : List Addr} {t1 t2 : List (List Int)} (r1 : DRows H ns as t1) (r2 : DRows H ns bs t2) : DRows H ns (as ++ bs) (t1 ++ t2) := paired_append r1 r2
section
variable {P : Program} {w : World} {K : PySem.W.Frag} {mg : Str → Option Value} {base : Heap} {f C fQ fI fR fD fO fG : Addr} {fd fdQ fdI fdR fdD fdO fdG : FuncData}
theorem ok_len (F : Fun K "__len__" "Table.__len__" sLen f fd) (T : TabC K C) (gN : mg "len" = none) : FnOk P w K mg base CX0 1 f fd ["self"] (spLen C) := by
  refine F.ok scLen (fun vs H Q E h => by obtain ⟨a, ns, tbl, e, _⟩ := h; rw [e]; rfl) fun cdv A outer s H vs Q E hr hsp => ?_
  obtain ⟨a, ns, tbl, rfl, tab, tsh, hq⟩ := hsp
  obtain ⟨dx, qa, ra, ha, hqa, ps, hps, prs⟩ := tab.ex
  refine ⟨_, pss_one (ps_ret (pe_callB call_len_seq rfl gN boot_len (pa_cons (pe_fld (pv 0) rfl) pa_nil))), ?_⟩
  refine ⟨_, rfl, a, C, dx, _, _, rfl, ha, T.cl, T.nR, rfl, ra, _, rfl, .inl (SqL.of hps), ?_⟩
  rw [List.length_map, Paired.length prs]
  exact hq
theorem ok_add (F : Fun K "__add__" "Table.__add__" sAdd f fd) (T : TabC K C) (IC : C8.InsC K C) (FQ : Fun K "questions" "Table.questions" sQs fQ fdQ) (mQ : Meth K C "questions" fQ) (GR : FnOk P w K mg base CX0 2 fR fdR ["self"] (spRowsM C)) (FR : Fun K "rows" "Table.rows" sRowsM fR fdR) (mR : Meth K C "rows" fR)
    (M : Mk K C fI) (GI : FnOk P w K mg base CX0 3 fI fdI ["self", "rows"] (spInit C)) (FI : Fun K "__init__" "Table.__init__" sInit fI fdI) (gC : mg "Table" = some (.ref C)) (gI : mg "isinstance" = none) (gL : mg "list" = none) : FnOk P w K mg base CX0 5 f fd ["self", "other"] (spAdd C) := by
  have GQ : FnOk P w K mg base CX0 1 fQ fdQ ["self"] (spQs K C) := ok_qs FQ T gL
  have bQ := FQ.binds (ps := ["self"]) fun _ _ _ _ _ _ us hl => match us, hl with | [_], _ => rfl
  have bR := FR.binds (ps := ["self"]) fun _ _ _ _ _ _ us hl => match us, hl with | [_], _ => rfl
  have bI := FI.binds (ps := ["self", "rows"]) fun _ _ _ _ _ _ us hl => match us, hl with | [_, _], _ => rfl
  refine F.ok scAdd (fun vs H Q E h => by obtain ⟨a, b, ns, t1, t2, e, _⟩ := h; rw [e]; rfl) fun cdv A outer s H vs Q E hr hsp => ?_
  obtain ⟨a, b, ns, t1, t2, rfl, ta, tb, W, l2, hq⟩ := hsp
  obtain ⟨dx, qa, ra, ha, hqa, hra⟩ := id ta.ex
  obtain ⟨dy, qb, rb, hb, hqb, hrb⟩ := id tb.ex
  have hu64 := hr.units
  refine ⟨_, pss_cons (ps_if (pt_not (pt_val (pe_callB (C8.call_isC IC) rfl gI boot_isi (pa_cons (pv 1) (pa_cons (pe_glob (v := .ref C) rfl gC rfl) pa_nil))))) (pss_one ps_never) pss_nil)
    (pss_cons (ps_if (pt_cmpR (op_neD hu64) (pe_meth0 (pv 0) T.cl mQ GQ (hr.mono (by decide)) bQ .nil pass0) (pe_meth0 (pv 1) T.cl mQ GQ (hr.mono (by decide)) bQ .nil pass0) (nomark _)) (pss_one ps_never) pss_nil)
    (pss_one (ps_ret (pe_make M GI hr rfl gC bI .nil pass0 (pa_cons (pe_op op_cat (pe_meth0 (pv 0) T.cl mR GR (hr.mono (by decide)) bR .nil pass0) (pe_meth0 (pv 1) T.cl mR GR (hr.mono (by decide)) bR .nil pass0)) pa_nil))))), ?_⟩
  refine ⟨_, rfl, b, dy, _, rfl, hb, _, rfl, iteF ?_⟩
  refine ⟨_, rfl, a, dx, _, rfl, ha, rfl, a, ns, t1, rfl, ta, fun H1 q1 n1 o1 k1 => ?_⟩
  refine ⟨_, rfl, b, dy, _, rfl, k1 _ _ hb, rfl, b, ns, t2, rfl, tb.same k1, fun H2 q2 n2 o2 k2 => ?_⟩
  have tok : ∀ x ∈ ns, PyData.strOk x = true := fun x hx => nm_strOk (W.ok x hx)
  refine ⟨_, _, dp_list (k2 _ _ o1), dp_list o2, strs_shaped _ tok, strs_shaped _ tok, _, rfl, ?_⟩
  rw [strs_eqv, decide_eq_true rfl]
  refine iteF ?_
  have k12 := k1.trans k2
  have w1 := W.l1
  have w2 := W.l2
  refine ⟨_, rfl, a, dx, _, rfl, k12 _ _ ha, rfl, a, ns, t1, rfl, ta.same k12, W.nd, by omega, by omega, fun H3 r1 as nr1 or1 d1 _ k3 => ?_⟩
  refine ⟨_, rfl, b, dy, _, rfl, k3 _ _ (k12 _ _ hb), rfl, b, ns, t2, rfl, (tb.same k12).same k3, W.nd, by omega, by omega, fun H4 r2 bs nr2 or2 d2 _ k4 => ?_⟩
  have la := Paired.length d1
  have lb := Paired.length d2
  refine ⟨r1, r2, _, _, rfl, rfl, k4 _ _ or1, or2, by rw [sizeLine_eq, List.length_map, List.length_map]; omega, fun p np => ?_⟩
  have kp := same_new (o := .lst (as.map V.ref ++ bs.map V.ref)) np
  have op : upd H4 p (.lst (as.map V.ref ++ bs.map V.ref)) p = some (.lst ((as ++ bs).map V.ref)) := by rw [upd_same, List.map_append]
  have dd : DRows (upd H4 p (.lst (as.map V.ref ++ bs.map V.ref))) ns (as ++ bs) (t1 ++ t2) := ((d1.same k4).append d2).same kp
  have k5 : Same H (upd H4 p (.lst (as.map V.ref ++ bs.map V.ref))) := ((k12.trans k3).trans k4).trans kp
  generalize upd H4 p (.lst (as.map V.ref ++ bs.map V.ref)) = H5 at op dd k5
  refine fun x dx nx ndx nex => ?_
  have kx : Same H5 (upd (upd H5 dx (.own x)) x (.ins C dx [])) := fun b o e => by rw [upd_ne (ne_of_none e nx), upd_ne (ne_of_none e ndx)]; exact e
  refine ⟨x, dx, p, as ++ bs, ns, t1 ++ t2, rfl, upd_same, kx _ _ op, dd.same kx, by simp [W.t], by rw [List.length_append]; omega, W.ne, W.nd, W.ok, by omega, fun H6 T6 fr => ⟨rfl, ?_⟩⟩
  exact hq H6 x (k5.free nx) T6 fun b o e => fr b o (ne_of_none (k5 _ _ e) nx) (kx _ _ (k5 _ _ e))
/-! the answers at hand -/
def gvn (ns known : List Str) (us : List Int) : List (Key × V) := known.map fun x => ((Sum.inr x : Key), V.int (av ns us x))
theorem gvn_keys (ns known : List Str) (us : List Int) : (gvn ns known us).map (·.1) = known.map Sum.inr := by unfold gvn; rw [List.map_map]; rfl
theorem gvn_nd {ns known : List Str} {us : List Int} (nd : known.Nodup) : ((gvn ns known us).map (·.1)).Nodup := by
  rw [gvn_keys]
  exact List.Pairwise.map Sum.inr (fun a b h e => h (Sum.inr.inj e)) nd
theorem gvn_val {ns known : List Str} {us : List Int} {x : Str} (nd : known.Nodup) (h : x ∈ known) : valV (gvn ns known us) (Sum.inr x) = some (.int (av ns us x)) :=
  val_at _ _ _ (gvn_nd nd) (List.mem_map_of_mem (f := fun x => ((Sum.inr x : Key), V.int (av ns us x))) h)
theorem gvn_at {ns known : List Str} {us : List Int} {i : Nat} {k : Key} {v : V} (nd : known.Nodup) (h : (gvn ns known us)[i]? = some (k, v)) : ∃ x, k = Sum.inr x ∧ known[i]? = some x ∧ valV (gvn ns known us) (Sum.inr x) = some (.int (av ns us x)) := by
  have h2 := h
  unfold gvn at h2
  rw [List.getElem?_map] at h2
  obtain ⟨x, ex, e⟩ := Option.map_eq_some_iff.mp h2
  cases e
  exact ⟨x, rfl, ex, gvn_val nd (List.mem_of_getElem? ex)⟩
theorem gvn_len (ns known : List Str) (us : List Int) : (gvn ns known us).length = known.length := by unfold gvn; rw [List.length_map]
def spCkAns (C : Addr) : Sp := fun vs H Q _ => ∃ (a g : Addr) (ns known : List Str) (us : List Int) (tbl : List (List Int)), vs = [.ref a, .ref g] ∧ TabAt H C a ns tbl ∧ H g = some (.dK (gvn ns known us)) ∧ known.Nodup ∧ (∀ x ∈ known, x ∈ ns) ∧ known.length < 1000 ∧ ∀ H', Same H H' → Q .non H'
abbrev NCa : List Str := ["self", "thing", "name"]
theorem scCkAns : FnScope NCa ["self", "thing"] (defScope sCkAns) := ⟨rfl, rfl, rfl, by decide +kernel, rfl, by decide +kernel, by decide +kernel⟩
theorem ok_ckAns (F : Fun K "_check_answers" "Table._check_answers" sCkAns f fd) (T : TabC K C) (FO : Fun K "is_one_of" "is_one_of" sIsOne fO fdO) (gIO : mg "is_one_of" = some (.ref fO)) (FG : Fun K "is_integer" "is_integer" sIsInt fG fdG) (gIG : mg "is_integer" = some (.ref fG))
    (gI : mg "isinstance" = none) (gD : mg "dict" = none) (gA : mg "all" = none) (gS : mg "str" = none) (gInt : mg "int" = none) (gB : mg "bool" = none) : FnOk P w K mg base CX0 2 f fd ["self", "thing"] (spCkAns C) := by
  have GO : FnOk P w K mg base CX0 1 fO fdO ["names", "thing"] (spIsOne K) := ok_isOne FO gI gS
  have bO := FO.binds (ps := ["names", "thing"]) fun _ _ _ _ _ _ us hl => match us, hl with | [_, _], _ => rfl
  have GG : FnOk P w K mg base CX0 1 fG fdG ["thing"] spIsInt := ok_isInt FG gI gInt gB
  have bG := FG.binds (ps := ["thing"]) fun _ _ _ _ _ _ us hl => match us, hl with | [_], _ => rfl
  refine F.ok scCkAns (fun vs H Q E h => by obtain ⟨a, g, ns, known, us, tbl, e, _⟩ := h; rw [e]; rfl) fun cdv A outer s H vs Q E hr hsp => ?_
  obtain ⟨a, g, ns, known, us, tbl, rfl, tab, og, knd, sub, ksh, hq⟩ := hsp
  obtain ⟨dx, qa, ra, ha, hqa, hra⟩ := id tab.ex
  have nd := scCkAns.nd
  have hu := hu_of hr
  refine ⟨_, pss_cons (ps_if (pt_not (pt_val (pe_callB (r := rIsi K) call_isi rfl gI boot_isi (pa_cons (pv 1) (pa_cons (pe_bltn (v := .ty "dict") rfl gD boot_dict' rfl) pa_nil))))) (pss_one ps_never) pss_nil)
    (pss_one (ps_if (pt_not (pt_val (pe_callB (cr_all rfl) rfl gA boot_all' (pa_cons (pe_lock (pe_lc (own := [("name", 2)]) (tt := tYes) (g := gName 2) (wi := iKeys (tVar 1)) (te := tAndV (tCall (spIsOne K) [] E0 (tCons (tFld K (tVar 0) "_questions") (tCons (tVar 2) tNil))) (tCall spIsInt [] E0 (tCons (tDGet (tVar 1) (tVar 2)) tNil))) rfl nd (pi_keys (pv 1)) (blkOk_by (N := NCa) (sc := defScope sCkAns) (by decide +kernel)) (fun _ _ _ _ _ => pg_name (i := 2) nd rfl (Or.inl rfl)) (fun _ _ _ _ _ => pts_nil)
      (fun _ _ _ _ _ => pe_and (pe_call GO hr rfl gIO FO.kp bO .nil pass0 (pa_cons (pe_fld (pv 0) rfl) (pa_cons (pv 2) pa_nil))) (pe_one (pe_call GG hr rfl gIG FG.kp bG .nil pass0 (pa_cons (pe_dget hu (pv 1) (pv 2) (fun _ _ => rfl)) pa_nil)))))) pa_nil)))) (pss_one ps_never) pss_nil)), ?_⟩
  refine ⟨_, rfl, _, _, _, _, true, rfl, .ty _, .base (.dK og), kit_ty (by decide +kernel), _, rfl, iteF ?_⟩
  have ga : a ≠ g := ne_of ha og (by intro z; cases z)
  have gq : qa ≠ g := ne_of hqa og (by intro z; cases z)
  refine ⟨g, _, og, trivial, fun od => ⟨_, rfl, g, od, rfl, .inl ⟨_, upd_same, lc_gen (bools known.length) (by rw [bools_len]; omega) (fun j H' s lt => ⟨s _ _ upd_same, by rw [gvn_len]; rw [bools_len] at lt; exact lt⟩) (fun H' s => ⟨s _ _ upd_same, by rw [gvn_len, bools_len]; exact Nat.le_refl _⟩) ?_ ?_⟩⟩⟩
  · rintro j v y H4 H5 Cn Nn ey s4 ⟨rfl, k, w', ek, rfl⟩ yes
    obtain ⟨rfl, lt⟩ := bools_at ey
    obtain ⟨x, rfl, ex, hv⟩ := gvn_at knd ek
    have xin := sub x (List.mem_of_getElem? ex)
    refine ⟨rfl, ?_⟩
    refine ⟨_, rfl, a, C, dx, _, _, rfl, s4 _ _ (by rw [upd_ne ga]; exact ha), T.cl, T.nQ, rfl, _, rfl, qa, ns, x, rfl, SqL.of (s4 _ _ (by rw [upd_ne gq]; exact hqa)), _, rfl, ?_⟩
    rw [decide_eq_true xin]
    refine iteT ?_
    exact ⟨_, rfl, _, rfl, g, _, rfl, .inl ⟨_, Sum.inr x, .inr ⟨_, s4 _ _ upd_same⟩, rfl, hv.symm⟩, _, rfl, yes _ (Same.refl _)⟩
  · intro H4 D nD oD s4
    obtain ⟨b1, s34⟩ := lock_off og s4
    have Da : D ≠ g := fun z => by rw [z, upd_same] at nD; cases nD
    rw [bools_map] at oD
    refine ⟨b1, D, _, rfl, SqL.of (by rw [upd_ne Da]; exact oD), _, rfl, ?_⟩
    rw [all_true]
    exact iteF (hq _ s34)
end
end L2.TB
namespace L2.TB
open PySem
open PySem.Spec PyProof.Rows PpSet
/-! {elt for target in iter if ..}: elements of any kind, by what set.add asks of them -/
abbrev newSetObj (w : World) : Obj := { cls := .type "set", dict := none, data := .set #[] 0 (.fresh 0 0 (!w.params.followText "set-order")) }
/-- a kind of set: the new one's record, and what adding asks and leaves -/
structure Kind (P : Program) (w : World) where
  rec0 : Addr → HO
  asks : Addr → V → Hp → (Hp → Prop) → Prop
  new : ∀ (H : Hp) (h : Heap), ObjOk P w H (h.push (newSetObj w)) h.objs.size (rec0 h.objs.size)
  add : ∀ (X : Cx) (pins : List (Addr × Obj)) (σ : L2.St) (H : Hp) (s : Shared) (E : Value → Shared → Prop) (D : Addr) (y : V) (u : Value) (N : Hp → Prop) (Q : Value → Shared → Prop), X.prog = P → X.w = w → Inv X pins σ H s → RelV y u → asks D y H N →
    (∀ v s' H', Inv X pins σ H' s' → N H' → Q v s') → wpAny (model P w) X.A (call (.builtin "set.add") [.ref D, u]) Q E s
/-- sets of whole numbers -/
def intSets (P : Program) (w : World) : Kind P w where
  rec0 D := SetO w D (fun _ => false) 0
  asks D y H N := ∃ (k : Int) (S : Int → Bool) (n : Nat), y = .int k ∧ H D = some (SetO w D S n) ∧ n + 1 < scanBound ∧ N (upd H D (SetO w D (fun j => S j || decide (j = k)) (if S k = true then n else n + 1)))
  new H h := setO_new (setR_fresh w)
  add := by
    rintro X pins σ H s E D y u N Q rfl rfl I rel ⟨k, S, n, rfl, isS, room, nxt⟩ fin
    obtain ⟨tk, rfl⟩ := rel
    refine setR_add (setO_get I isS) room fun h' but R => fin _ _ _ ?_ nxt
    have there : ∃ o, h'.get? D = some o := R.elim fun o r => r.elim fun _ r => r.elim fun _ r => r.elim fun _ r => ⟨o, r.1⟩
    exact I.write (e := D) (t' := s.toks + 1) (by rw [isS]; exact trivial) (.inl rfl) (fun b o away e => (but.2 b away).trans e) there (setO_new R)
/-- the reading -/
def tScG {P : Program} {w : World} (G : Kind P w) (wi : TI) (g : TG) (tt : TT) (te : TE) (vs : List Nat) : TE := fun σ H Q => wi σ H fun J H1 => ∀ D, H1 D = none →
  ∃ W : Nat → Nat → Hp → Prop, (∃ m, W 0 m (upd H1 D (G.rec0 D))) ∧ ∀ i m H, W i m H → (J.stop i H ∧ Q (.ref D) H) ∨ (J.go i H ∧ ∃ N : Hp → Prop, (∀ H', N H' → ∃ m', m' < m ∧ W (i + 1) m' H') ∧
    ∀ x H', J.yld i H x H' → g x (wipe σ vs) H' fun σ2 H2 => wipe σ2 vs = wipe σ vs ∧ tt σ2 H2 fun b H3 => if b = true then te σ2 H3 fun y H4 => G.asks D y H4 N else N H3)
theorem pe_scG {X : Cx} (G : Kind X.prog X.w) {elt tg iter : Expr} {ifs : List Expr} {scope : Scope} {own : List (PySem.Str × Nat)} {pos : Pos} {wi : TI} {g : TG} {tt : TT} {te : TE} (calm : X.calm = true) (nd : X.N.Nodup) (hi : PI X tg iter wi) (blk : BlkOk X.N X.env.scope scope own)
    (hg : ∀ (s : Shared) (H : Hp) (C : Addr) (cl : List (PySem.Str × Addr)) (fp : List Addr), PG (X.blk s H scope (compEnvC scope cl C X.env) fp) tg g)
    (ht : ∀ (s : Shared) (H : Hp) (C : Addr) (cl : List (PySem.Str × Addr)) (fp : List Addr), PTs (X.blk s H scope (compEnvC scope cl C X.env) fp) ifs tt)
    (he : ∀ (s : Shared) (H : Hp) (C : Addr) (cl : List (PySem.Str × Addr)) (fp : List Addr), PE (X.blk s H scope (compEnvC scope cl C X.env) fp) elt te)
    (fold : ∀ x, foldedSetIterable iter X.env x = pure x := by intro _; rfl) : PE X (.SetComp elt [⟨tg, iter, ifs, 0⟩] scope pos) (tScG G wi g tt te (own.map (·.2))) := by
  refine PE.mk fun pins s σ H Q I reading => ?_
  rw [eval_SetComp]
  have cellsThere : ∀ y ∈ scope.names, y.2 = .free → ∃ c, X.env.cells.lookup y.1 = some c := fun y hy e => I.ok.has _ (blk.free y hy e)
  refine wpAny_comprehension_free (use := none) rfl fold (closure_ok cellsThere) blk.kind (fun y hy e => e ▸ blk.uniq y hy) (thn (hi.run pins s σ H _ I reading) fun xv s1 hx => thn hx fun itv s2 walk => ?_)
  obtain ⟨it, fp, tn, J, H2, rfl, I2, T, tn2, room2, more⟩ := walk
  refine newSet_ok (newEnv_comp ?_)
  obtain ⟨D, isD⟩ : ∃ D, D = s2.heap.objs.size := ⟨_, rfl⟩
  have noD : H2 D = none := I2.hok.fresh (Nat.le_of_eq isD.symm)
  obtain ⟨W, ⟨m0, W0⟩, turn⟩ := more D noD
  obtain ⟨s3, isS3⟩ : ∃ s3 : Shared, s3 = { s2 with heap := s2.heap.push (newSetObj X.w) } := ⟨_, rfl⟩
  obtain ⟨H3, isH3⟩ : ∃ H3, H3 = upd H2 D (G.rec0 D) := ⟨_, rfl⟩
  have heap3 : s3.heap = s2.heap.push (newSetObj X.w) := by rw [isS3]
  have kept3 : ∀ b o, s2.heap.get? b = some o → s3.heap.get? b = some o := fun b o e => by rw [heap3]; exact Heap.get?_push_of_some _ e
  have I3 : Inv X pins σ H3 s3 := by
    rw [isS3, isH3]
    exact I2.laid (t' := s2.toks) (fun b o e => Heap.get?_push_of_some _ e) (Nat.le_of_eq isD.symm) (by subst isD; exact G.new _ _)
  have room3 : ∀ b ∈ fp, FpOk X pins H3 b ∧ b < s3.heap.objs.size := fun b hb => by
    have low : b < s2.heap.objs.size := (T.obj _ _ tn2 b hb).elim fun _ e => Heap.lt_size e.1
    refine ⟨⟨?_, (room2 b hb).2⟩, by rw [heap3, Heap.size_push]; exact Nat.lt_succ_of_lt low⟩
    rw [isH3, upd_ne (by rw [isD]; exact Nat.ne_of_lt low)]
    exact (room2 b hb).1
  have tn3 : tn 0 s3.heap := T.keep _ _ _ tn2 fun b _ o e => kept3 b o e
  have I4 := block_start I3 blk nd room3
  rw [← isS3, ← isD]
  rw [← isH3] at W0
  have pg := hg s3 H3 s3.heap.objs.size (cellsFrom (s3.heap.objs.size + 1) scope.names (cloFrom X.env.cells scope.names [])) fp
  have pt := ht s3 H3 s3.heap.objs.size (cellsFrom (s3.heap.objs.size + 1) scope.names (cloFrom X.env.cells scope.names [])) fp
  have pe := he s3 H3 s3.heap.objs.size (cellsFrom (s3.heap.objs.size + 1) scope.names (cloFrom X.env.cells scope.names [])) fp
  show codeAny _ _ (.compStart (.SetComp elt [⟨tg, iter, ifs, 0⟩] scope pos) 0 (.ref it) (.ref D) (compEnvC scope (cellsFrom (s3.heap.objs.size + 1) scope.names (cloFrom X.env.cells scope.names [])) s3.heap.objs.size X.env)) (compPost (model X.prog X.w) X.A X.xe none (EP X pins σ Q) (.ref D) s3.heap.objs.size) { s3 with heap := pushCells (s3.heap.push { cls := .type "dict", data := .dict #[] }) scope.names }
  obtain ⟨ce, isCe⟩ : ∃ ce, ce = compEnvC scope (cellsFrom (s3.heap.objs.size + 1) scope.names (cloFrom X.env.cells scope.names [])) s3.heap.objs.size X.env := ⟨_, rfl⟩
  have locs : ce.locals = s3.heap.objs.size := by rw [isCe]; rfl
  rw [← isCe] at I4 pg pt pe ⊢
  obtain ⟨s4, isS4⟩ : ∃ s4 : Shared, s4 = { s3 with heap := pushCells (s3.heap.push { cls := .type "dict", data := .dict #[] }) scope.names } := ⟨_, rfl⟩
  rw [← isS4] at I4 ⊢
  have tn4 : tn 0 s4.heap := T.keep _ _ _ tn3 fun b _ o e => by rw [isS4]; exact pushCells_keeps _ _ _ _ (Heap.get?_push_of_some _ e)
  have away : ∀ b ∈ fp, H3 b = none := fun b hb => (room3 b hb).1.1
  have roomB : ∀ {σ' : L2.St} {H' : Hp} {s' : Shared}, Inv (X.blk s3 H3 scope ce fp) [] σ' H' s' → (∀ b ∈ fp, H' b = none) → ∀ b ∈ fp, FpOk (X.blk s3 H3 scope ce fp) [] H' b := fun IB no b hb =>
    ⟨no b hb, (IB.ok.exf b hb).1, IB.ok.exfs b hb, .inl hb, fun x c e => (IB.ok.exf b hb).2 x c e, fun p hp => nomatch hp⟩
  have loop : codeAny (model X.prog X.w) X.A (.compLoop (.SetComp elt [⟨tg, iter, ifs, 0⟩] scope pos) 0 (.ref it) (.ref D) ce) (compPost (model X.prog X.w) X.A X.xe none (EP X pins σ Q) (.ref D) s3.heap.objs.size) s4 := by
    refine compLoopS_any (fun n z => ∃ i H', Inv (X.blk s3 H3 scope ce fp) [] (wipe σ (own.map (·.2))) H' z ∧ tn i z.heap ∧ (∀ b ∈ fp, H' b = none) ∧ W i n H') ?_ m0 ⟨0, H3, I4, tn4, away, W0⟩
    rintro n s5 ⟨i, H5, I5, tn5, no5, W5⟩
    rcases turn i n H5 W5 with ⟨stop, out⟩ | ⟨go, N, less, step⟩
    · refine thnF (T.done (X.blk s3 H3 scope ce fp) rfl rfl rfl calm i [] s5 _ H5 (fun _ _ => False) I5 (roomB I5 no5) tn5 stop) fun r s6 last => ?_
      obtain ⟨rfl, I6⟩ := last
      have back : Inv X pins σ H5 s6 := I3.call' (ch := fp) I6.os I6.base I6.hok I6.bare fun b hb => let ⟨_, q1, _, q3, q4, q5⟩ := (room3 b hb).1; ⟨q3, q1, q4, q5⟩
      have noC : H5 s3.heap.objs.size = none := locs ▸ I6.free
      obtain ⟨m, isNs, _⟩ := I6.loc
      have isNs : s6.heap.Ns s3.heap.objs.size m := locs ▸ isNs
      obtain ⟨q0, q1, q2, q3, q4, q5⟩ := I3.fpOk (Nat.le_refl _) noC
      exact ⟨m, isNs, fun h'' but => ⟨.ref D, H5, back.turned (t' := s6.toks) (fun b o hb e => (but.2 b hb).trans e) q0 q1 q3 q4 q5, rfl, out⟩⟩
    · refine thnF (T.item (X.blk s3 H3 scope ce fp) rfl rfl rfl calm i [] s5 _ H5 (fun _ _ => False) I5 (roomB I5 no5) tn5 go) fun r s6 got => ?_
      obtain ⟨u, rfl, got⟩ := got
      refine thnF got fun _ s7 ⟨x, H7, I7, relX, yld, tn7, no7⟩ => ?_
      have I7p := I7.pinned (roomB I7 no7) (T.obj _ _ tn7)
      refine thnF (pg.run _ s7 _ H7 x u _ I7p relX (step x H7 yld)) fun _ s8 ⟨σ8, H8, I8, same8, q8⟩ => ?_
      refine thnF (pt.run _ s8 σ8 H8 _ I8 q8) fun b s9 ⟨H9, I9, q9⟩ => ?_
      have next : ∀ {z : Shared} {H' : Hp}, Inv (X.blk s3 H3 scope ce fp) ([] ++ pinsAt fp s7.heap) σ8 H' z → N H' → ∃ m, m < n ∧ ∃ i H', Inv (X.blk s3 H3 scope ce fp) [] (wipe σ (own.map (·.2))) H' z ∧ tn i z.heap ∧ (∀ b ∈ fp, H' b = none) ∧ W i m H' := by
        intro z H' I' nx
        obtain ⟨m', lt, w'⟩ := less H' nx
        have pin : ∀ b ∈ fp, ∀ o, s7.heap.get? b = some o → z.heap.get? b = some o ∧ H' b = none := fun b hb o e =>
          have q := I'.pin (b, o) (List.mem_append_right _ (List.mem_append_right _ (mem_pinsAt hb e)))
          ⟨q.1, q.2.1⟩
        refine ⟨m', lt, i + 1, H', (I'.unpinned (pins := [])).weak (by rw [← same8, wipe_length]) (fun j v e => (wipe_some (same8 ▸ e)).1), T.keep _ _ _ tn7 (fun b hb o e => (pin b hb o e).1), fun b hb => ?_, w'⟩
        exact (T.obj _ _ tn7 b hb).elim fun o e => (pin b hb o e.1).2
      cases b with
      | false =>
        simp only [Bool.false_eq_true, if_false] at q9 ⊢
        exact next I9 q9
      | true =>
        simp only [if_true] at q9 ⊢
        refine thnF (pe.run _ s9 σ8 H9 _ I9 q9) fun v s10 ⟨y, H10, I10, relY, put⟩ => ?_
        exact G.add (X.blk s3 H3 scope ce fp) _ _ _ _ _ D y v N _ rfl rfl I10 relY put fun _ s11 H11 I11 nx => next I11 nx
  exact codeAny_compStart_set loop (T.self X.A 0 _ _ _ tn4 loop)
end L2.TB
namespace L2.TB
open PySem PySem.Spec PyProof.Rows
/-! rows that are left -/
def agree (ns known : List Str) (us u : List Int) : Bool := decide (keyR ns known u = keyR ns known us)
def leftL (ns known : List Str) (us : List Int) (tbl : List (List Int)) : List Nat := (List.range tbl.length).filter fun i => agree ns known us (tbl.getD i [])
def leftO (ns known : List Str) (us : List Int) (tbl : List (List Int)) : List (Option V) := (List.range tbl.length).map fun i => if agree ns known us (tbl.getD i []) = true then some (V.int (i : Nat)) else none
theorem opt_list {α : Type} (f : α → Bool) (g : α → V) : ∀ l : List α, (l.map fun y => if f y = true then some (g y) else none).filterMap id = (l.filter f).map g
  | [] => rfl
  | a :: l => by
    have ih := opt_list f g l
    rw [List.map_cons, List.filter_cons]
    by_cases h : f a = true
    · rw [if_pos h, if_pos h, List.map_cons, ← ih]; rfl
    · rw [if_neg h, if_neg h, ← ih]; rfl
theorem left_list (ns known : List Str) (us : List Int) (tbl : List (List Int)) : (leftO ns known us tbl).filterMap id = (leftL ns known us tbl).map fun i => V.int (i : Nat) := opt_list _ _ _
theorem leftO_len (ns known : List Str) (us : List Int) (tbl : List (List Int)) : (leftO ns known us tbl).length = tbl.length := by unfold leftO; rw [List.length_map, List.length_range]
theorem leftO_at {ns known : List Str} {us : List Int} {tbl : List (List Int)} {i : Nat} {o : Option V} (h : (leftO ns known us tbl)[i]? = some o) : ∃ u, tbl[i]? = some u ∧ o = if agree ns known us u = true then some (V.int (i : Nat)) else none := by
  unfold leftO at h
  rw [List.getElem?_map] at h
  obtain ⟨j, ej, e⟩ := Option.map_eq_some_iff.mp h
  have lt : i < tbl.length := by
    have := (List.getElem?_eq_some_iff.mp ej).1
    simpa using this
  have ji : j = i := by
    rw [List.getElem?_range lt] at ej
    exact (Option.some.inj ej).symm
  subst ji
  refine ⟨tbl[j], List.getElem?_eq_getElem lt, ?_⟩
  rw [← e, List.getD_eq_getElem?_getD, List.getElem?_eq_getElem lt]
  rfl
theorem left_mem {ns known : List Str} {us : List Int} {tbl : List (List Int)} {i : Nat} : i ∈ leftL ns known us tbl ↔ ∃ u, tbl[i]? = some u ∧ keyR ns known u = keyR ns known us := by
  unfold leftL agree
  rw [List.mem_filter, List.mem_range, decide_eq_true_eq, List.getD_eq_getElem?_getD]
  constructor
  · rintro ⟨lt, e⟩
    refine ⟨tbl[i], List.getElem?_eq_getElem lt, ?_⟩
    rw [List.getElem?_eq_getElem lt] at e
    exact e
  · rintro ⟨u, eu, e⟩
    refine ⟨(List.getElem?_eq_some_iff.mp eu).1, ?_⟩
    rw [eu]
    exact e
theorem all_agree (ns known : List Str) (us u : List Int) : (known.map fun x => decide (av ns u x = av ns us x)).all id = agree ns known us u := by
  unfold agree keyR
  rw [Bool.eq_iff_iff, List.all_map, List.all_eq_true, decide_eq_true_eq, List.map_inj_left]
  constructor
  · intro h x hx
    exact of_decide_eq_true (h x hx)
  · intro h x hx
    exact decide_eq_true (h x hx)
def spLeft (C : Addr) : Sp := fun vs H Q _ => ∃ (a g : Addr) (ns known : List Str) (us : List Int) (tbl : List (List Int)), vs = [.ref a, .ref g] ∧ TabAt H C a ns tbl ∧ Wide ns tbl ∧ H g = some (.dK (gvn ns known us)) ∧ known.Nodup ∧ (∀ x ∈ known, x ∈ ns) ∧
  ∀ H' q, H q = none → H' q = some (.lst ((leftL ns known us tbl).map fun i => V.int (i : Nat))) → Same H H' → Q (.ref q) H'
abbrev NLe : List Str := ["self", "answers", "index", "row", "name"]
theorem scLeft : FnScope NLe ["self", "answers"] (defScope sLeft) := ⟨rfl, rfl, rfl, by decide +kernel, rfl, by decide +kernel, by decide +kernel⟩
abbrev scLe : Scope := { kind := ScopeKind.function, names := [(Str.ofString ".0", NameKind.local), (Str.ofString "index", NameKind.local), (Str.ofString "row", NameKind.cell), (Str.ofString "all", NameKind.globalImplicit), (Str.ofString "answers", NameKind.cell)], isGenerator := false, isCoroutine := false }
theorem nodup_short {known ns : List Str} (nd : known.Nodup) (sub : ∀ x ∈ known, x ∈ ns) : known.length ≤ ns.length := by
  have h := List.Nodup.length_le_of_subset nd (fun x hx => sub x hx)
  exact h
theorem dk_len {ns : List Str} {us : List Int} (h : us.length = ns.length) : (dk ns us).length = ns.length := by
  unfold dk
  rw [List.length_map, List.length_zip]; omega
section
variable {P : Program} {w : World} {K : PySem.W.Frag} {mg : Str → Option Value} {base : Heap} {f C fR fA fL fK : Addr} {fd fdR fdA fdL fdK : FuncData}
theorem ok_left (F : Fun K "left" "Table.left" sLeft f fd) (T : TabC K C) (GR : FnOk P w K mg base CX0 2 fR fdR ["self"] (spRowsM C)) (FR : Fun K "rows" "Table.rows" sRowsM fR fdR) (mR : Meth K C "rows" fR)
    (GA : FnOk P w K mg base CX0 2 fA fdA ["self", "thing"] (spCkAns C)) (FA : Fun K "_check_answers" "Table._check_answers" sCkAns fA fdA) (mA : Meth K C "_check_answers" fA) (gE : mg "enumerate" = none) (gA : mg "all" = none) : FnOk P w K mg base CX0 3 f fd ["self", "answers"] (spLeft C) := by
  have bR := FR.binds (ps := ["self"]) fun _ _ _ _ _ _ us hl => match us, hl with | [_], _ => rfl
  have bA := FA.binds (ps := ["self", "thing"]) fun _ _ _ _ _ _ us hl => match us, hl with | [_, _], _ => rfl
  refine F.ok scLeft (fun vs H Q E h => by obtain ⟨a, g, ns, known, us, tbl, e, _⟩ := h; rw [e]; rfl) fun cdv A outer s H vs Q E hr hsp => ?_
  obtain ⟨a, g, ns, known, us, tbl, rfl, tab, W, og, knd, sub, hq⟩ := hsp
  obtain ⟨dx, qa, ra, ha, hqa, hra⟩ := id tab.ex
  have nd := scLeft.nd
  have hu := hu_of hr
  have w1 := W.l1
  have w2 := W.l2
  have kl : known.length ≤ ns.length := nodup_short knd sub
  refine ⟨_, pss_cons (ps_expr (pe_meth (pv 0) T.cl mA GA hr bA .nil pass0 (pa_cons (pv 1) pa_nil)))
    (pss_one (ps_ret (pe_lc (own := [("index", 2), ("row", 3)]) (te := tVar 2) (g := gTup K 2 (gCons (gName 2) (gCons (gName 3) gNil))) (tt := tB (tCB (rAll K) (tCons (tLockE (tLc (iKeys (tVar 1)) (gName 4) tYes (tOp rEq (tDGet (tVar 3) (tVar 4)) (tDGet (tVar 1) (tVar 4))) [4])) tNil))) rfl nd
      (pi_enum rfl gE (pa_cons (pe_meth0 (pv 0) T.cl mR GR hr bR .nil pass0) pa_nil)) (blkOk_by (N := NLe) (sc := defScope sLeft) (by decide +kernel))
      (fun _ _ _ _ _ => pg_tup rfl (pgs_cons (pg_name (i := 2) nd rfl (Or.inl rfl)) (pgs_cons (pg_name (i := 3) nd rfl (Or.inr rfl)) pgs_nil)))
      (fun _ _ _ _ _ => pts_one (pt_val (pe_callB (r := rAll K) (cr_all rfl) rfl gA boot_all' (pa_cons (pe_lock (pe_lc (own := [("name", 4)]) (g := gName 4) (wi := iKeys (tVar 1)) (tt := tYes) (te := tOp rEq (tDGet (tVar 3) (tVar 4)) (tDGet (tVar 1) (tVar 4))) rfl nd (pi_keys (pv 1)) (blkOk_by (N := NLe) (sc := scLe) (by decide +kernel))
        (fun _ _ _ _ _ => pg_name (i := 4) nd rfl (Or.inl rfl)) (fun _ _ _ _ _ => pts_nil) (fun _ _ _ _ _ => pe_cmpR op_eq (pe_dget hu (pv 3) (pv 4) (fun _ _ => rfl)) (pe_dget hu (pv 1) (pv 4) (fun _ _ => rfl)) (nomark _)))) pa_nil)))) (fun _ _ _ _ _ => pv 2)))), ?_⟩
  refine ⟨_, rfl, a, dx, _, rfl, ha, rfl, _, rfl, a, g, ns, known, us, tbl, rfl, tab, og, knd, sub, by omega, fun H1 k1 => ?_⟩
  refine ⟨_, rfl, a, dx, _, rfl, k1 _ _ ha, rfl, a, ns, tbl, rfl, tab.same k1, W.nd, by omega, by omega, fun H2 q as nq oq rows fresh k2 => ?_⟩
  have k12 := k1.trans k2
  have las : as.length = tbl.length := Paired.length rows
  have og2 := k12 _ _ og
  refine ⟨q, _, rfl, SqL.of oq, lc_genO (Q := fun D H' => Q (.ref D) H') (leftO ns known us tbl) (by rw [leftO_len]; omega) (fun i H' s lt => ⟨_, _, SqL.of (s _ _ oq), List.getElem?_eq_getElem (by rw [List.length_map, las, ← leftO_len ns known us tbl]; exact lt)⟩) (fun H' s => ⟨_, SqL.of (s _ _ oq), by rw [List.length_map, las, leftO_len]; omega⟩) ?_ ?_⟩
  · rintro i v o H3 H4 Cn Nn eo s3 ⟨t, x, rfl, nt, rfl, gx⟩ yes no
    obtain ⟨u, eu, rfl⟩ := leftO_at eo
    have ex := gx _ (SqL.of (s3 _ _ oq))
    rw [List.getElem?_map] at ex
    obtain ⟨r, er, rfl⟩ := Option.map_eq_some_iff.mp ex
    obtain ⟨u', eu', or, lu⟩ := paired_get (rows.same s3) er
    obtain rfl : u = u' := by rw [eu] at eu'; exact Option.some.inj eu'
    have st := same_new (o := .tup [V.int (i : Nat), .ref r]) nt
    refine ⟨t, _, rfl, SqT.of upd_same, rfl, _, _, rfl, _, _, rfl, rfl, rfl, ?_⟩
    have or4 := st _ _ or
    have og4 := st _ _ (s3 _ _ og2)
    generalize upd H3 t (.tup [V.int (i : Nat), .ref r]) = H4 at st or4 og4
    have rg : r ≠ g := fun z => by
      have := fresh r (List.mem_of_getElem? er)
      rw [z, k1 _ _ og] at this
      cases this
    refine ⟨g, _, og4, trivial, fun od => ⟨_, rfl, g, od, rfl, .inl ⟨_, upd_same, lc_gen ((known.map fun x => decide (av ns u x = av ns us x)).map V.bl) (by rw [List.length_map, List.length_map]; omega) (fun j H' s lt => ⟨s _ _ upd_same, by rw [gvn_len]; rw [List.length_map, List.length_map] at lt; exact lt⟩) (fun H' s => ⟨s _ _ upd_same, by rw [gvn_len, List.length_map, List.length_map]; exact Nat.le_refl _⟩) ?_ ?_⟩⟩⟩
    · rintro j v y H5 H6 Cm Nm ey s5 ⟨rfl, k, w', ek, rfl⟩ yes2
      obtain ⟨z, rfl, ez, hv⟩ := gvn_at knd ek
      rw [List.getElem?_map, List.getElem?_map, ez] at ey
      obtain rfl : V.bl (decide (av ns u z = av ns us z)) = y := Option.some.inj ey
      refine ⟨rfl, ?_⟩
      refine ⟨_, rfl, _, rfl, r, _, rfl, dk_av W.nd lu (sub z (List.mem_of_getElem? ez)) ▸ DGet.k (k := Sum.inr z) (s5 _ _ (by rw [upd_ne rg]; exact or4)), ?_⟩
      refine ⟨_, rfl, _, rfl, g, _, rfl, .inl ⟨_, Sum.inr z, .inr ⟨_, s5 _ _ upd_same⟩, rfl, hv.symm⟩, rfl, ?_⟩
      rw [dec_int2]
      exact yes2 _ (Same.refl _)
    · intro H5 D nD oD s5
      obtain ⟨b1, s45⟩ := lock_off og4 s5
      have Da : D ≠ g := fun z => by rw [z, upd_same] at nD; cases nD
      refine ⟨b1, D, _, rfl, SqL.of (by rw [upd_ne Da]; exact oD), _, rfl, ?_⟩
      rw [all_agree]
      cases c : agree ns known us u with
      | true => exact ⟨_, rfl, yes _ (by rw [if_pos c]) _ (st.trans s45)⟩
      | false => exact no (by rw [if_neg (by rw [c]; simp)]) _ (st.trans s45)
  · intro H3 D nD oD s3
    rw [left_list] at oD
    exact hq H3 D (k12.free nD) oD (k12.trans s3)
end
end L2.TB
namespace L2.TB
open PySem PySem.Spec PyProof.Rows
/-! != of two lists of dicts, alike one by one -/
section
open SeqAt MeetsSeq MeetsSeq2 MeetsSeq3 SeqRoads2
open AutoSeq1 (wpAny_loadPart')
variable {prog : Program} {w : World} {A : Around} {R : Result → Shared → Prop}
theorem ne_turns (l b : Addr) (xs ys : Array Value) (n n2 : Nat) {s : Shared} (gl : s.heap.get? l = some { cls := .type "list", data := .seq xs n }) (gb : s.heap.get? b = some { cls := .type "list", data := .seq ys n2 })
    (sz : xs.size = ys.size) (same : ∀ j (h1 : j < xs.size) (h2 : j < ys.size), EqIn prog w A.in1 s xs[j] ys[j] true) (fin : R (.ok (.ret (.bool false))) s) (k : Nat) :
    ∀ i : Nat, xs.size - i = k → wpAny (model prog w) A.in1 (Builtin.«list.__eq__.loop» ⟨[.ref l, .ref b, rawInt i, rawInt 3], []⟩) (GQ.FinOf prog w A R) (fun e s' => R (.error e) s') s := by
  obtain ⟨h0, gs, ds, tk, os⟩ := s
  induction k with
  | zero =>
    intro i out
    wp_walk using wpAny_loadPart' gl, wpAny_loadPart' gb
    have n1 : xs[((i : Nat) : Int).toNat]? = none := by simp; omega
    have n2' : ys[((i : Nat) : Int).toNat]? = none := by simp; omega
    rw [n1, n2']
    wp_walk using wpAny_loadPart' gl, wpAny_loadPart' gb
    show R (.ok (.ret (.bool (xs.size != ys.size)))) _
    rw [sz, bne_self_eq_false]
    exact fin
  | succ k more =>
    intro i left
    have t1 : i < xs.size := by omega
    have t2 : i < ys.size := by omega
    wp_walk using wpAny_loadPart' gl, wpAny_loadPart' gb
    have e1 : xs[((i : Nat) : Int).toNat]? = some xs[i] := by simp [t1]
    have e2 : ys[((i : Nat) : Int).toNat]? = some ys[i] := by simp [t2]
    have up : ((i : Int) + 1) = ((i + 1 : Nat) : Int) := by omega
    rw [e1, e2]
    refine wpAny_bind (same i t1 t2 _ _ ?_)
    wp_walk
    rw [up]
    have next := more (i + 1) (by omega)
    exact ⟨plainId_quiet plain_eq_loop _, codeAny_builtin entry_eq_loop (by rw [Around.under_plainId plain_eq_loop _]; exact next)⟩
theorem ne_lists (l b : Addr) (xs ys : Array Value) (n n2 : Nat) {s : Shared} (gl : s.heap.get? l = some { cls := .type "list", data := .seq xs n }) (gb : s.heap.get? b = some { cls := .type "list", data := .seq ys n2 })
    (sz : xs.size = ys.size) (same : ∀ j (h1 : j < xs.size) (h2 : j < ys.size), EqIn prog w A.in1 s xs[j] ys[j] true) (fin : R (.ok (.ret (.bool false))) s) :
    wpAny (model prog w) A.in1 (Builtin.«list.__ne__» ⟨[.ref l, .ref b], []⟩) (GQ.FinOf prog w A R) (fun e s' => R (.error e) s') s := by
  have first := ne_turns l b xs ys n n2 gl gb sz same fin _ 0 rfl
  obtain ⟨h0, gs, ds, tk, os⟩ := s
  have sub := AutoSeq1.sub_list_list
  have no : ¬ (xs.size != ys.size) = true := by simp [sz]
  wp_walk using wpAny_loadPart' gl, wpAny_loadPart' gb
  exact ⟨plainId_quiet plain_eq_loop _, codeAny_builtin entry_eq_loop (by rw [Around.under_plainId plain_eq_loop _]; exact first)⟩
end
def rNeLD : R2 := fun x y H Q => ∃ (a b : Addr) (as bs : List Addr), x = .ref a ∧ y = .ref b ∧ H a = some (.lst (as.map V.ref)) ∧ H b = some (.lst (bs.map V.ref)) ∧ as.length = bs.length ∧
  (∀ (i : Nat) (c d : Addr), as[i]? = some c → bs[i]? = some d → ∃ kvs : List (Key × V), H c = some (.dK kvs) ∧ H d = some (.dK kvs) ∧ (kvs.map (·.1)).Nodup ∧ ∀ p ∈ kvs, flatB p.2 = true) ∧ Q (.bl false) H
theorem op_neLD {X : Cx} (hu : X.A.units + 64 < cLine) : OpR X (compareOp .NotEq) rNeLD := by
  intro pins s σ H x y v u Q I rx ry h
  obtain ⟨a, b, as, bs, rfl, rfl, ha, hb, len, same, q⟩ := h
  obtain rfl : v = Value.ref a := rx
  obtain rfl : u = Value.ref b := ry
  obtain ⟨z1, xs, n1, r1, g1⟩ := I.hok a _ ha
  obtain ⟨z2, ys, n2, r2, g2⟩ := I.hok b _ hb
  have lx : xs.length = as.length := by rw [← r1.length, List.length_map]
  have ly : ys.length = bs.length := by rw [← r2.length, List.length_map]
  show wpAny _ _ (richCompare .NotEq (.ref a) (.ref b)) _ _ _
  refine wpAny_richCompare_same_room (op := .NotEq) ⟨_, g1, rfl⟩ ⟨_, g2, rfl⟩ F.slot_list_ne (GQ.call_here F.slot_list_ne ⟨_, g1, rfl⟩ F.entry_list_ne (F.args_list_ne_2 _ _) ?_) (by omega)
  refine ne_lists a b xs.toArray ys.toArray n1 n2 g1 g2 (by rw [List.size_toArray, List.size_toArray, lx, ly, len]) (fun j h1 h2 => ?_) ⟨(fun e => nomatch e), .bl false, H, I, rfl, q⟩
  have j1 : j < as.length := by rw [← lx]; simpa using h1
  have j2 : j < bs.length := by rw [← ly]; simpa using h2
  obtain ⟨kvs, oc, od, nk, flat⟩ := same j as[j] bs[j] (List.getElem?_eq_getElem j1) (List.getElem?_eq_getElem j2)
  obtain ⟨u1, e1, rel1⟩ := r1.get (show (as.map V.ref)[j]? = some (V.ref as[j]) by rw [List.getElem?_map, List.getElem?_eq_getElem j1]; rfl)
  obtain ⟨u2, e2, rel2⟩ := r2.get (show (bs.map V.ref)[j]? = some (V.ref bs[j]) by rw [List.getElem?_map, List.getElem?_eq_getElem j2]; rfl)
  obtain rfl : u1 = Value.ref as[j] := rel1
  obtain rfl : u2 = Value.ref bs[j] := rel2
  have f1 : xs.toArray[j] = Value.ref as[j] := by
    have z : xs[j]? = some xs.toArray[j] := by
      have h1' : j < xs.length := by simpa using h1
      rw [List.getElem?_eq_getElem h1'] <;> simp
    rw [z] at e1
    exact Option.some.inj e1
  have f2 : ys.toArray[j] = Value.ref bs[j] := by
    have z : ys[j]? = some ys.toArray[j] := by
      have h2' : j < ys.length := by simpa using h2
      rw [List.getElem?_eq_getElem h2'] <;> simp
    rw [z] at e2
    exact Option.some.inj e2
  rw [f1, f2]
  by_cases eq : as[j] = bs[j]
  · rw [← eq]
    exact SeqAt.EqAt.inModel (SeqAt.EqAt.same _) _ _
  · refine SeqAt.EqIn.of_refs eq fun E Q' fin => ?_
    obtain ⟨_, y1, v1, kv1, d1⟩ := (show ObjOk X.prog X.w H s.heap as[j] (.dK kvs) from I.hok _ _ oc)
    obtain ⟨_, y2, v2, kv2, d2⟩ := (show ObjOk X.prog X.w H s.heap bs[j] (.dK kvs) from I.hok _ _ od)
    have lv : v1.length = v2.length := by rw [← kv1.length, ← kv2.length]
    exact PySem.W.keq_eq (knd := mixKind X.prog X.w) (r := true) y1 y2 d1 d2 (show X.A.in1.units < cLine from by show X.A.units + _ < cLine; omega) (fun _ => hits_all kv2 kv1 fun p hp => ⟨val_at _ _ _ nk hp, flat p hp⟩) (by simpa [lv] using fin)
end L2.TB
namespace L2.TB
open PySem PySem.Spec PyProof.Rows
/-! what may be, and fewer questions -/
theorem boot_sorted : bootBuiltins "sorted" = some (.builtin "sorted") := by decide +kernel
/-- a set comprehension of whole numbers, without a test: ks is what its turns make -/
theorem sc_ints {w : World} {P : Program} {J : It} {g : TG} {tt : TT} {te : TE} {vs : List Nat} {σ : St} {H1 : Hp} {Q : Addr → Hp → Prop} (ks : List Int) (short : ks.length < 4000) (go : ∀ i H, Same H1 H → i < ks.length → J.go i H) (stop : ∀ H, Same H1 H → J.stop ks.length H)
    (turn : ∀ (i : Nat) (x : V) (k : Int) (H H' : Hp) (C : V → Hp → Prop) (N : Hp → Prop), ks[i]? = some k → Same H1 H → J.yld i H x H' → (∀ H4, Same H H4 → C (.int k) H4) → g x (wipe σ vs) H' fun σ2 H2 => wipe σ2 vs = wipe σ vs ∧ tt σ2 H2 fun b H3 => if b = true then te σ2 H3 C else N H3)
    (fin : ∀ H D S n, H1 D = none → H D = some (SetO w D S n) → (∀ k, S k = true ↔ k ∈ ks) → n ≤ ks.length → Same H1 H → Q D H) :
    ∀ D, H1 D = none → ∃ W : Nat → Nat → Hp → Prop, (∃ m, W 0 m (upd H1 D ((intSets P w).rec0 D))) ∧ ∀ i m H, W i m H → (J.stop i H ∧ Q D H) ∨ (J.go i H ∧ ∃ N : Hp → Prop, (∀ H', N H' → ∃ m', m' < m ∧ W (i + 1) m' H') ∧
      ∀ x H', J.yld i H x H' → g x (wipe σ vs) H' fun σ2 H2 => wipe σ2 vs = wipe σ vs ∧ tt σ2 H2 fun b H3 => if b = true then te σ2 H3 fun y H4 => (intSets P w).asks D y H4 N else N H3) := by
  intro D nD
  refine ⟨fun i m H => m = ks.length - i ∧ i ≤ ks.length ∧ (∃ S n, H D = some (SetO w D S n) ∧ (∀ k, S k = true ↔ k ∈ ks.take i) ∧ n ≤ i) ∧ Same H1 H, ⟨_, rfl, Nat.zero_le _, ⟨_, 0, upd_same, by simp, Nat.le_refl _⟩, same_new nD⟩, ?_⟩
  rintro i m H ⟨rfl, le, ⟨S, n, oD, hS, hn⟩, s1⟩
  by_cases lt : i < ks.length
  · refine .inr ⟨go i H s1 lt, fun H' => (∃ S n, H' D = some (SetO w D S n) ∧ (∀ k, S k = true ↔ k ∈ ks.take (i + 1)) ∧ n ≤ i + 1) ∧ Same H1 H', fun H' h => ⟨ks.length - (i + 1), by omega, rfl, lt, h⟩, fun x H' yl => ?_⟩
    have ey : ks[i]? = some ks[i] := List.getElem?_eq_getElem lt
    have et : ks.take (i + 1) = ks.take i ++ [ks[i]] := by rw [List.take_succ, ey]; rfl
    refine turn i x ks[i] H H' _ _ ey s1 yl fun H4 s4 => ⟨_, S, n, rfl, s4 _ _ oD, ?_, ⟨_, _, upd_same, ?_, ?_⟩, ?_⟩
    · show n + 1 < 4096
      omega
    · intro k
      rw [et, List.mem_append, List.mem_singleton, ← hS k]
      simp
    · split <;> omega
    · intro b u e
      rw [upd_ne (ne_of_none e nD)]
      exact s4 _ _ (s1 _ _ e)
  · obtain rfl : i = ks.length := by omega
    rw [List.take_length] at hS
    exact .inl ⟨stop H s1, fin H D S n nD oD hS hn s1⟩
def spMayBe (C : Addr) : Sp := fun vs H Q _ => ∃ (a g : Addr) (ns known : List Str) (us : List Int) (tbl : List (List Int)) (x : Str), vs = [.ref a, .ref g, .str x] ∧ TabAt H C a ns tbl ∧ Wide ns tbl ∧ tbl.length < 60 ∧ H g = some (.dK (gvn ns known us)) ∧ known.Nodup ∧ (∀ x ∈ known, x ∈ ns) ∧ x ∈ ns ∧
  ∀ H' q (ks : List Int), H q = none → H' q = some (.lst (ks.map V.int)) → ks.Pairwise (· < ·) → (∀ k, k ∈ ks ↔ ∃ u ∈ tbl, keyR ns known u = keyR ns known us ∧ av ns u x = k) → Same H H' → Q (.ref q) H'
def spOnly (C : Addr) : Sp := fun vs H Q _ => ∃ (a b : Addr) (ns known : List Str) (tbl : List (List Int)), vs = [.ref a, .ref b] ∧ TabAt H C a ns tbl ∧ Wide ns tbl ∧ H b = some (.lst (known.map V.str)) ∧ known.Nodup ∧ (∀ x ∈ known, x ∈ ns) ∧ known ≠ [] ∧
  ∀ H' c, H c = none → TabAt H' C c known (tbl.map (keyR ns known)) → Same H H' → Q (.ref c) H'
abbrev NMb : List Str := ["self", "answers", "asked", "rows", "index"]
theorem scMayBe : FnScope NMb ["self", "answers", "asked"] (defScope sMayBe) := ⟨rfl, rfl, rfl, by decide +kernel, rfl, by decide +kernel, by decide +kernel⟩
abbrev NOn : List Str := ["self", "names", "row", "name"]
theorem scOnly : FnScope NOn ["self", "names"] (defScope sOnly) := ⟨rfl, rfl, rfl, by decide +kernel, rfl, by decide +kernel, by decide +kernel⟩
abbrev scOn : Scope := { kind := ScopeKind.function, names := [(Str.ofString ".0", NameKind.local), (Str.ofString "row", NameKind.cell), (Str.ofString "names", NameKind.cell)], isGenerator := false, isCoroutine := false }
theorem gvn_dk (ns known : List Str) (us : List Int) : gvn ns known us = dk known (keyR ns known us) := by
  unfold gvn dk keyR
  induction known with
  | nil => rfl
  | cons x l ih => rw [List.map_cons, List.map_cons, List.zip_cons_cons, List.map_cons, ih]
section
variable {P : Program} {w : World} {K : PySem.W.Frag} {mg : Str → Option Value} {base : Heap} {f C fR fA fL fI aF aL aO aK aA aB : Addr} {fd fdR fdA fdL fdI : FuncData}
theorem ok_mayBe (F : Fun K "may_be" "Table.may_be" sMayBe f fd) (T : TabC K C) (GR : FnOk P w K mg base CX0 2 fR fdR ["self"] (spRowsM C)) (FR : Fun K "rows" "Table.rows" sRowsM fR fdR) (mR : Meth K C "rows" fR)
    (GA : FnOk P w K mg base CX0 2 fA fdA ["self", "thing"] (spCkAns C)) (FA : Fun K "_check_answers" "Table._check_answers" sCkAns fA fdA) (mA : Meth K C "_check_answers" fA)
    (GL : FnOk P w K mg base CX0 3 fL fdL ["self", "answers"] (spLeft C)) (FL : Fun K "left" "Table.left" sLeft fL fdL) (mL : Meth K C "left" fL) (Ck : Chk K mg aF aL aO aK aA aB) (gSo : mg "sorted" = none) : FnOk P w K mg base CX0 4 f fd ["self", "answers", "asked"] (spMayBe C) := by
  have bR := FR.binds (ps := ["self"]) fun _ _ _ _ _ _ us hl => match us, hl with | [_], _ => rfl
  have bA := FA.binds (ps := ["self", "thing"]) fun _ _ _ _ _ _ us hl => match us, hl with | [_, _], _ => rfl
  have bL := FL.binds (ps := ["self", "answers"]) fun _ _ _ _ _ _ us hl => match us, hl with | [_, _], _ => rfl
  obtain ⟨fdC, FC⟩ := Ck.CA
  have GC := ok_ckA (P := P) (w := w) (base := base) Ck FC
  have bC := FC.binds (ps := ["names", "asked"]) fun _ _ _ _ _ _ us hl => match us, hl with | [_, _], _ => rfl
  refine F.ok scMayBe (fun vs H Q E h => by obtain ⟨a, g, ns, known, us, tbl, x, e, _⟩ := h; rw [e]; rfl) fun cdv A outer s H vs Q E hr hsp => ?_
  obtain ⟨a, g, ns, known, us, tbl, x, rfl, tab, W, t60, og, knd, sub, xin, hq⟩ := hsp
  obtain ⟨dx, qa, ra, ha, hqa, hra⟩ := id tab.ex
  have nd := scMayBe.nd
  have hu := hu_of hr
  have w1 := W.l1
  have kl : known.length ≤ ns.length := nodup_short knd sub
  refine ⟨_, pss_cons (ps_expr (pe_meth (pv 0) T.cl mA GA (hr.mono (by decide)) bA .nil pass0 (pa_cons (pv 1) pa_nil)))
    (pss_cons (ps_expr (pe_call GC (hr.mono (by decide)) rfl Ck.gCA FC.kp bC .nil pass0 (pa_cons (pe_fld (pv 0) rfl) (pa_cons (pv 2) pa_nil))))
    (pss_cons (ps_set (i := 3) nd rfl (Or.inr rfl) (pe_meth0 (pv 0) T.cl mR GR (hr.mono (by decide)) bR .nil pass0))
    (pss_one (ps_ret (pe_callB (cr_sortedSet rfl) rfl gSo boot_sorted (pa_cons (pe_scG (intSets P w) (own := [("index", 4)]) (g := gName 4) (tt := tYes) (te := tDGet (tOp (rIxL K) (tVar 3) (tVar 4)) (tVar 2)) rfl nd (pi_list (pe_meth (pv 0) T.cl mL GL hr bL .nil pass0 (pa_cons (pv 1) pa_nil))) (blkOk_by (N := NMb) (sc := defScope sMayBe) (by decide +kernel))
      (fun _ _ _ _ _ => pg_name (i := 4) nd rfl (Or.inl rfl)) (fun _ _ _ _ _ => pts_nil) (fun _ _ _ _ _ => pe_dget hu (pe_ix (r := rIxL K) ix_list (pv 3) (pv 4) (fun _ _ => rfl)) (pv 2) (fun _ _ => rfl))) pa_nil)))))), ?_⟩
  refine ⟨_, rfl, a, dx, _, rfl, ha, rfl, _, rfl, a, g, ns, known, us, tbl, rfl, tab, og, knd, sub, by omega, fun H1 k1 => ?_⟩
  refine ⟨_, rfl, a, C, dx, _, _, rfl, k1 _ _ ha, T.cl, T.nQ, rfl, _, rfl, qa, ns, x, rfl, SqL.of (k1 _ _ hqa), xin, ?_⟩
  refine ⟨_, rfl, a, dx, _, rfl, k1 _ _ ha, rfl, a, ns, tbl, rfl, tab.same k1, W.nd, by omega, by omega, fun H2 r as nr or rows _ k2 => ?_⟩
  have k12 := k1.trans k2
  refine ⟨_, rfl, a, dx, _, rfl, k12 _ _ ha, rfl, _, rfl, a, g, ns, known, us, tbl, rfl, tab.same k12, W, k12 _ _ og, knd, sub, fun H3 q nq oq k3 => ?_⟩
  have or3 := k3 _ _ or
  have rows3 := rows.same k3
  have las : as.length = tbl.length := Paired.length rows
  refine ⟨q, rfl, ⟨_, SqL.of oq⟩, ?_⟩
  have ll : (leftL ns known us tbl).length ≤ tbl.length := by
    have := List.length_filter_le (fun i => agree ns known us (tbl.getD i [])) (List.range tbl.length)
    rw [List.length_range] at this
    exact this
  refine sc_ints (J := Itl K q) ((leftL ns known us tbl).map fun i => av ns (tbl.getD i []) x) (by rw [List.length_map]; omega) (fun i H' s lt => ⟨_, _, SqL.of (s _ _ oq), List.getElem?_eq_getElem (by rw [List.length_map] at lt ⊢; exact lt)⟩) (fun H' s => ⟨_, SqL.of (s _ _ oq), by rw [List.length_map, List.length_map]; omega⟩) ?_ ?_
  · rintro i v k H4 H5 Cn Nn ek s4 ⟨rfl, ex⟩ yes
    have ex := ex _ (SqL.of (s4 _ _ oq))
    rw [List.getElem?_map] at ek ex
    obtain ⟨j, ej, rfl⟩ := Option.map_eq_some_iff.mp ex
    rw [ej] at ek
    obtain rfl : av ns (tbl.getD j []) x = k := Option.some.inj ek
    obtain ⟨u, eu, _⟩ := left_mem.mp (List.mem_of_getElem? ej)
    have eg : tbl.getD j [] = u := by rw [List.getD_eq_getElem?_getD, eu]; rfl
    have jl : j < as.length := by rw [las]; exact (List.getElem?_eq_some_iff.mp eu).1
    obtain ⟨u', eu', oc, lu⟩ := paired_get (rows3.same s4) (List.getElem?_eq_getElem jl)
    obtain rfl : u = u' := by rw [eu] at eu'; exact Option.some.inj eu'
    refine ⟨rfl, ?_⟩
    refine ⟨_, rfl, _, rfl, _, _, _, _, rfl, rfl, SqL.of (s4 _ _ or3), atI_nat (by rw [List.getElem?_map, List.getElem?_eq_getElem jl]; rfl), _, rfl, as[j], _, rfl, dk_av W.nd lu xin ▸ DGet.k (k := Sum.inr x) oc, ?_⟩
    rw [eg] at yes
    exact yes _ (Same.refl _)
  · intro H4 D S n nD oD hS hn s4
    rw [List.length_map] at hn
    refine ⟨D, S, n, rfl, oD, by omega, fun ks p up mem len np => ?_⟩
    have sp := same_new (o := .lst (ks.map V.int)) np
    have k14 := (k12.trans k3).trans s4
    refine hq _ p ks (k14.free np) upd_same up (fun k => ?_) (k14.trans sp)
    rw [mem k, hS k, List.mem_map]
    constructor
    · rintro ⟨i, hi, e⟩
      obtain ⟨u, eu, ku⟩ := left_mem.mp hi
      refine ⟨u, List.mem_of_getElem? eu, ku, ?_⟩
      rw [List.getD_eq_getElem?_getD, eu] at e
      exact e
    · rintro ⟨u, hu', ku, e⟩
      obtain ⟨i, hi, ei⟩ := List.getElem_of_mem hu'
      have eu : tbl[i]? = some u := by rw [List.getElem?_eq_getElem hi, ei]
      refine ⟨i, left_mem.mpr ⟨u, eu, ku⟩, ?_⟩
      rw [List.getD_eq_getElem?_getD, eu]
      exact e
theorem ok_only (F : Fun K "only" "Table.only" sOnly f fd) (T : TabC K C) (GR : FnOk P w K mg base CX0 2 fR fdR ["self"] (spRowsM C)) (FR : Fun K "rows" "Table.rows" sRowsM fR fdR) (mR : Meth K C "rows" fR)
    (M : Mk K C fI) (GI : FnOk P w K mg base CX0 3 fI fdI ["self", "rows"] (spInit C)) (FI : Fun K "__init__" "Table.__init__" sInit fI fdI) (gC : mg "Table" = some (.ref C)) (Ck : Chk K mg aF aL aO aK aA aB) (gN : mg "len" = none) : FnOk P w K mg base CX0 5 f fd ["self", "names"] (spOnly C) := by
  have bR := FR.binds (ps := ["self"]) fun _ _ _ _ _ _ us hl => match us, hl with | [_], _ => rfl
  have bI := FI.binds (ps := ["self", "rows"]) fun _ _ _ _ _ _ us hl => match us, hl with | [_, _], _ => rfl
  obtain ⟨fdK, FK⟩ := Ck.CK
  have GK := ok_ckK (P := P) (w := w) (base := base) Ck FK
  have bK := FK.binds (ps := ["names", "known"]) fun _ _ _ _ _ _ us hl => match us, hl with | [_, _], _ => rfl
  refine F.ok scOnly (fun vs H Q E h => by obtain ⟨a, b, ns, known, tbl, e, _⟩ := h; rw [e]; rfl) fun cdv A outer s H vs Q E hr hsp => ?_
  obtain ⟨a, b, ns, known, tbl, rfl, tab, W, ob, knd, sub, kne, hq⟩ := hsp
  obtain ⟨dx, qa, ra, ha, hqa, hra⟩ := id tab.ex
  have nd := scOnly.nd
  have hu := hu_of hr
  have w1 := W.l1
  have w2 := W.l2
  have kl : known.length ≤ ns.length := nodup_short knd sub
  have kpos : 0 < known.length := List.length_pos_iff.mpr kne
  refine ⟨_, pss_cons (ps_expr (pe_call GK (hr.mono (by decide)) rfl Ck.gCK FK.kp bK .nil pass0 (pa_cons (pe_fld (pv 0) rfl) (pa_cons (pv 1) pa_nil))))
    (pss_cons (ps_if (pt_cmpR op_eq (pe_callB call_len_seq rfl gN boot_len (pa_cons (pv 1) pa_nil)) pe_int (nomark _)) (pss_one ps_never) pss_nil)
    (pss_one (ps_ret (pe_make M GI hr rfl gC bI .nil pass0 (pa_cons (pe_lc (own := [("row", 2)]) (tt := tYes) (te := tDc (iList K (tVar 1)) (gName 3) tYes (tVar 3) (tDGet (tVar 2) (tVar 3)) [3]) rfl nd (pi_list (pe_meth0 (pv 0) T.cl mR GR (hr.mono (by decide)) bR .nil pass0)) (blkOk_by (N := NOn) (sc := defScope sOnly) (by decide +kernel))
      (fun _ _ _ _ _ => pg_name (i := 2) nd rfl (Or.inr rfl)) (fun _ _ _ _ _ => pts_nil)
      (fun _ _ _ _ _ => pe_dc (own := [("name", 3)]) (wi := iList K (tVar 1)) (g := gName 3) (tt := tYes) (tk := tVar 3) (tv := tDGet (tVar 2) (tVar 3)) rfl nd (pi_list (pv 1)) (blkOk_by (N := NOn) (sc := scOn) (by decide +kernel)) (fun _ _ _ _ _ => pg_name (i := 3) nd rfl (Or.inl rfl)) (fun _ _ _ _ _ => pts_nil) (fun _ _ _ _ _ => pv 3) (fun _ _ _ _ _ => pe_dget hu (pv 2) (pv 3) (fun _ _ => rfl)))) pa_nil))))), ?_⟩
  refine ⟨_, rfl, a, C, dx, _, _, rfl, ha, T.cl, T.nQ, rfl, _, rfl, qa, b, ns, known, rfl, hqa, .inl ob, knd, sub, by omega, fun H1 k1 => ?_⟩
  refine ⟨_, rfl, b, _, rfl, .inl (SqL.of (k1 _ _ ob)), rfl, _, rfl, ?_⟩
  rw [dec_int2, List.length_map, decide_eq_false (by omega : ¬ ((known.length : Nat) : Int) = 0)]
  refine iteF ?_
  refine ⟨_, rfl, a, dx, _, rfl, k1 _ _ ha, rfl, a, ns, tbl, rfl, tab.same k1, W.nd, by omega, by omega, fun H2 r as nr or rows _ k2 => ?_⟩
  have k12 := k1.trans k2
  have las : as.length = tbl.length := Paired.length rows
  have ob2 := k12 _ _ ob
  refine ⟨r, rfl, ⟨_, SqL.of or⟩, ?_⟩
  refine lc_made tbl.length (by omega) (fun i H' k lt => ⟨_, _, SqL.of (k _ _ or), List.getElem?_eq_getElem (by rw [List.length_map]; omega)⟩) (fun H' k => ⟨_, SqL.of (k _ _ or), by rw [List.length_map]; omega⟩)
    (fun i y H' => ∃ t us, y = V.ref t ∧ tbl[i]? = some us ∧ H' t = some (.dK (gvn ns known us))) ?_ ?_ ?_
  · rintro i y H3 H4 D l ⟨t, us, rfl, eu, ot⟩ oD keep
    exact ⟨t, us, rfl, eu, keep _ _ (ne_of ot oD (by intro z; cases z)) ot⟩
  · rintro i x H3 H4 Cn Nn lt s3 ⟨rfl, ex⟩ yes
    have ex := ex _ (SqL.of (s3 _ _ or))
    rw [List.getElem?_map] at ex
    obtain ⟨p, ep, rfl⟩ := Option.map_eq_some_iff.mp ex
    obtain ⟨us, eu, op, lu⟩ := paired_get (rows.same s3) ep
    refine ⟨rfl, ?_⟩
    refine ⟨_, rfl, b, rfl, ⟨_, SqL.of (s3 _ _ ob2)⟩, dc_gen (Q := fun D H' => Cn (.ref D) H') (gvn ns known us) (by rw [gvn_len]; omega) (gvn_nd knd) (fun j H' s lt => ⟨_, _, SqL.of (s _ _ (s3 _ _ ob2)), List.getElem?_eq_getElem (by rw [List.length_map]; rw [gvn_len] at lt; exact lt)⟩) (fun H' s => ⟨_, SqL.of (s _ _ (s3 _ _ ob2)), by rw [List.length_map, gvn_len]; omega⟩) ?_ fun H5 D nD oD s5 => yes _ _ ⟨D, us, rfl, eu, oD⟩ s5⟩
    rintro j v k z H5 H6 Cm Nm ekv s5 ⟨rfl, ev⟩ yes2
    have ev := ev _ (SqL.of (s5 _ _ (s3 _ _ ob2)))
    obtain ⟨y, rfl, ey, hv⟩ := gvn_at knd ekv
    have ez : z = V.int (av ns us y) := by
      have q := val_at _ _ _ (gvn_nd knd) (List.mem_of_getElem? ekv)
      rw [hv] at q
      exact (Option.some.inj q).symm
    subst ez
    rw [List.getElem?_map, ey] at ev
    obtain rfl : V.str y = v := Option.some.inj ev
    refine ⟨rfl, ?_⟩
    exact ⟨_, rfl, _, rfl, _, rfl, p, _, rfl, dk_av W.nd lu (sub y (List.mem_of_getElem? ey)) ▸ DGet.k (k := Sum.inr y) (s5 _ _ op), yes2 _ (Same.refl _)⟩
  · intro H3 D ys nD oD ly ry s3
    obtain ⟨bs, rfl, pa⟩ := addrs_of (H := H3) (P := fun i t => ∃ us, tbl[i]? = some us ∧ H3 t = some (.dK (gvn ns known us))) ys 0 fun j y e => by
      obtain ⟨t, us, e1, e2, e3⟩ := ry j y e
      exact ⟨t, e1, us, by simpa using e2, e3⟩
    have lb : bs.length = tbl.length := by rw [← ly, List.length_map]
    have dd : DRows H3 known bs (tbl.map (keyR ns known)) := paired_of bs _ (by rw [lb, List.length_map]) fun i t us et eu => by
      rw [List.getElem?_map] at eu
      obtain ⟨u, eu2, rfl⟩ := Option.map_eq_some_iff.mp eu
      obtain ⟨u', e2, e3⟩ := pa i t et
      rw [Nat.zero_add, eu2] at e2
      cases e2
      rw [gvn_dk] at e3
      exact ⟨e3, by unfold keyR; rw [List.length_map]⟩
    have k13 := k12.trans s3
    refine fun x dy nx ndy nex => ?_
    have kx : Same H3 (upd (upd H3 dy (.own x)) x (.ins C dy [])) := fun b o e => by rw [upd_ne (ne_of_none e nx), upd_ne (ne_of_none e ndy)]; exact e
    refine ⟨x, dy, D, bs, known, tbl.map (keyR ns known), rfl, upd_same, kx _ _ oD, dd.same kx, by simp [W.t], by rw [List.length_map]; omega, kne, knd, fun y hy => W.ok y (sub y hy), by omega, fun H6 T6 fr => ⟨rfl, ?_⟩⟩
    exact hq H6 x (k13.free nx) T6 fun b o e => fr b o (ne_of_none (k13 _ _ e) nx) (kx _ _ (k13 _ _ e))
end
end L2.TB
namespace L2.TB
open PySem PySem.Spec PyProof.Rows
/-! rows as data; worlds; own equality of two tables -/
def tupD (us : List Int) : PyData := .tuple (us.map PyData.int)
theorem intsD_shape : ∀ ks : List Int, PyData.canLayAll0 (ks.map PyData.int) = true ∧ PyData.depthAll (ks.map PyData.int) = 0
  | [] => ⟨by simp [PyData.canLayAll0], by simp [PyData.depthAll]⟩
  | b :: bs => by
    obtain ⟨h1, h2⟩ := intsD_shape bs
    exact ⟨by simp [PyData.canLayAll0, PyData.canLay0, h1], by simp [PyData.depthAll, PyData.depth, h2]⟩
theorem tupD_shape (us : List Int) : PyData.canLay0 (tupD us) = true ∧ PyData.depth (tupD us) = 1 := by
  obtain ⟨h1, h2⟩ := intsD_shape us
  unfold tupD
  exact ⟨by simp [PyData.canLay0, h1], by simp [PyData.depth, h2]⟩
theorem tupD_shaped (us : List Int) : SeqAt.shaped (tupD us) = true := by
  obtain ⟨h1, h2⟩ := tupD_shape us
  unfold SeqAt.shaped
  simp [h1, h2]
theorem rowsD_shape : ∀ tbl : List (List Int), PyData.canLayAll0 (tbl.map tupD) = true ∧ PyData.depthAll (tbl.map tupD) ≤ 1
  | [] => ⟨by simp [PyData.canLayAll0], by simp [PyData.depthAll]⟩
  | u :: us => by
    obtain ⟨h1, h2⟩ := rowsD_shape us
    obtain ⟨g1, g2⟩ := tupD_shape u
    refine ⟨by simp [PyData.canLayAll0, g1, h1], ?_⟩
    rw [List.map_cons, PyData.depthAll, g2]
    omega
theorem rowsD_shaped (tbl : List (List Int)) : SeqAt.shaped (.list (tbl.map tupD)) = true := by
  obtain ⟨h1, h2⟩ := rowsD_shape tbl
  unfold SeqAt.shaped
  have d : PyData.depth (.list (tbl.map tupD)) ≤ 2 := by
    rw [PyData.depth]
    omega
  simp [PyData.canLay0, h1]
  omega
theorem intsD_eqvAll : ∀ a b : List Int, PyData.eqvAll (a.map PyData.int) (b.map PyData.int) = decide (a = b)
  | [], [] => by simp [PyData.eqvAll]
  | [], _ :: _ => by simp [PyData.eqvAll]
  | _ :: _, [] => by simp [PyData.eqvAll]
  | x :: a, y :: b => by
    rw [List.map_cons, List.map_cons, PyData.eqvAll, intsD_eqvAll a b, PyData.eqv]
    by_cases h1 : x = y
    · by_cases h2 : a = b <;> simp [h1, h2]
    · simp [h1]
theorem tupD_eqv (a b : List Int) : PyData.eqv (tupD a) (tupD b) = decide (a = b) := by unfold tupD; rw [PyData.eqv, intsD_eqvAll]
theorem rowsD_eqvAll : ∀ a b : List (List Int), PyData.eqvAll (a.map tupD) (b.map tupD) = decide (a = b)
  | [], [] => by simp [PyData.eqvAll]
  | [], _ :: _ => by simp [PyData.eqvAll]
  | _ :: _, [] => by simp [PyData.eqvAll]
  | x :: a, y :: b => by
    rw [List.map_cons, List.map_cons, PyData.eqvAll, rowsD_eqvAll a b, tupD_eqv]
    by_cases h1 : x = y
    · by_cases h2 : a = b <;> simp [h1, h2]
    · simp [h1]
theorem rowsD_eqv (a b : List (List Int)) : PyData.eqv (.list (a.map tupD)) (.list (b.map tupD)) = decide (a = b) := by rw [PyData.eqv, rowsD_eqvAll]
theorem dpD_ints {K : PySem.W.Frag} {H : Hp} : ∀ ks : List Int, DpAll K H (ks.map V.int) (ks.map PyData.int)
  | [] => .nil
  | k :: ks => .cons (.int k) (dpD_ints ks)
theorem dpD_tup {K : PySem.W.Frag} {H : Hp} {p : Addr} {us : List Int} (h : H p = some (.tup (us.map V.int))) : Dp K H (.ref p) (tupD us) := .tup (SqT.of h) (dpD_ints us)
theorem dpD_tups {K : PySem.W.Frag} {H : Hp} {n : Nat} : ∀ {ps : List Addr} {tbl : List (List Int)}, Paired (fun p us => H p = some (.tup (us.map V.int)) ∧ us.length = n) ps tbl → DpAll K H (ps.map V.ref) (tbl.map tupD)
  | _, _, .nil => .nil
  | _, _, .cons h t => .cons (dpD_tup h.1) (dpD_tups t)
theorem dpD_rows {K : PySem.W.Frag} {H : Hp} {ra : Addr} {n : Nat} {tbl : List (List Int)} (h : TRows H ra n tbl) : Dp K H (.ref ra) (.list (tbl.map tupD)) := by
  obtain ⟨ps, o, pr⟩ := h
  exact .lst (SqL.of o) (dpD_tups pr)
def spAreInts : Sp := fun vs H Q _ => ∃ (p : Addr) (us : List Int), vs = [.ref p] ∧ H p = some (.tup (us.map V.int)) ∧ us.length < 1000 ∧ ∀ H', Same H H' → Q (.bl true) H'
def spIsWorld (C : Addr) : Sp := fun vs H Q _ => ∃ (a d : Addr) (ns : List Str) (tbl : List (List Int)) (kvs : List (Key × V)) (us : List Int), vs = [.ref a, .ref d] ∧ TabAt H C a ns tbl ∧ ns.Nodup ∧ ns.length < 1000 ∧ H d = some (.dK kvs) ∧ RowD ns kvs us ∧ us ∈ tbl ∧ ∀ H', Same H H' → Q (.bl true) H'
def spAnswers (C : Addr) : Sp := fun vs H Q _ => ∃ (a d : Addr) (ns : List Str) (tbl : List (List Int)) (kvs : List (Key × V)) (us : List Int), vs = [.ref a, .ref d] ∧ TabAt H C a ns tbl ∧ ns.Nodup ∧ ns.length < 1000 ∧ H d = some (.dK kvs) ∧ RowD ns kvs us ∧ us ∈ tbl ∧
  ∀ H' q, H q = none → H' q = some (.dK (dk ns us)) → Same H H' → Q (.ref q) H'
def spEqT (C : Addr) : Sp := fun vs H Q _ => ∃ (a b : Addr) (n1 n2 : List Str) (t1 t2 : List (List Int)), vs = [.ref a, .ref b] ∧ TabAt H C a n1 t1 ∧ TabAt H C b n2 t2 ∧ (∀ x ∈ n1, NmOk x) ∧ (∀ x ∈ n2, NmOk x) ∧ Q (.bl (decide (n1 = n2) && decide (t1 = t2))) H
abbrev NAi : List Str := ["thing", "part"]
theorem scAreInts : FnScope NAi ["thing"] (defScope sAreInts) := ⟨rfl, rfl, rfl, by decide +kernel, rfl, by decide +kernel, by decide +kernel⟩
abbrev NIw : List Str := ["self", "thing", "row", "name"]
theorem scIsWorld : FnScope NIw ["self", "thing"] (defScope sIsWorld) := ⟨rfl, rfl, rfl, by decide +kernel, rfl, by decide +kernel, by decide +kernel⟩
abbrev NAn : List Str := ["self", "world", "name"]
theorem scAnswers : FnScope NAn ["self", "world"] (defScope sAnswers) := ⟨rfl, rfl, rfl, by decide +kernel, rfl, by decide +kernel, by decide +kernel⟩
theorem scEq : FnScope ["self", "other"] ["self", "other"] (defScope sEq) := ⟨rfl, rfl, rfl, by decide +kernel, rfl, by decide +kernel, by decide +kernel⟩
section
variable {P : Program} {w : World} {K : PySem.W.Frag} {mg : Str → Option Value} {base : Heap} {f C fG fJ fA fW : Addr} {fd fdG fdJ fdA fdW : FuncData}
theorem ok_areInts (F : Fun K "_are_integers" "_are_integers" sAreInts f fd) (FG : Fun K "is_integer" "is_integer" sIsInt fG fdG) (gIG : mg "is_integer" = some (.ref fG)) (gI : mg "isinstance" = none) (gT : mg "tuple" = none) (gA : mg "all" = none) (gInt : mg "int" = none) (gB : mg "bool" = none) : FnOk P w K mg base CX0 2 f fd ["thing"] spAreInts := by
  have GG : FnOk P w K mg base CX0 1 fG fdG ["thing"] spIsInt := ok_isInt FG gI gInt gB
  have bG := FG.binds (ps := ["thing"]) fun _ _ _ _ _ _ us hl => match us, hl with | [_], _ => rfl
  refine F.ok scAreInts (fun vs H Q E h => by obtain ⟨p, us, e, _⟩ := h; rw [e]; rfl) fun cdv A outer s H vs Q E hr hsp => ?_
  obtain ⟨p, us, rfl, op, sh, hq⟩ := hsp
  have nd := scAreInts.nd
  refine ⟨_, pss_one (ps_ret (pe_and (pe_callB (r := rIsi K) call_isi rfl gI boot_isi (pa_cons (pv 0) (pa_cons (pe_bltn (v := .ty "tuple") rfl gT boot_tuple' rfl) pa_nil)))
    (pe_one (pe_callB (cr_all rfl) rfl gA boot_all' (pa_cons (pe_lc (own := [("part", 1)]) (tt := tYes) rfl nd (pi_seq (pv 0)) (blkOk_by (N := NAi) (sc := defScope sAreInts) (by decide +kernel)) (fun _ _ _ _ _ => pg_name (i := 1) nd rfl (Or.inl rfl)) (fun _ _ _ _ _ => pts_nil)
      (fun _ _ _ _ _ => pe_call GG hr rfl gIG FG.kp bG .nil pass0 (pa_cons (pv 1) pa_nil))) pa_nil))))), ?_⟩
  refine ⟨_, rfl, _, _, _, _, true, rfl, .ty _, .base (.tup op), kit_ty (by decide +kernel), _, rfl, iteT ?_⟩
  refine ⟨_, rfl, lc_seq (.inr rfl) op (by rw [List.length_map]; omega) (fun _ => true) (fun _ => .bl true) ?_ ?_⟩
  · rintro i v H2 Cn Nn ev s2 yes no
    rw [List.getElem?_map] at ev
    obtain ⟨k, ek, rfl⟩ := Option.map_eq_some_iff.mp ev
    exact ⟨rfl, _, rfl, k, rfl, yes rfl H2 (Same.refl _)⟩
  · intro H2 D nD oD s2
    have e : ((us.map V.int).filter fun _ => true).map (fun _ => V.bl true) = bools us.length := by
      rw [List.filter_eq_self.mpr (fun _ _ => rfl), List.map_map]
      unfold bools
      clear op hq sh oD
      induction us with
      | nil => rfl
      | cons a l ih => rw [List.map_cons, ih, List.length_cons, List.replicate_succ]; rfl
    rw [e, bools_map] at oD
    refine ⟨D, _, rfl, SqL.of oD, ?_⟩
    rw [all_true]
    exact hq H2 s2
theorem ok_isWorld (F : Fun K "_is_world" "Table._is_world" sIsWorld f fd) (T : TabC K C) (GJ : FnOk P w K mg base CX0 1 fJ fdJ ["thing", "names"] (spHasJustG K)) (FJ : Fun K "has_just" "has_just" sHasJust fJ fdJ) (gJ : mg "has_just" = some (.ref fJ))
    (GA : FnOk P w K mg base CX0 2 fA fdA ["thing"] spAreInts) (FA : Fun K "_are_integers" "_are_integers" sAreInts fA fdA) (gA : mg "_are_integers" = some (.ref fA)) (gT : mg "tuple" = none) : FnOk P w K mg base CX0 3 f fd ["self", "thing"] (spIsWorld C) := by
  have bJ := FJ.binds (ps := ["thing", "names"]) fun _ _ _ _ _ _ us hl => match us, hl with | [_, _], _ => rfl
  have bA := FA.binds (ps := ["thing"]) fun _ _ _ _ _ _ us hl => match us, hl with | [_], _ => rfl
  refine F.ok scIsWorld (fun vs H Q E h => by obtain ⟨a, d, ns, tbl, kvs, us, e, _⟩ := h; rw [e]; rfl) fun cdv A outer s H vs Q E hr hsp => ?_
  obtain ⟨a, d, ns, tbl, kvs, us, rfl, tab, nnd, nsh, od, rd, uin, hq⟩ := hsp
  obtain ⟨dx, qa, ra, ha, hqa, hra⟩ := id tab.ex
  have nd := scIsWorld.nd
  have hu := hu_of hr
  have hu65 : (A.deeper (envOfC "Table._is_world" (defScope sIsWorld) s.heap.objs.size f cdv)).units + 65 < cLine := by have := hr.un; omega
  refine ⟨_, pss_cons (ps_if (pt_not (pt_val (pe_call GJ (hr.mono (by decide)) rfl gJ FJ.kp bJ .nil pass0 (pa_cons (pv 1) (pa_cons (pe_fld (pv 0) rfl) pa_nil))))) (pss_one ps_never) pss_nil)
    (pss_cons (ps_set (i := 2) nd rfl (Or.inl rfl) (pe_callTy (r := rTupOf K) call_tuple_of rfl gT boot_tuple' (pa_cons (pe_lc (own := [("name", 3)]) (tt := tYes) rfl nd (pi_list (pe_fld (pv 0) rfl)) (blkOk_by (N := NIw) (sc := defScope sIsWorld) (by decide +kernel)) (fun _ _ _ _ _ => pg_name (i := 3) nd rfl (Or.inl rfl)) (fun _ _ _ _ _ => pts_nil)
        (fun _ _ _ _ _ => pe_dget hu (pv 1) (pv 3) (fun _ _ => rfl))) pa_nil)))
    (pss_one (ps_ret (pe_and (pe_call GA hr rfl gA FA.kp bA .nil pass0 (pa_cons (pv 2) pa_nil)) (pe_one (pe_cmpR (op_inD hu65) (pv 2) (pe_fld (pv 0) rfl) rfl)))))), ?_⟩
  refine ⟨_, rfl, _, rfl, a, C, dx, _, _, rfl, ha, T.cl, T.nQ, rfl, d, qa, kvs, ns, rfl, od, hqa, rd.size, fun x hx => ⟨_, rd.val x hx⟩, nsh, fun H1 k1 => ⟨_, rfl, iteF ?_⟩⟩
  refine ⟨_, rfl, a, C, dx, _, _, rfl, k1 _ _ ha, T.cl, T.nQ, rfl, qa, rfl, ⟨_, SqL.of (k1 _ _ hqa)⟩, lc_gen ((ns.map (av ns us)).map V.int) (by rw [List.length_map, List.length_map]; omega) (fun j H' s lt => ⟨ns.map V.str, _, SqL.of (s _ _ (k1 _ _ hqa)), List.getElem?_eq_getElem (by rw [List.length_map, List.length_map] at lt; rw [List.length_map]; exact lt)⟩) (fun H' s => ⟨ns.map V.str, SqL.of (s _ _ (k1 _ _ hqa)), by rw [List.length_map, List.length_map, List.length_map]; omega⟩) ?_ ?_⟩
  · rintro j x y H6 H7 Cm Nm ey s6 ⟨rfl, ex⟩ yes2
    have ex := ex _ (SqL.of (s6 _ _ (k1 _ _ hqa)))
    rw [List.getElem?_map] at ex
    obtain ⟨z, ez, rfl⟩ := Option.map_eq_some_iff.mp ex
    rw [List.getElem?_map, List.getElem?_map, ez] at ey
    obtain rfl : V.int (av ns us z) = y := Option.some.inj ey
    refine ⟨rfl, ?_⟩
    exact ⟨_, rfl, _, rfl, d, _, rfl, rd.val z (List.mem_of_getElem? ez) ▸ DGet.k (k := Sum.inr z) (s6 _ _ (k1 _ _ od)), yes2 H7 (Same.refl _)⟩
  · intro H6 l nl ol s6
    rw [av_all nnd rd.len] at ol
    refine ⟨l, _, rfl, .inl ⟨SqL.of ol, fun t nt => ?_⟩⟩
    have st := same_new (o := .tup (us.map V.int)) nt
    have ot : upd H6 t (.tup (us.map V.int)) t = some (.tup (us.map V.int)) := upd_same
    have k2 := (k1.trans s6).trans st
    generalize upd H6 t (.tup (us.map V.int)) = H7 at ot k2
    refine ⟨_, rfl, t, us, rfl, ot, by rw [rd.len]; exact nsh, fun H8 k8 => ⟨_, rfl, iteT ?_⟩⟩
    have k3 := k2.trans k8
    refine ⟨_, rfl, _, rfl, a, C, dx, _, _, rfl, k3 _ _ ha, T.cl, T.nR, rfl, tupD us, tbl.map tupD, dpD_tup (k8 _ _ ot), dpD_rows (hra.same k3), tupD_shaped us, rowsD_shaped tbl, ?_⟩
    have any : ((tbl.map tupD).any fun z => PyData.eqv z (tupD us)) = true := by
      rw [List.any_eq_true]
      exact ⟨tupD us, List.mem_map_of_mem uin, by rw [tupD_eqv]; simp⟩
    rw [any]
    exact hq _ k3
theorem ok_answers (F : Fun K "answers" "Table.answers" sAnswers f fd) (T : TabC K C) (GW : FnOk P w K mg base CX0 3 fW fdW ["self", "thing"] (spIsWorld C)) (FW : Fun K "_is_world" "Table._is_world" sIsWorld fW fdW) (mW : Meth K C "_is_world" fW) : FnOk P w K mg base CX0 4 f fd ["self", "world"] (spAnswers C) := by
  have bW := FW.binds (ps := ["self", "thing"]) fun _ _ _ _ _ _ us hl => match us, hl with | [_, _], _ => rfl
  refine F.ok scAnswers (fun vs H Q E h => by obtain ⟨a, d, ns, tbl, kvs, us, e, _⟩ := h; rw [e]; rfl) fun cdv A outer s H vs Q E hr hsp => ?_
  obtain ⟨a, d, ns, tbl, kvs, us, rfl, tab, nnd, nsh, od, rd, uin, hq⟩ := hsp
  obtain ⟨dx, qa, ra, ha, hqa, hra⟩ := id tab.ex
  have nd := scAnswers.nd
  have hu := hu_of hr
  refine ⟨_, pss_cons (ps_if (pt_not (pt_val (pe_meth (pv 0) T.cl mW GW hr bW .nil pass0 (pa_cons (pv 1) pa_nil)))) (pss_one ps_never) pss_nil)
    (pss_one (ps_ret (pe_dc (own := [("name", 2)]) (tt := tYes) (g := gName 2) (tk := tVar 2) (tv := tDGet (tVar 1) (tVar 2)) rfl nd (pi_list (pe_fld (pv 0) rfl)) (blkOk_by (N := NAn) (sc := defScope sAnswers) (by decide +kernel)) (fun _ _ _ _ _ => pg_name (i := 2) nd rfl (Or.inl rfl)) (fun _ _ _ _ _ => pts_nil) (fun _ _ _ _ _ => pv 2) (fun _ _ _ _ _ => pe_dget hu (pv 1) (pv 2) (fun _ _ => rfl))))), ?_⟩
  refine ⟨_, rfl, a, dx, _, rfl, ha, rfl, _, rfl, a, d, ns, tbl, kvs, us, rfl, tab, nnd, nsh, od, rd, uin, fun H1 k1 => ⟨_, rfl, iteF ?_⟩⟩
  refine ⟨_, rfl, a, C, dx, _, _, rfl, k1 _ _ ha, T.cl, T.nQ, rfl, qa, rfl, ⟨_, SqL.of (k1 _ _ hqa)⟩, dc_gen (Q := fun D H' => Q (.ref D) H') (dk ns us) (by rw [dk_len rd.len]; omega) (dk_nd rd.len.symm nnd) (fun j H' s lt => ⟨_, _, SqL.of (s _ _ (k1 _ _ hqa)), List.getElem?_eq_getElem (by rw [List.length_map]; rw [dk_len rd.len] at lt; exact lt)⟩) (fun H' s => ⟨_, SqL.of (s _ _ (k1 _ _ hqa)), by rw [List.length_map, dk_len rd.len]; omega⟩) ?_ fun H5 D nD oD s5 => hq _ _ (k1.free nD) oD (k1.trans s5)⟩
  rintro j v k z H5 H6 Cm Nm ekv s5 ⟨rfl, ev⟩ yes2
  have ev := ev _ (SqL.of (s5 _ _ (k1 _ _ hqa)))
  obtain ⟨y, n, rfl, rfl, ey, _⟩ := dk_at ekv nnd rd.len.symm
  have en : n = av ns us y := by
    have q := val_at _ _ _ (dk_nd rd.len.symm nnd) (List.mem_of_getElem? ekv)
    rw [dk_av nnd rd.len (List.mem_of_getElem? ey)] at q
    exact (V.int.inj (Option.some.inj q)).symm
  subst en
  rw [List.getElem?_map, ey] at ev
  obtain rfl : V.str y = v := Option.some.inj ev
  refine ⟨rfl, ?_⟩
  exact ⟨_, rfl, _, rfl, _, rfl, d, _, rfl, rd.val y (List.mem_of_getElem? ey) ▸ DGet.k (k := Sum.inr y) (s5 _ _ (k1 _ _ od)), yes2 _ (Same.refl _)⟩
theorem ok_eqT (F : Fun K "__eq__" "Table.__eq__" sEq f fd) (T : TabC K C) (IC : C8.InsC K C) (gC : mg "Table" = some (.ref C)) (gI : mg "isinstance" = none) : FnOk P w K mg base CX0 1 f fd ["self", "other"] (spEqT C) := by
  refine F.ok scEq (fun vs H Q E h => by obtain ⟨a, b, n1, n2, t1, t2, e, _⟩ := h; rw [e]; rfl) fun cdv A outer s H vs Q E hr hsp => ?_
  obtain ⟨a, b, n1, n2, t1, t2, rfl, ta, tb, ok1, ok2, hq⟩ := hsp
  obtain ⟨dx, qa, ra, ha, hqa, hra⟩ := id ta.ex
  obtain ⟨dy, qb, rb, hb, hqb, hrb⟩ := id tb.ex
  have hu64 := hr.units
  refine ⟨_, pss_cons (ps_if (pt_not (pt_val (pe_callB (C8.call_isC IC) rfl gI boot_isi (pa_cons (pv 1) (pa_cons (pe_glob (v := .ref C) rfl gC rfl) pa_nil))))) (pss_one (ps_ret pe_bl)) pss_nil)
    (pss_one (ps_ret (pe_and (pe_cmpR (op_eqD hu64) (pe_fld (pv 0) rfl) (pe_fld (pv 1) rfl) (nomark _)) (pe_one (pe_cmpR (op_eqD hu64) (pe_fld (pv 0) rfl) (pe_fld (pv 1) rfl) (nomark _)))))), ?_⟩
  refine ⟨_, rfl, b, dy, _, rfl, hb, _, rfl, iteF ?_⟩
  have s1 : ∀ x ∈ n1, PyData.strOk x = true := fun x hx => nm_strOk (ok1 x hx)
  have s2 : ∀ x ∈ n2, PyData.strOk x = true := fun x hx => nm_strOk (ok2 x hx)
  refine ⟨_, rfl, a, C, dx, _, _, rfl, ha, T.cl, T.nQ, rfl, _, rfl, b, C, dy, _, _, rfl, hb, T.cl, T.nQ, rfl, _, _, dp_list hqa, dp_list hqb, strs_shaped _ s1, strs_shaped _ s2, _, rfl, ?_⟩
  rw [strs_eqv]
  by_cases e : n1 = n2
  · rw [decide_eq_true e] at hq ⊢
    refine iteT ⟨_, rfl, a, C, dx, _, _, rfl, ha, T.cl, T.nR, rfl, _, rfl, b, C, dy, _, _, rfl, hb, T.cl, T.nR, rfl, _, _, dpD_rows hra, dpD_rows hrb, rowsD_shaped _, rowsD_shaped _, ?_⟩
    rw [rowsD_eqv]
    exact hq
  · rw [decide_eq_false e] at hq ⊢
    exact iteF hq
end
end L2.TB
namespace L2.TB
open PySem PySem.Spec PyProof.Rows
/-! == and != of two of one class with an own __eq__ -/
section
variable {X : Cx} {CX : CXT} {k : Nat} {f C : Addr} {fd : FuncData} {ps : List Str} {sp : Sp} {E : XK}
def rEqI (C : Addr) (sp : Sp) (E : XK) (g : Bool → Bool) : R2 := fun x y H Q => ∃ a b dx dy fs gs, x = .ref a ∧ y = .ref b ∧ H a = some (.ins C dx fs) ∧ H b = some (.ins C dy gs) ∧ sp [.ref a, .ref b] H (fun v H' => ∃ t, v = .bl t ∧ Q (.bl (g t)) H') E
theorem rel_bl {v : V} {t : Bool} {u : Value} (e : v = .bl t) (r : RelV v u) : u = .bool t := by
  subst e
  exact r
/-- the method's call -/
theorem call_eqI (F : FnOk X.prog X.w X.K X.mg X.base CX k f fd ps sp) {A : Around} (hr : Room k A) (hA : A.frames = X.A.frames) (hb : Binds X.K fd ps []) (hx : Passes CX X E) {pins : List (Addr × Obj)} {σ : St} {H : Hp} {s : Shared} (I : Inv X pins σ H s) {a b : Addr} {R : Bool → Hp → Prop}
    (hsp : sp [.ref a, .ref b] H (fun v H' => ∃ t, v = .bl t ∧ R t H') E) {Q : Value → Shared → Prop} (fin : ∀ t H' s', Inv X pins σ H' s' → R t H' → Q (.bool t) s') :
    wpAny (model X.prog X.w) A (call (.ref f) [.ref a, .ref b]) Q X.xe s := by
  have e0 : Env0 X.prog X.w X.K X.mg X.base A X.stack s H := by
    have z := I.env0
    exact ⟨by rw [hA]; exact z.frames, z.mod, z.bs, z.bsz, z.funs, z.frf, z.hok, z.bare⟩
  have many := F.len _ _ _ _ hsp
  have two : Vals [V.ref a, V.ref b] [Value.ref a, Value.ref b] := .cons rfl (.cons rfl .nil)
  have ok := F.run A X.stack s H ⟨[.ref a, .ref b], []⟩ [.ref a, .ref b] [.ref a, .ref b] _ E hr e0 (by simpa using hb s [.ref a, .ref b] I.kIn (by simpa using many)) two hsp
  refine wpAny_call (codeAny_mono ok fun q s' got => ?_)
  cases q with
  | error e => exact hx pins σ H s e s' I got
  | ok fl =>
    cases fl with
    | next => exact got.elim
    | brk => exact got.elim
    | cont => exact got.elim
    | ret v =>
      obtain ⟨u, H', I', ru, t, et, q⟩ := I.after got
      have ev := rel_bl et ru
      subst ev
      exact fin t H' s' I' q
theorem op_eqI (F : FnOk X.prog X.w X.K X.mg X.base CX k f fd ps sp) (hr : Room k X.A) (hm : Meth X.K C "__eq__" f) (hb : Binds X.K fd ps []) (hx : Passes CX X E) : OpR X (compareOp .Eq) (rEqI C sp E id) := by
  intro pins s σ H x y v u Q I rx ry h
  obtain ⟨a, b, dx, dy, fs, gs, rfl, rfl, ha, hb', hsp⟩ := h
  have ev := rel_ref rfl rx
  have eu := rel_ref rfl ry
  subst ev eu
  obtain ⟨mA, JA, _⟩ := ins_get I.hok ha
  obtain ⟨mB, JB, _⟩ := ins_get I.hok hb'
  obtain ⟨od, LA, _⟩ := JA.look
  obtain ⟨od', LB, _⟩ := JB.look
  obtain ⟨m, hF⟩ := I.fr
  show wpAny _ _ (richCompare .Eq (.ref a) (.ref b)) _ _ _
  refine PySem.W.cmp_K (op := .Eq) (tb := .ref C) (by have := hr.un; omega) hF I.ok.mod.kin LA LB.type (by simp [PySem.W.notFirst]) hm.at_ hm.fn ?_
  exact call_eqI F hr rfl hb hx I hsp fun t H' s' I' q => ⟨.bl t, H', I', rfl, q⟩
/-- object's own != asks for == -/
theorem op_neI (G : FnOk X.prog X.w X.K X.mg X.base CX k f fd ps sp) (hr : Room (k + 2) X.A) (hm : Meth X.K C "__eq__" f) (hne : PySem.W.findIn X.K (.ref C) "__ne__" = some (some (.builtin "object.__ne__"))) (hob : PySem.W.mroIn X.K C (.type "object") = some true)
    (hb : Binds X.K fd ps []) (hx : Passes CX X E) : OpR X (compareOp .NotEq) (rEqI C sp E fun t => !t) := by
  intro pins s σ H x y v u Q I rx ry h
  obtain ⟨a, b, dx, dy, fs, gs, rfl, rfl, ha, hb', hsp⟩ := h
  have ev := rel_ref rfl rx
  have eu := rel_ref rfl ry
  subst ev eu
  obtain ⟨mA, JA, _⟩ := ins_get I.hok ha
  obtain ⟨mB, JB, _⟩ := ins_get I.hok hb'
  obtain ⟨od, LA, _⟩ := JA.look
  obtain ⟨od', LB, _⟩ := JB.look
  have Xs := I.kIn
  have hun := hr.un
  have low : X.A.units < cLine := by omega
  have low1 : X.A.in1.units < cLine := by
    have := (hr.in1).un
    omega
  have isO : PySem.W.subIn X.K (.ref C) (.type "object") = some true := hob
  -- the builtin's run
  have body : ∀ {Q' : Value → Shared → Prop}, (∀ t H' s', Inv X pins σ H' s' → Q (.bl (!t)) H' → Q' (.bool (!t)) s') → wpAny (model X.prog X.w) X.A (call (.builtin "object.__ne__") [.ref a, .ref b]) Q' X.xe s := by
    intro Q' fin
    have inner : ∀ {Q2 : Option Value → Shared → Prop}, (∀ t H' s', Inv X pins σ H' s' → Q (.bl (!t)) H' → Q2 (some (.bool t)) s') → wpAny (model X.prog X.w) X.A.in1 (callSpecialIfBound? (.ref a) "__eq__" [.ref b]) Q2 X.xe s := by
      intro Q2 fin2
      refine PySem.W.ifBound_K Xs LA hm.at_ hm.fn (call_eqI G (hr.in1.mono (by omega)) rfl hb hx I hsp fun t H' s' I' q => fin2 t H' s' I' q)
    refine wpAny_call (codeAny_call_builtin PySem.F.cmp_object.ne.plain PySem.F.cmpEntry_ne (PySem.W.check_slot PySem.F.cmpKind_ne PySem.F.cmpSplit_ne (LA.type.andThen (PySem.W.looks_subIn Xs isO)) (PySem.F.cmpArgs_ne _ _) ?_))
    unfold Builtin.«object.__ne__»
    repeat (first | with_reducible refine wpAny_cRoomFor low1 ?_ | with_reducible refine inner fun t H' s' I' q => ?_ | wp_step)
    exact fin t H' s' I' q
  have one : wpAny (model X.prog X.w) X.A (tryCompare (.ref a) "__ne__" (.ref b)) (fun r s' => ∃ v, r = some v ∧ EP X pins σ Q v s') X.xe s := by
    have told : wpAny (model X.prog X.w) X.A (call (.builtin "object.__ne__") ([.ref a] ++ [.ref b]) >>= fun v => pure (some v)) (fun r s' => ∃ t H', r = some (.bool (!t)) ∧ Inv X pins σ H' s' ∧ Q (.bl (!t)) H') X.xe s :=
      wpAny_bind (body fun t H' s' I' q => wpAny_pure ⟨t, H', rfl, I', q⟩)
    have asked : wpAny (model X.prog X.w) X.A (callSpecialIfBound? (.ref a) "__ne__" [.ref b]) (fun r s' => ∃ t H', r = some (.bool (!t)) ∧ Inv X pins σ H' s' ∧ Q (.bl (!t)) H') X.xe s := by
      simp only [callSpecialIfBound?, bindSpecialIfBound?]
      refine wpAny_holding (wpAny_bind (wpAny_bind (wpAny_bind (LA.type.here ((PySem.W.looks_findIn Xs hne).here (wpAny_bind (wpAny_askSetting (wpAny_ite ?_))))))))
      have bd := PySem.F.cmp_object.ne.bind (.ref a)
      split
      · rw [bd]
        exact wpAny_bind (wpAny_pure (wpAny_pure told))
      · rw [bd]
        exact wpAny_tryCatch (wpAny_bind (wpAny_pure (wpAny_pure told)))
    unfold tryCompare
    refine wpAny_bind (wpAny_mono asked (fun r s' z => ?_) fun _ _ e => e)
    obtain ⟨t, H', rfl, I', q⟩ := z
    exact wpAny_pure ⟨_, rfl, .bl (!t), H', I', rfl, q⟩
  show wpAny _ _ (richCompare .NotEq (.ref a) (.ref b)) _ _ _
  unfold richCompare
  simp only [oneThing_ref]
  refine wpAny_holding (wpAny_bind (wpAny_cRoomFor low (wpAny_bind (LA.type.here (wpAny_bind (LB.type.here ?_))))))
  simp only [bne_self_eq_false, Bool.false_eq_true, if_false]
  refine wpAny_bind (wpAny_pure (wpAny_bind (wpAny_mono one (fun r s' z => ?_) fun _ _ e => e)))
  obtain ⟨v, rfl, q⟩ := z
  exact wpAny_pure q
end
end L2.TB
namespace L2.TB
open PySem PySem.Spec PyProof.Rows
/-! an own == asked about a thing of another kind -/
section
variable {X : Cx} {CX : CXT} {k : Nat} {f C : Addr} {fd : FuncData} {ps : List Str} {sp : Sp} {E : XK}
def rEqO (K : PySem.W.Frag) (C : Addr) (sp : Sp) (E : XK) : R2 := fun x y H Q => ∃ a dx fs t, x = .ref a ∧ H a = some (.ins C dx fs) ∧ TyX K H y t ∧ PySem.W.notFirst K C t = true ∧ sp [.ref a, y] H (fun v H' => ∃ b, v = .bl b ∧ Q (.bl b) H') E
theorem op_eqO (G : FnOk X.prog X.w X.K X.mg X.base CX k f fd ps sp) (hr : Room k X.A) (hm : Meth X.K C "__eq__" f) (hb : Binds X.K fd ps []) (hx : Passes CX X E) : OpR X (compareOp .Eq) (rEqO X.K C sp E) := by
  intro pins s σ H x y v u Q I rx ry h
  obtain ⟨a, dx, fs, t, rfl, ha, ty, nf, hsp⟩ := h
  have ev := rel_ref rfl rx
  subst ev
  obtain ⟨mA, JA, _⟩ := ins_get I.hok ha
  obtain ⟨od, LA, _⟩ := JA.look
  obtain ⟨m, hF⟩ := I.fr
  obtain ⟨Pt, Z, pt, _⟩ := kit_of I ry ty
  show wpAny _ _ (richCompare .Eq (.ref a) u) _ _ _
  refine PySem.W.cmp_K (op := .Eq) (tb := t) (by have := hr.un; omega) hF I.ok.mod.kin LA (Z.ty _ _ I.kIn pt) nf hm.at_ hm.fn ?_
  have z := run_fn (us := [Value.ref a, u]) (vs := [V.ref a, y]) G hr hb .nil hx I (.cons rfl (.cons ry .nil)) (by simpa using hsp)
  refine wpAny_mono z (fun r s' got => ?_) fun _ _ q => q
  obtain ⟨v0, H', I', rt, qq⟩ := got
  rcases qq with ⟨et, qq⟩ | ⟨et, qq⟩
  · have er := rel_bl et rt
    subst er
    exact ⟨.bl false, H', I', rfl, qq⟩
  · have er := rel_bl et rt
    subst er
    exact ⟨.bl true, H', I', rfl, qq⟩
end
def spEqO (K : PySem.W.Frag) (C : Addr) : Sp := fun vs H Q _ => ∃ (a : Addr) (y : V) (t : Value), vs = [.ref a, y] ∧ TyX K H y t ∧ PySem.W.kitOne K t (.ref C) = some false ∧ Q (.bl false) H
section
variable {P : Program} {w : World} {K : PySem.W.Frag} {mg : Str → Option Value} {base : Heap} {f C : Addr} {fd : FuncData}
theorem ok_eqO (F : Fun K "__eq__" "Table.__eq__" sEq f fd) (gC : mg "Table" = some (.ref C)) (gI : mg "isinstance" = none) : FnOk P w K mg base CX0 1 f fd ["self", "other"] (spEqO K C) := by
  refine F.ok scEq (fun vs H Q E h => by obtain ⟨a, y, t, e, _⟩ := h; rw [e]; rfl) fun cdv A outer s H vs Q E hr hsp => ?_
  obtain ⟨a, y, t, rfl, ty, no, hq⟩ := hsp
  refine ⟨_, pss_cons (ps_if (pt_not (pt_val (pe_callB (r := rIsi K) call_isi rfl gI boot_isi (pa_cons (pv 1) (pa_cons (pe_glob (v := .ref C) rfl gC rfl) pa_nil))))) (pss_one (ps_ret pe_bl)) pss_nil)
    (pss_one ps_never), ?_⟩
  exact ⟨_, rfl, y, .ref C, t, .ref C, false, rfl, .own C, ty, no, _, rfl, iteT hq⟩
end
end L2.TB
namespace L2.TB
open PySem PySem.Spec PyProof.Rows
/-! set(xs), xs a list of whole numbers -/
section
variable {P : Program} {w : World} {A : Around} {E : Value → Shared → Prop} {s : Shared}
abbrev bare (w : World) : Obj := { cls := .type "set", dict := none, data := .set #[] 0 (.fresh 0 0 (!w.params.followText "set-order")) }
theorem set_of_list {l : Addr} {xs : Array Value} (ns : List Int) {Q : Value → Shared → Prop} (calm : A.handled = none) (isL : s.heap.IsList l xs) (allI : IntsAre xs.toList ns) (room : ns.length + 1 < scanBound)
    (fin : ∀ (h' : Heap) (tk c : Nat), SetR w h' s.heap.objs.size (fun j => decide (j ∈ ns)) c → c ≤ ns.length → (∀ b o, s.heap.get? b = some o → h'.get? b = some o) → Q (.ref s.heap.objs.size) { s with heap := h', toks := tk }) :
    wpAny (model P w) A (call (.type "set") [.ref l]) Q E s := by
  have many : xs.size = ns.length := by
    rw [← Array.length_toList]
    exact IntsAre.length allI
  obtain ⟨c, tl, hmro⟩ := F.called_set.mro
  have hmade := F.called_set.made
  have hsub := F.called_set.sub
  refine wpAny_call (codeAny_of_tree (show wpAny _ _ (callAny (.type "set") _) _ _ _ from wpAny_pure ⟨Code.quiet_builtin _ (by decide +kernel), codeAny_builtin F.entry_type_call ?_⟩))
  rw [Around.under_plain (weight_type_call_type "set" [.ref l] []) rfl]
  have h1 := F.called_set.notType
  have h2 := F.called_set.canCreate
  have hct := F.typeCall_set_1 (.ref l)
  repeat (any_goals (first | assumption | wp_step))
  refine codeAny_mono (code_set_led1 (.ref l) (E := E) (Q₁ := fun obj s1 => obj = .ref s.heap.objs.size ∧ s1 = { s with heap := s.heap.push (bare w) }) ⟨rfl, rfl⟩) fun r s1 hr => ?_
  cases r with
  | error e => exact hr
  | ok fl =>
    cases fl with
    | ret obj =>
      obtain ⟨rfl, rfl⟩ := hr
      have newAt : (s.heap.push (bare w)).get? s.heap.objs.size = some (bare w) := Heap.get?_push_size _ rfl
      have isSet : Shared.TypeIs { s with heap := s.heap.push (bare w) } (.ref s.heap.objs.size) "set" := ⟨_, newAt, rfl⟩
      have hli := F.called_set.init.lookup
      have hbi := F.called_set.init.bind (.ref s.heap.objs.size)
      repeat (any_goals (first | assumption | wp_step))
      refine codeAny_mono (codeAny_call_builtin (R := wants (fun r s2 => r = .none ∧ ∃ h' tk c, s2 = { s with heap := h', toks := tk } ∧ SetR w h' s.heap.objs.size (fun j => decide (j ∈ ns)) c ∧ c ≤ ns.length ∧ (∀ b o, s.heap.get? b = some o → h'.get? b = some o)) E)
        F.called_set.init.plain F.entry_set_init (check_set_init_1 isSet ?_)) fun r2 s2 hr2 => ?_
      · obtain ⟨ol, gl, cl, nl, dl⟩ := isL
        obtain ⟨oc, odt, oda, osl⟩ := ol
        simp only at cl dl
        subst cl; subst dl
        have gl1 : (s.heap.push (bare w)).get? l = some { cls := .type "list", dict := odt, data := .seq xs nl, slots := osl } := Heap.get?_push_of_some _ gl
        have isL1 : (s.heap.push (bare w)).IsList l xs := ⟨_, gl1, rfl, nl, rfl⟩
        have n1 := F.sub_list_set
        have n2 := F.sub_list_frozenset
        have n3 : (Value.type "list" == Value.type "dict") = false := by decide
        have old : l < s.heap.objs.size := Heap.lt_size gl
        have size1 : (s.heap.push (bare w)).objs.size = s.heap.objs.size + 1 := Heap.size_push ..
        unfold Builtin.«set.__init__» noKeywords Builtin.Frozenset.updateFrom
        generalize named : pyIter = walk
        wp_walk
        subst named
        refine wpAny_pyIter_list isL1 (wpAny_bind (wpAny_runValue ?_))
        have far : l ≠ (s.heap.push (bare w)).objs.size := by rw [size1]; exact Nat.ne_of_lt (Nat.lt_succ_of_lt old)
        have out : s.heap.objs.size ∉ [(s.heap.push (bare w)).objs.size, l] := by
          rw [size1]
          intro z
          rcases List.mem_cons.mp z with e | e
          · exact absurd e (Nat.ne_of_lt (Nat.lt_succ_self _))
          · exact absurd (List.mem_singleton.mp e) (Nat.ne_of_gt old)
        have vals : ∀ (i : Nat) (v : Value), xs[i]? = some v → ∃ k t, ns[i]? = some k ∧ v = .int k t := fun i v ev => by
          have lt : i < ns.length := by rw [← many]; exact (Array.getElem?_eq_some_iff.mp ev).1
          obtain ⟨t, e⟩ := PyProof.Rows.IntsAre.int_at allI i v (by rw [Array.getElem?_toList]; exact ev)
          exact ⟨ns[i], t, List.getElem?_eq_getElem lt, by rw [e, List.getD_eq_getElem?_getD, List.getElem?_eq_getElem lt]; rfl⟩
        have calm3 : A.in1.in1.in1.handled = none := by simp [calm]
        refine set_update_ints ((Walks.list calm3 _ l far xs).toS) s.heap.objs.size out ns many room vals (xs.size - 0) 0 _ (by omega) (Nat.zero_le _) ⟨⟨_, Heap.get?_push_size _ rfl, rfl, rfl⟩, isL1.push _⟩ ⟨0, Nat.le_refl 0, setR_new_at (Heap.get?_push_of_some _ newAt)⟩ ?_
        rintro ⟨h', g2, d', tk', os'⟩ c' moved le R'
        have e1 : g2 = s.gens := moved.gens
        have e2 : d' = s.drawn := moved.drawn
        have e3 : os' = s.os := moved.os
        subst e1 e2 e3
        rw [many] at le
        show wpAny _ _ _ _ _ _
        refine wpAny_pure (show wpAny _ _ (ret Value.none) _ _ _ from wpAny_pure ⟨rfl, h', tk', c', rfl, R', le, fun b o e => ?_⟩)
        have lb : b < s.heap.objs.size := Heap.lt_size e
        refine moved.heap b o (fun z => ?_) (Heap.get?_push_of_some _ (Heap.get?_push_of_some _ e))
        rcases List.mem_cons.mp z with q | q
        · exact absurd q (Nat.ne_of_lt lb)
        · rw [size1] at q
          exact absurd (List.mem_singleton.mp q) (Nat.ne_of_lt (Nat.lt_succ_of_lt lb))
      · cases r2 with
        | error e => exact hr2
        | ok f2 =>
          cases f2 with
          | ret r =>
            obtain ⟨rfl, h', tk, c', rfl, R', le, kept⟩ := hr2
            repeat (any_goals (first | assumption | wp_step))
            exact fin _ _ _ R' le kept
          | _ => exact hr2.elim
    | _ => exact hr.elim
end
/-- set(xs) -/
def rSetL (K : PySem.W.Frag) (w : World) : List V → Hp → VK → Prop := fun vs H Q => ∃ (l : Addr) (ns : List Int), vs = [V.ref l] ∧ SqL K H l (ns.map V.int) ∧ ns.length < 4000 ∧ ∀ p c, H p = none → c ≤ ns.length → Q (.ref p) (upd H p (SetO w p (fun j => decide (j ∈ ns)) c))
theorem ints_of : ∀ {ns : List Int} {us : List Value}, Vals (ns.map V.int) us → IntsAre us ns
  | [], _, .nil => .nil
  | n :: ns, _, .cons r t => by
    obtain ⟨tk, rfl⟩ := r
    exact .cons n tk (ints_of t)
theorem cr_setL {X : Cx} (calm : X.calm = true) : CallR X (.type "set") (rSetL X.K X.w) := by
  intro pins s σ H vs us Q I r h
  obtain ⟨l, ns, rfl, sq, short, q⟩ := h
  rw [Vals.ref1 r]
  obtain ⟨its, rv, pl, _⟩ := I.list sq
  have free : H s.heap.objs.size = none := I.hok.fresh (Nat.le_refl _)
  refine set_of_list (P := X.prog) (w := X.w) ns (I.ok.hd calm) pl.isList (ints_of rv) (by show ns.length + 1 < 4096; omega) fun h' tk c R le kept => ?_
  exact ⟨.ref s.heap.objs.size, _, I.laid (t' := tk) kept (Nat.le_refl _) (setO_new R), rfl, q _ c free le⟩
end L2.TB
namespace L2.TB
open PySem PySem.Spec PyProof.Rows
/-! the law's rows, turned -/
theorem cut_from (xs : List V) (k : Nat) (h : k ≤ xs.length) : cutV xs (some (k : Int)) none = xs.drop k := by
  have e1 : HT.sIx xs.length 0 (some (k : Int)) = k := by
    unfold HT.sIx
    simp only []
    rw [if_neg (show ¬ (k : Int) < 0 by omega)]
    omega
  have e2 : HT.sIx xs.length xs.length none = xs.length := rfl
  unfold cutV
  rw [e1, e2]
  exact List.take_of_length_le (by rw [List.length_drop]; exact Nat.le_refl _)
theorem paired_drop {α β : Type} {R : α → β → Prop} : ∀ (k : Nat) {xs : List α} {ys : List β}, Paired R xs ys → Paired R (xs.drop k) (ys.drop k)
  | 0, _, _, h => h
  | k + 1, _, _, .nil => .nil
  | k + 1, _, _, .cons _ t => paired_drop k t
theorem gvn_rowD {ns known : List Str} {us : List Int} (pm : known.Perm ns) (nd : ns.Nodup) (l : us.length = ns.length) : RowD ns (gvn ns known us) us :=
  ⟨by rw [gvn_keys]; exact pm.map _, fun x hx => gvn_val (pm.nodup_iff.mpr nd) (pm.mem_iff.mpr hx), l⟩
/-- pairs of names and answers -/
theorem given_lc {J : It} {K : PySem.W.Frag} {g : TG} {tt : TT} {te : TE} {vs : List Nat} {σ : St} {H1 : Hp} {Q : Addr → Hp → Prop} (ns known : List Str) (us : List Int) (short : known.length < 1000) (go : ∀ i H, Same H1 H → i < known.length → J.go i H) (stop : ∀ H, Same H1 H → J.stop known.length H)
    (turn : ∀ (i : Nat) (v : V) (x : Str) (H H' : Hp) (C : V → Hp → Prop) (N : Hp → Prop), known[i]? = some x → Same H1 H → J.yld i H v H' → (∀ t H4, H4 t = some (.tup [V.str x, V.int (av ns us x)]) → Same H H4 → C (.ref t) H4) → g v (wipe σ vs) H' fun σ2 H2 => wipe σ2 vs = wipe σ vs ∧ tt σ2 H2 fun b H3 => if b = true then te σ2 H3 C else N H3)
    (fin : ∀ H D ps, H1 D = none → H D = some (.lst ((ps : List Addr).map V.ref)) → Paired (fun p (kv : Key × V) => SqT K H p [kV kv.1, kv.2]) ps (gvn ns known us) → Same H1 H → Q D H) : LcW J g tt te vs σ H1 Q := by
  refine lc_made known.length (by omega) go stop (fun i y H' => ∃ t x, y = V.ref t ∧ known[i]? = some x ∧ H' t = some (.tup [V.str x, V.int (av ns us x)])) ?_ ?_ ?_
  · rintro i y H2 H3 D l ⟨t, x, rfl, ex, ot⟩ oD keep
    exact ⟨t, x, rfl, ex, keep _ _ (ne_of ot oD (by intro z; cases z)) ot⟩
  · intro i v H2 H3 C N lt s2 yl yes
    have ex : known[i]? = some known[i] := List.getElem?_eq_getElem lt
    exact turn i v known[i] H2 H3 C N ex s2 yl fun t H4 ot s4 => yes _ _ ⟨t, _, rfl, ex, ot⟩ s4
  · intro H2 D ys nD oD ly ry s2
    obtain ⟨ps, rfl, pa⟩ := addrs_of (H := H2) (P := fun i t => ∃ x, known[i]? = some x ∧ H2 t = some (.tup [V.str x, V.int (av ns us x)])) ys 0 fun j y e => by
      obtain ⟨t, x, e1, e2, e3⟩ := ry j y e
      exact ⟨t, e1, x, by simpa using e2, e3⟩
    refine fin H2 D ps nD oD (paired_of ps _ (by rw [gvn_len, ← ly, List.length_map]) fun i t kv et ekv => ?_) s2
    obtain ⟨x, e2, e3⟩ := pa i t et
    rw [Nat.zero_add] at e2
    unfold gvn at ekv
    rw [List.getElem?_map, e2] at ekv
    obtain rfl : ((Sum.inr x : Key), V.int (av ns us x)) = kv := Option.some.inj ekv
    exact SqT.of e3
theorem gvn_merge {ns known : List Str} {us : List Int} (nd : known.Nodup) : mergeK [] (gvn ns known us) = gvn ns known us := merge_nd (gvn_nd nd)
/-- rows as dicts, apart from the spring -/
def GRowsA (H : Hp) (l ls : Addr) (ns : List Str) : List Addr → List (List Int) → Prop := Paired fun a us => (∃ kvs, H a = some (.dK kvs) ∧ RowD ns kvs us) ∧ a ≠ l ∧ a ≠ ls
theorem GRowsA.but {H H' : Hp} {l ls : Addr} {ns : List Str} {as : List Addr} {tbl : List (List Int)} (r : GRowsA H l ls ns as tbl) (b : But l ls H H') : GRowsA H' l ls ns as tbl :=
  Paired.mapP r fun a vs h => let ⟨⟨kvs, e, d⟩, h2⟩ := h; ⟨⟨kvs, b _ _ h2.1 h2.2 e, d⟩, h2⟩
theorem GRowsA.rows {H : Hp} {l ls : Addr} {ns : List Str} {as : List Addr} {tbl : List (List Int)} (r : GRowsA H l ls ns as tbl) : GRows H ns as tbl := Paired.mapP r fun a vs h => h.1
def spTurned : Sp := fun vs H Q _ => ∃ (l ls r : Addr) (as : List Addr) (ns : List Str) (tbl : List (List Int)) (N : Int), vs = [.ref l, .ref r] ∧ Strm H l ls N ∧ N ≤ 800000 ∧ H r = some (.lst (as.map V.ref)) ∧ r ≠ l ∧ r ≠ ls ∧ RowsAt H l ls ns as tbl ∧ Wide ns tbl ∧ tbl.length ≤ 20 ∧
  ∀ H' q hs, H q = none → q ≠ l → q ≠ ls → H' q = some (.lst ((hs : List Addr).map V.ref)) → GRowsA H' l ls ns hs tbl → HeadD H' ns hs → (∀ t ∈ hs, H t = none) → Strm H' l ls (N + 250) → But l ls H H' → Q (.ref q) H'
abbrev NTu : List Str := ["stream", "rows", "found", "row", "name"]
theorem scTurned : FnScope NTu ["stream", "rows"] (defScope sTurned) := ⟨rfl, rfl, rfl, by decide +kernel, rfl, by decide +kernel, by decide +kernel⟩
end L2.TB
namespace L2.TB
open PySem PySem.Spec PyProof.Rows
section
variable {P : Program} {w : World} {K : PySem.W.Frag} {mg : Str → Option Value} {base : Heap} {f fM : Addr} {fd fdM : FuncData}
theorem ok_turned (F : Fun K "_law_t_turned_rows" "_law_t_turned_rows" sTurned f fd) (GM : FnOk P w K mg base CX0 2 fM fdM ["stream", "some"] (spMixed K)) (FM : Fun K "_law_mixed" "_law_mixed" sMixed fM fdM) (gM : mg "_law_mixed" = some (.ref fM)) (gD : mg "dict" = none) (gL : mg "list" = none) : FnOk P w K mg base CX0 3 f fd ["stream", "rows"] spTurned := by
  have bM := FM.binds (ps := ["stream", "some"]) fun _ _ _ _ _ _ us hl => match us, hl with | [_, _], _ => rfl
  refine F.ok scTurned (fun vs H Q E h => by obtain ⟨l, ls, r, as, ns, tbl, N, e, _⟩ := h; rw [e]; rfl) fun cdv A outer s H vs Q E hr hsp => ?_
  obtain ⟨l, ls, r, as, ns, tbl, N, rfl, hS, hN, orr, rl, rls, R, W, few, hq⟩ := hsp
  have nd := scTurned.nd
  have hu := hu_of hr
  have w1 := W.l1
  have D0 : DRows H ns as tbl := Paired.mapP R fun a vs h => ⟨h.1, h.2.1⟩
  have las : as.length = tbl.length := Paired.length D0
  have pos : 0 < tbl.length := List.length_pos_iff.mpr W.t
  refine ⟨_, pss_cons (ps_set (i := 2) nd rfl (Or.inl rfl) (pe_lst (pa_cons (pe_callTy call_dictD rfl gD boot_dict' (pa_cons (pe_ix ix_list (pv 1) pe_int (fun _ _ => rfl)) pa_nil)) pa_nil)))
    (pss_cons (ps_for PassesOwn.never rfl (pi_list (pe_slice sl_list (pv 1) (po_some pe_int) po_none)) (pg_name (i := 3) nd rfl (Or.inr rfl))
      (pss_one (ps_expr (pe_bm PySem.F.plainAttrs_list PySem.F.slot_list_append PySem.F.type_list_append mt_append (pv 2) (pa_cons (pe_callTy (call_dictP rfl) rfl gD (by decide +kernel) (pa_cons (pe_lc (own := [("name", 4)]) (tt := tYes) rfl nd
          (pi_list (pe_call GM (hr.mono (by decide)) rfl gM FM.kp bM .nil pass0 (pa_cons (pv 0) (pa_cons (pe_callTy (call_listD rfl) rfl gL boot_list' (pa_cons (pv 3) pa_nil)) pa_nil)))) (blkOk_by (N := NTu) (sc := defScope sTurned) (by decide +kernel))
          (fun _ _ _ _ _ => pg_name (i := 4) nd rfl (Or.inl rfl)) (fun _ _ _ _ _ => pts_nil) (fun _ _ _ _ _ => pe_tup (pa_cons (pv 4) (pa_cons (pe_dget hu (pv 3) (pv 4) (fun _ _ => rfl)) pa_nil)))) pa_nil)) pa_nil)))))
    (pss_one (ps_ret (pv 2)))), ?_⟩
  obtain ⟨a0, ea0⟩ : ∃ a0, as[0]? = some a0 := ⟨as[0]'(by omega), List.getElem?_eq_getElem _⟩
  obtain ⟨us0, eu0, oa0, lu0⟩ := paired_get D0 ea0
  have at0' : atI (as.map V.ref) ((0 : Nat) : Int) = some (.ref a0) := atI_nat (by rw [List.getElem?_map, ea0]; rfl)
  refine ⟨_, rfl, _, _, _, _, rfl, rfl, SqL.of orr, at0', a0, _, rfl, .inl oa0, fun d0 nd0 => ?_⟩
  have k0 := same_new (o := .dK (dk ns us0)) nd0
  have od0 : upd H d0 (.dK (dk ns us0)) d0 = some (.dK (dk ns us0)) := upd_same
  have ad0 := hS.apart (Same.refl _) nd0
  generalize upd H d0 (.dK (dk ns us0)) = H1 at k0 od0
  refine ⟨by show 1 ≤ sizeLine; decide, fun q nq => ?_⟩
  have kq := same_new (o := .lst [.ref d0]) nq
  have S1 := hS.same k0
  have aq := S1.apart (Same.refl _) nq
  have oq : upd H1 q (.lst [.ref d0]) q = some (.lst (([d0] : List Addr).map V.ref)) := upd_same
  have od1 := kq _ _ od0
  have k1 := k0.trans kq
  have nqH : H q = none := k0.free nq
  generalize upd H1 q (.lst [.ref d0]) = H2 at kq oq od1 k1
  refine ⟨_, rfl, (1 : Int), rfl, ?_⟩
  refine ⟨r, as.map V.ref, rfl, SqL.of (k1 _ _ orr), fun p np => ?_⟩
  rw [show (some (1 : Int)) = some ((1 : Nat) : Int) from rfl, cut_from _ _ (by rw [List.length_map]; omega), ← List.map_drop]
  have kp := same_new (o := .lst ((as.drop 1).map V.ref)) np
  have ap := (hS.same k1).apart (Same.refl _) np
  have op : upd H2 p (.lst ((as.drop 1).map V.ref)) p = some (.lst ((as.drop 1).map V.ref)) := upd_same
  have oq3 := kp _ _ oq
  have od3 := kp _ _ od1
  have k3 := k1.trans kp
  have pq : p ≠ q := fun z => by rw [z, oq] at np; cases np
  generalize upd H2 p (.lst ((as.drop 1).map V.ref)) = H3 at op oq3 od3 k3
  have B3 : But l ls H H3 := But.of k3
  refine ⟨p, rfl, ⟨_, SqL.of op⟩, for_list (xs := (as.drop 1).map V.ref) (fun i σ H' => (∃ hs, H' q = some (.lst ((hs : List Addr).map V.ref)) ∧ GRowsA H' l ls ns hs (tbl.take (i + 1)) ∧ (∀ t ∈ hs, H t = none) ∧ HeadD H' ns hs ∧ hs ≠ []) ∧ H' p = some (.lst ((as.drop 1).map V.ref)) ∧ Strm H' l ls (N + 10 * i) ∧ But l ls H H' ∧
      ∃ s3 s4, σ = [some (.ref l), some (.ref r), some (.ref q), s3, s4])
    ⟨⟨[d0], oq3, ?_, ?_, ?_, by simp⟩, op, by simpa using hS.same k3, B3, _, _, rfl⟩ (fun i σ H' _ h => SqL.of h.2.1) ?_ ?_⟩
  · have e1 : tbl.take (0 + 1) = [us0] := by
      rw [List.take_succ, eu0]
      rfl
    rw [e1]
    exact .cons ⟨⟨_, od3, rowD_dk W.nd lu0⟩, ad0⟩ .nil
  · intro t ht
    rw [List.mem_singleton.mp ht]
    exact nd0
  · intro a e
    cases e
    exact ⟨_, od3, dk_keys lu0.symm⟩
  · rintro i v σ H4 ev ⟨⟨hs, oq4, G4, fr4, hd4, hne⟩, op4, S4, B4, s3, s4, rfl⟩
    rw [List.getElem?_map, List.getElem?_drop] at ev
    obtain ⟨a, ea, rfl⟩ := Option.map_eq_some_iff.mp ev
    obtain ⟨us, eu, oa, lu, al, als⟩ := paired_get (R.but B4) ea
    have hi : 1 + i < tbl.length := (List.getElem?_eq_some_iff.mp eu).1
    have hi2 : (i : Int) < 20 := by omega
    have ekeys : ((dk ns us).map fun kv => kV kv.1) = ns.map V.str := by
      have z := congrArg (List.map kV) (dk_keys lu.symm)
      rw [List.map_map, List.map_map] at z
      exact z
    refine ⟨_, rfl, .inl ⟨rfl, _, SqL.of oq4⟩, _, rfl, _, rfl, a, _, rfl, .inl oa, fun c nc => ?_⟩
    rw [ekeys]
    have kc := same_new (o := .lst (ns.map V.str)) nc
    have oc : upd H4 c (.lst (ns.map V.str)) c = some (.lst (ns.map V.str)) := upd_same
    have S5 := S4.same kc
    have B5 := B4.trans (But.of kc)
    have oq5 := kc _ _ oq4
    have op5 := kc _ _ op4
    have oa5 := kc _ _ oa
    have G5 := G4.but (But.of kc)
    have hd5 := hd4.same kc
    generalize upd H4 c (.lst (ns.map V.str)) = H5 at oc S5 B5 oq5 op5 oa5 G5 hd5
    refine ⟨l, ls, c, ns.map V.str, _, rfl, S5, by omega, SqL.of oc, by rw [List.length_map]; omega, fun H6 m ys pm nm om S6 B6 => ?_⟩
    have yin : ∀ y ∈ ys, ∃ x, y = V.str x := fun y hy => by
      have z : y ∈ ns.map V.str := pm.mem_iff.mp hy
      obtain ⟨x, _, rfl⟩ := List.mem_map.mp z
      exact ⟨x, rfl⟩
    obtain ⟨known, rfl⟩ := strs_of ys yin
    have knd : known.Nodup := by
      have z : (known.map V.str).Nodup := pm.nodup_iff.mpr (List.Pairwise.map V.str (fun a b h e => h (V.str.inj e)) W.nd)
      exact (List.pairwise_map.mp z).imp fun h e => h (congrArg V.str e)
    have kin : ∀ x, x ∈ known ↔ x ∈ ns := fun x => by
      have z : V.str x ∈ known.map V.str ↔ V.str x ∈ ns.map V.str := pm.mem_iff
      constructor
      · intro h
        obtain ⟨y, hy, e⟩ := List.mem_map.mp (z.mp (List.mem_map_of_mem h))
        exact V.str.inj e ▸ hy
      · intro h
        obtain ⟨y, hy, e⟩ := List.mem_map.mp (z.mpr (List.mem_map_of_mem h))
        exact V.str.inj e ▸ hy
    have kpm : known.Perm ns := (List.perm_ext_iff_of_nodup knd W.nd).mpr kin
    have kl : known.length = ns.length := kpm.length_eq
    have oa6 := B6 _ _ al als oa5
    refine ⟨m, rfl, ⟨_, SqL.of om⟩, given_lc (K := K) ns known us (by omega) (fun j H' s lt => ⟨_, _, SqL.of (s _ _ om), List.getElem?_eq_getElem (by rw [List.length_map]; exact lt)⟩) (fun H' s => ⟨_, SqL.of (s _ _ om), by rw [List.length_map]; omega⟩) ?_ ?_⟩
    · rintro j v y H7 H8 Cn Nn ey s7 ⟨rfl, ev⟩ yes
      have ev := ev _ (SqL.of (s7 _ _ om))
      rw [List.getElem?_map, ey] at ev
      obtain rfl : V.str y = v := Option.some.inj ev
      refine ⟨rfl, ?_⟩
      refine ⟨_, rfl, _, rfl, _, rfl, a, _, rfl, dk_av W.nd lu ((kin y).mp (List.mem_of_getElem? ey)) ▸ DGet.k (k := Sum.inr y) (s7 _ _ oa6), (by rw [sizeLine_eq]; show 2 ≤ _; omega), fun t nt => ?_⟩
      exact yes t _ upd_same (same_new nt)
    · intro H7 D1 ps nD1 oD1 pr k7
      refine ⟨D1, ps, _, rfl, SqL.of oD1, pr, fun g ng => ?_⟩
      rw [gvn_merge knd]
      have kg := same_new (o := .dK (gvn ns known us)) ng
      have og : upd H7 g (.dK (gvn ns known us)) g = some (.dK (gvn ns known us)) := upd_same
      have k67 := k7.trans kg
      have S8 := (S6.same k67)
      have ag := (S6.same k7).apart (Same.refl _) ng
      have B8 := (B5.trans B6).trans (But.of k67)
      have oq8 := k67 _ _ (B6 _ _ aq.1 aq.2 oq5)
      have op8 := k67 _ _ (B6 _ _ ap.1 ap.2 op5)
      have G8 := G5.but (B6.trans (But.of k67))
      have hd8 : HeadD (upd H7 g (.dK (gvn ns known us))) ns hs := fun b e => by
        obtain ⟨kv, o, kk⟩ := hd5 b e
        have bl : b ≠ l ∧ b ≠ ls := by
          obtain ⟨u, _, _, h2⟩ := paired_get G5 e
          exact h2
        exact ⟨kv, k67 _ _ (B6 _ _ bl.1 bl.2 o), kk⟩
      have gq : g ≠ q := ne_of og oq8 (by intro z; cases z)
      have gfree : H g = none := by
        cases e : H g with
        | none => rfl
        | some o =>
          have z := ((B5.trans B6).trans (But.of k7)) _ _ ag.1 ag.2 e
          rw [ng] at z; cases z
      generalize upd H7 g (.dK (gvn ns known us)) = H8 at og k67 S8 B8 oq8 op8 G8 hd8
      have lh : hs.length = i + 1 := by rw [Paired.length G8, List.length_take]; omega
      refine ⟨q, hs.map V.ref, .ref g, rfl, rfl, oq8, (by rw [sizeLine_eq, List.length_map]; omega), ⟨hs ++ [g], by rw [upd_same]; simp, ?_, ?_, ?_, by simp⟩, ?_, ?_, ?_, _, _, rfl⟩
      · have et : tbl.take (i + 1 + 1) = tbl.take (i + 1) ++ [us] := by rw [List.take_succ, show tbl[i + 1]? = some us from by rw [← eu, Nat.add_comm]]; rfl
        rw [et]
        refine paired_snoc ⟨⟨_, by rw [upd_ne gq]; exact og, gvn_rowD kpm W.nd lu⟩, ag⟩ (Paired.mapP G8 fun b vs h => ?_)
        obtain ⟨⟨kv, e, rd⟩, h2⟩ := h
        exact ⟨⟨kv, by rw [upd_ne (ne_of e oq8 (by intro z; cases z))]; exact e, rd⟩, h2⟩
      · intro t ht
        rcases List.mem_append.mp ht with h | h
        · exact fr4 t h
        · rw [List.mem_singleton.mp h]; exact gfree
      · intro b e
        obtain ⟨h0, hr', rfl⟩ := List.exists_cons_of_ne_nil hne
        obtain rfl : h0 = b := Option.some.inj e
        obtain ⟨kv, o, kk⟩ := hd8 h0 rfl
        exact ⟨kv, by rw [upd_ne (ne_of o oq8 (by intro z; cases z))]; exact o, kk⟩
      · rw [upd_ne pq]; exact op8
      · obtain ⟨cs', g', k, m', S⟩ := S8
        exact Strm.mono ⟨cs', g', k, m', by rw [upd_ne (Ne.symm aq.1)]; exact S.o, by rw [upd_ne (Ne.symm aq.2)]; exact S.c, S.ne, S.g0, S.k0, S.k1, S.m0, S.m1, S.sz⟩ (by rw [List.length_map]; omega)
      · intro b' o h1 h2 e
        rw [upd_ne (ne_of_none e nqH)]
        exact B8 _ _ h1 h2 e
  · rintro σ H4 ⟨⟨hs, oq4, G4, fr4, hd4, hne⟩, op4, S4, B4, s3, s4, rfl⟩
    have et : tbl.take (((as.drop 1).map V.ref).length + 1) = tbl := List.take_of_length_le (by rw [List.length_map, List.length_drop]; omega)
    rw [et] at G4
    have ll : ((as.drop 1).map V.ref).length ≤ 20 := by rw [List.length_map, List.length_drop]; omega
    exact ⟨_, rfl, hq H4 q hs nqH aq.1 aq.2 oq4 G4 hd4 fr4 (S4.mono (by omega)) B4⟩
end
end L2.TB
namespace L2.TB
open PySem PySem.Spec PyProof.Rows
/-! the law's look whether two things are the same -/
theorem kit_none2 {K : PySem.W.Frag} {t : String} (h1 : kitB t "list" = some false) (h2 : kitB t "tuple" = some false) : PySem.W.kitAny K (.type t) [.type "list", .type "tuple"] = some false := by
  unfold PySem.W.kitAny
  rw [kit_ty (K := K) h1]
  dsimp only
  unfold PySem.W.kitAny
  rw [kit_ty (K := K) h2]
  rfl
theorem kit_none3 {K : PySem.W.Frag} {t : String} (h0 : kitB t "int" = some false) (h1 : kitB t "list" = some false) (h2 : kitB t "tuple" = some false) : PySem.W.kitAny K (.type t) [.type "int", .type "list", .type "tuple"] = some false := by
  unfold PySem.W.kitAny
  rw [kit_ty (K := K) h0]
  exact kit_none2 h1 h2
abbrev NSm : List Str := ["found", "due", "x", "y"]
theorem scSame : FnScope NSm ["found", "due"] (defScope sSame) := ⟨rfl, rfl, rfl, by decide +kernel, rfl, by decide +kernel, by decide +kernel⟩
/-- the names that it reads -/
structure Sm (mg : Str → Option Value) : Prop where
  nI : mg "isinstance" = none
  nL : mg "list" = none
  nT : mg "tuple" = none
  nInt : mg "int" = none
  nB : mg "bool" = none
  nN : mg "len" = none
  nA : mg "all" = none
  nZ : mg "zip" = none
/-- alike, lists to this depth -/
inductive Alk (H : Hp) : Nat → V → V → Prop
  | int (k : Int) : Alk H 0 (.int k) (.int k)
  | str (x : Str) : Alk H 0 (.str x) (.str x)
  | lst {n : Nat} {a b : Addr} {xs ys : List V} : H a = some (.lst xs) → H b = some (.lst ys) → xs.length = ys.length → xs.length < 1000 → (∀ (i : Nat) (x y : V), xs[i]? = some x → ys[i]? = some y → Alk H n x y) → Alk H (n + 1) (.ref a) (.ref b)
  | up {n : Nat} {x y : V} : Alk H n x y → Alk H (n + 1) x y
theorem Alk.same {H H' : Hp} (s : Same H H') {n : Nat} {x y : V} (h : Alk H n x y) : Alk H' n x y := by
  induction h with
  | int k => exact .int k
  | str x => exact .str x
  | lst ha hb l sh _ ih => exact .lst (s _ _ ha) (s _ _ hb) l sh ih
  | up _ ih => exact .up ih
def spSameT (n : Nat) : Sp := fun vs H Q _ => ∃ x y : V, vs = [x, y] ∧ Alk H n x y ∧ ∀ H', Same H H' → Q (.bl true) H'
/-- two promises of one def -/
theorem fnOr {P : Program} {w : World} {K : PySem.W.Frag} {mg : Str → Option Value} {base : Heap} {CX : CXT} {k : Nat} {f : Addr} {fd : FuncData} {ps : List Str} {sp sp1 sp2 : Sp} (F1 : FnOk P w K mg base CX k f fd ps sp1) (F2 : FnOk P w K mg base CX k f fd ps sp2)
    (h : ∀ vs H Q E, sp vs H Q E → sp1 vs H Q E ∨ sp2 vs H Q E) : FnOk P w K mg base CX k f fd ps sp :=
  ⟨fun vs H Q E q => (h _ _ _ _ q).elim (F1.len vs H Q E) (F2.len vs H Q E), fun A outer s H args us vs Q E hr he hb hv hs => (h _ _ _ _ hs).elim (F1.run A outer s H args us vs Q E hr he hb hv) (F2.run A outer s H args us vs Q E hr he hb hv)⟩
section
variable {P : Program} {w : World} {K : PySem.W.Frag} {mg : Str → Option Value} {base : Heap} {f : Addr} {fd : FuncData}
theorem ok_sameT (F : Fun K "_law_same" "_law_same" sSame f fd) (gSm : mg "_law_same" = some (.ref f)) (M : Sm mg) : ∀ n : Nat, FnOk P w K mg base CX0 (n + 1) f fd ["found", "due"] (spSameT n)
  | 0 => by
    refine F.ok scSame (fun vs H Q E h => by obtain ⟨x, y, e, _⟩ := h; rw [e]; rfl) fun cdv A outer s H vs Q E hr hsp => ?_
    obtain ⟨x, y, rfl, al, hq⟩ := hsp
    cases al with
    | int k =>
      refine ⟨_, pss_cons (ps_if (pt_val (pe_callB (r := rIsiT K) call_isiT rfl M.nI boot_isi (pa_cons (pv 1) (pa_cons (pe_tup (pa_cons (pe_bltn (v := .ty "list") rfl M.nL boot_list' rfl) (pa_cons (pe_bltn (v := .ty "tuple") rfl M.nT boot_tuple' rfl) pa_nil))) pa_nil)))) (pss_cons ps_never (pss_one ps_never)) pss_nil)
        (pss_cons (ps_if (pt_val (pe_callB (r := rIsi K) call_isi rfl M.nI boot_isi (pa_cons (pv 1) (pa_cons (pe_bltn (v := .ty "int") rfl M.nInt boot_int' rfl) pa_nil))))
          (pss_one (ps_ret (pe_and (pe_callB (r := rIsi K) call_isi rfl M.nI boot_isi (pa_cons (pv 0) (pa_cons (pe_bltn (v := .ty "int") rfl M.nInt boot_int' rfl) pa_nil)))
            (pe_and (pe_cmpR op_eq (pe_callB (r := rIsi K) call_isi rfl M.nI boot_isi (pa_cons (pv 0) (pa_cons (pe_bltn (v := .ty "bool") rfl M.nB boot_bool' rfl) pa_nil))) (pe_callB (r := rIsi K) call_isi rfl M.nI boot_isi (pa_cons (pv 1) (pa_cons (pe_bltn (v := .ty "bool") rfl M.nB boot_bool' rfl) pa_nil))) (nomark _))
            (pe_one (pe_cmpR op_eq (pv 0) (pv 1) (nomark _))))))) pss_nil)
        (pss_one ps_never)), ?_⟩
      refine ⟨_, rfl, (by show 2 ≤ sizeLine; decide), fun t nt => ?_⟩
      have st := same_new (o := .tup [.ty "list", .ty "tuple"]) nt
      refine ⟨_, _, _, _, _, false, rfl, upd_same, .cons (.ty _) (.cons (.ty _) .nil), .base (.int k), kit_none2 (by decide +kernel) (by decide +kernel), _, rfl, iteF ?_⟩
      refine ⟨_, rfl, _, _, _, _, true, rfl, .ty _, .base (.int k), kit_ty (by decide +kernel), _, rfl, iteT ?_⟩
      refine ⟨_, rfl, _, _, _, _, true, rfl, .ty _, .base (.int k), kit_ty (by decide +kernel), _, rfl, iteT ?_⟩
      refine ⟨_, rfl, _, _, _, _, false, rfl, .ty _, .base (.int k), kit_ty (by decide +kernel), _, rfl, _, _, _, _, false, rfl, .ty _, .base (.int k), kit_ty (by decide +kernel), rfl, _, rfl, iteT ⟨_, rfl, _, rfl, rfl, ?_⟩⟩
      rw [decide_eq_true rfl]
      exact hq _ st
    | str x =>
      refine ⟨_, pss_cons (ps_if (pt_val (pe_callB (r := rIsiT K) call_isiT rfl M.nI boot_isi (pa_cons (pv 1) (pa_cons (pe_tup (pa_cons (pe_bltn (v := .ty "list") rfl M.nL boot_list' rfl) (pa_cons (pe_bltn (v := .ty "tuple") rfl M.nT boot_tuple' rfl) pa_nil))) pa_nil)))) (pss_cons ps_never (pss_one ps_never)) pss_nil)
        (pss_cons (ps_if (pt_val (pe_callB (r := rIsi K) call_isi rfl M.nI boot_isi (pa_cons (pv 1) (pa_cons (pe_bltn (v := .ty "int") rfl M.nInt boot_int' rfl) pa_nil)))) (pss_one ps_never) pss_nil)
        (pss_one (ps_ret (pe_and (pe_cmpR op_isBl (pe_callB (r := rIsiT K) call_isiT rfl M.nI boot_isi (pa_cons (pv 0) (pa_cons (pe_tup (pa_cons (pe_bltn (v := .ty "int") rfl M.nInt boot_int' rfl) (pa_cons (pe_bltn (v := .ty "list") rfl M.nL boot_list' rfl) (pa_cons (pe_bltn (v := .ty "tuple") rfl M.nT boot_tuple' rfl) pa_nil)))) pa_nil))) pe_bl (nomark _))
          (pe_one (pe_cmpR op_eq (pv 0) (pv 1) (nomark _))))))), ?_⟩
      refine ⟨_, rfl, (by show 2 ≤ sizeLine; decide), fun t nt => ?_⟩
      have st := same_new (o := .tup [.ty "list", .ty "tuple"]) nt
      refine ⟨_, _, _, _, _, false, rfl, upd_same, .cons (.ty _) (.cons (.ty _) .nil), .base (.str x), kit_none2 (by decide +kernel) (by decide +kernel), _, rfl, iteF ?_⟩
      refine ⟨_, rfl, _, _, _, _, false, rfl, .ty _, .base (.str x), kit_ty (by decide +kernel), _, rfl, iteF ?_⟩
      refine ⟨_, rfl, (by show 3 ≤ sizeLine; decide), fun t2 nt2 => ?_⟩
      have st2 := same_new (o := .tup [.ty "int", .ty "list", .ty "tuple"]) nt2
      refine ⟨_, _, _, _, _, false, rfl, upd_same, .cons (.ty _) (.cons (.ty _) (.cons (.ty _) .nil)), .base (.str x), kit_none3 (by decide +kernel) (by decide +kernel) (by decide +kernel), _, _, rfl, rfl, _, rfl, iteT ⟨_, rfl, _, rfl, rfl, ?_⟩⟩
      rw [decide_eq_true rfl]
      exact hq _ (st.trans st2)
  | n + 1 => by
    have G := ok_sameT F gSm M n
    have b := F.binds (ps := ["found", "due"]) fun _ _ _ _ _ _ us hl => match us, hl with | [_, _], _ => rfl
    refine L2.TB.fnOr (sp1 := fun vs H Q E => ∃ x y : V, vs = [x, y] ∧ Alk H n x y ∧ ∀ H', Same H H' → Q (.bl true) H') (sp2 := fun vs H Q _ => ∃ (a b : Addr) (xs ys : List V), vs = [.ref a, .ref b] ∧ H a = some (.lst xs) ∧ H b = some (.lst ys) ∧ xs.length = ys.length ∧ xs.length < 1000 ∧ (∀ (i : Nat) (x y : V), xs[i]? = some x → ys[i]? = some y → Alk H n x y) ∧ ∀ H', Same H H' → Q (.bl true) H') (G.mono (Nat.le_succ _)) ?_ fun vs H Q E h => ?_
    rotate_left
    · obtain ⟨x, y, rfl, al, hq⟩ := h
      cases al with
      | lst ha hb l sh al => exact .inr ⟨_, _, _, _, rfl, ha, hb, l, sh, al, hq⟩
      | up al => exact .inl ⟨_, _, rfl, al, hq⟩
    refine F.ok scSame (fun vs H Q E h => by obtain ⟨a, b, xs, ys, e, _⟩ := h; rw [e]; rfl) fun cdv A outer s H vs Q E hr hsp => ?_
    obtain ⟨a, bb, xs, ys, rfl, ha, hb, len, short, al, hq⟩ := hsp
    have nd := scSame.nd
    refine ⟨_, pss_cons (ps_if (pt_val (pe_callB (r := rIsiT K) call_isiT rfl M.nI boot_isi (pa_cons (pv 1) (pa_cons (pe_tup (pa_cons (pe_bltn (v := .ty "list") rfl M.nL boot_list' rfl) (pa_cons (pe_bltn (v := .ty "tuple") rfl M.nT boot_tuple' rfl) pa_nil))) pa_nil))))
        (pss_cons (ps_if (PW.pt (pw_or (pt_cmpR op_ne (pe_callB (r := rIsi K) call_isi rfl M.nI boot_isi (pa_cons (pv 0) (pa_cons (pe_bltn (v := .ty "list") rfl M.nL boot_list' rfl) pa_nil))) (pe_callB (r := rIsi K) call_isi rfl M.nI boot_isi (pa_cons (pv 1) (pa_cons (pe_bltn (v := .ty "list") rfl M.nL boot_list' rfl) pa_nil))) (nomark _))
            (pw_or1 (pt_cmpR op_ne (pe_callB (r := rIsi K) call_isi rfl M.nI boot_isi (pa_cons (pv 0) (pa_cons (pe_bltn (v := .ty "tuple") rfl M.nT boot_tuple' rfl) pa_nil))) (pe_callB (r := rIsi K) call_isi rfl M.nI boot_isi (pa_cons (pv 1) (pa_cons (pe_bltn (v := .ty "tuple") rfl M.nT boot_tuple' rfl) pa_nil))) (nomark _))))) (pss_one ps_never) pss_nil)
        (pss_one (ps_ret (pe_and (pe_cmpR op_eq (pe_callB call_len_seq rfl M.nN boot_len (pa_cons (pv 0) pa_nil)) (pe_callB call_len_seq rfl M.nN boot_len (pa_cons (pv 1) pa_nil)) (nomark _))
          (pe_one (pe_callB (cr_all rfl) rfl M.nA boot_all' (pa_cons (pe_lc (own := [("x", 2), ("y", 3)]) (tt := tYes) (g := gTup K 2 (gCons (gName 2) (gCons (gName 3) gNil))) rfl nd (pi_zip rfl M.nZ (pa_cons (pv 0) (pa_cons (pv 1) pa_nil))) (blkOk_by (N := NSm) (sc := defScope sSame) (by decide +kernel))
            (fun _ _ _ _ _ => pg_tup rfl (pgs_cons (pg_name (i := 2) nd rfl (Or.inl rfl)) (pgs_cons (pg_name (i := 3) nd rfl (Or.inl rfl)) pgs_nil))) (fun _ _ _ _ _ => pts_nil)
            (fun _ _ _ _ _ => pe_call G hr rfl gSm F.kp b .nil pass0 (pa_cons (pv 2) (pa_cons (pv 3) pa_nil)))) pa_nil))))))) pss_nil)
      (pss_cons ps_never (pss_one ps_never)), ?_⟩
    refine ⟨_, rfl, (by show 2 ≤ sizeLine; decide), fun t nt => ?_⟩
    have st := same_new (o := .tup [.ty "list", .ty "tuple"]) nt
    refine ⟨_, _, _, _, _, true, rfl, upd_same, .cons (.ty _) (.cons (.ty _) .nil), .base (.lst (st _ _ hb)), kit_two_l, _, rfl, iteT ?_⟩
    generalize upd H t (.tup [.ty "list", .ty "tuple"]) = H1 at st
    have ha := st _ _ ha
    have hb := st _ _ hb
    refine ⟨_, rfl, _, _, _, _, true, rfl, .ty _, .base (.lst ha), kit_ty (by decide +kernel), _, rfl, _, _, _, _, true, rfl, .ty _, .base (.lst hb), kit_ty (by decide +kernel), rfl, _, rfl, iteF ?_⟩
    refine ⟨_, rfl, _, _, _, _, false, rfl, .ty _, .base (.lst ha), kit_ty (by decide +kernel), _, rfl, _, _, _, _, false, rfl, .ty _, .base (.lst hb), kit_ty (by decide +kernel), rfl, _, rfl, iteF ?_⟩
    refine ⟨_, rfl, a, _, rfl, .inl (SqL.of ha), _, rfl, bb, _, rfl, .inl (SqL.of hb), rfl, _, rfl, ?_⟩
    rw [dec_int2, decide_eq_true (by omega : ((xs.length : Nat) : Int) = (ys.length : Nat))]
    refine iteT ⟨_, rfl, _, rfl, a, bb, _, _, rfl, SqL.of ha, SqL.of hb, ?_⟩
    refine lc_gen (bools xs.length) (by rw [bools_len]; omega) (fun i H' s lt => ?_) (fun H' s => ?_) ?_ ?_
    · rw [bools_len] at lt
      exact ⟨_, _, _, _, SqL.of (s _ _ ha), SqL.of (s _ _ hb), List.getElem?_eq_getElem (by omega), List.getElem?_eq_getElem (by omega)⟩
    · exact ⟨_, _, SqL.of (s _ _ ha), SqL.of (s _ _ hb), .inl (by rw [bools_len]; exact Nat.le_refl _)⟩
    · rintro i v y H2 H3 Cn Nn ey s2 ⟨T, u1, u2, rfl, nT, rfl, e1, e2⟩ yes
      obtain ⟨rfl, lt⟩ := bools_at ey
      have e1 := e1 _ (SqL.of (s2 _ _ ha))
      have e2 := e2 _ (SqL.of (s2 _ _ hb))
      have sT := same_new (o := .tup [u1, u2]) nT
      refine ⟨T, _, rfl, SqT.of upd_same, rfl, _, _, rfl, _, _, rfl, rfl, rfl, ?_⟩
      exact ⟨_, rfl, _, rfl, u1, u2, rfl, (al i u1 u2 e1 e2).same ((st.trans s2).trans sT), fun H4 s4 => yes H4 (sT.trans s4)⟩
    · intro H2 D nD oD s2
      rw [bools_map] at oD
      refine ⟨D, _, rfl, SqL.of oD, ?_⟩
      rw [all_true]
      exact hq _ (st.trans s2)
end
end L2.TB
namespace L2.TB
open PySem PySem.Spec PyProof.Rows
/-! the law's look at what is left: what it stands on -/
theorem TabAt.but {H H' : Hp} {C a l ls : Addr} {ns : List Str} {tbl : List (List Int)} {N : Int} (t : TabAt H C a ns tbl) (S : Strm H l ls N) (B : But l ls H H') (nn : ns ≠ []) (tn : tbl ≠ []) : TabAt H' C a ns tbl := by
  obtain ⟨dx, qa, ra, ha, hqa, ps, hra, prs⟩ := t.ex
  obtain ⟨cs, g, k, m, S⟩ := S
  obtain ⟨n0, nr, rfl⟩ := List.exists_cons_of_ne_nil nn
  obtain ⟨t0, tr, rfl⟩ := List.exists_cons_of_ne_nil tn
  cases prs with
  | cons p0 prs =>
    rename_i p ps
    refine ⟨dx, qa, ra, B _ _ ?_ ?_ ha, B _ _ ?_ ?_ hqa, p :: ps, B _ _ ?_ ?_ hra, Paired.mapP (.cons p0 prs) fun q vs h => ⟨B _ _ ?_ ?_ h.1, h.2⟩⟩
    · exact ne_of ha S.o (by intro z; cases z)
    · exact ne_of ha S.c (by intro z; cases z)
    · exact ne_of hqa S.o (by intro z; cases z)
    · refine ne_of hqa S.c (fun z => ?_)
      have z := HO.lst.inj z
      cases cs <;> cases z
    · refine ne_of hra S.o (fun z => ?_)
      have z := HO.lst.inj z
      cases ps <;> cases z
    · refine ne_of hra S.c (fun z => ?_)
      have z := HO.lst.inj z
      cases cs <;> cases z
    · exact ne_of h.1 S.o (by intro z; cases z)
    · exact ne_of h.1 S.c (by intro z; cases z)
/-- ascending lists with the same things are one -/
theorem sorted_one : ∀ {xs ys : List Int}, xs.Perm ys → xs.Pairwise (· ≤ ·) → ys.Pairwise (· < ·) → xs = ys
  | [], ys, p, _, _ => (List.nil_perm.mp p).symm
  | x :: xs, [], p, _, _ => absurd p.length_eq (by simp)
  | x :: xs, y :: ys, p, hx, hy => by
    have h1 := List.pairwise_cons.mp hx
    have h2 := List.pairwise_cons.mp hy
    have e : x = y := by
      have m1 : x ∈ y :: ys := p.mem_iff.mp List.mem_cons_self
      have m2 : y ∈ x :: xs := p.mem_iff.mpr List.mem_cons_self
      rcases List.mem_cons.mp m1 with z | z
      · exact z
      · rcases List.mem_cons.mp m2 with z' | z'
        · exact z'.symm
        · have a := h1.1 _ z'
          have b := h2.1 _ z
          omega
    subst e
    rw [sorted_one (List.Perm.cons_inv p) h1.2 h2.2]
theorem dk_snoc {a : List Str} {v : List Int} {y : Str} {z : Int} (h : a.length = v.length) : dk (a ++ [y]) (v ++ [z]) = dk a v ++ [(Sum.inr y, V.int z)] := by
  unfold dk
  rw [List.zip_append h, List.map_append]
  rfl
theorem dk_put {known : List Str} {v : List Int} {i : Nat} {y : Str} {z : Int} (nd : known.Nodup) (e : known[i]? = some y) (h : v.length = i) : putK (dk (known.take i) v) (Sum.inr y) (.int z) = dk (known.take (i + 1)) (v ++ [z]) := by
  have lt := (List.getElem?_eq_some_iff.mp e).1
  have l1 : (known.take i).length = v.length := by rw [List.length_take]; omega
  have et : known.take (i + 1) = known.take i ++ [y] := by rw [List.take_succ, e]; rfl
  rw [et, dk_snoc l1]
  refine put_last ?_
  rw [dk_keys l1]
  intro m
  obtain ⟨x, hx, ex⟩ := List.mem_map.mp m
  obtain rfl : x = y := Sum.inr.inj ex
  have q : (known.take (i + 1)).Nodup := nd.sublist (List.take_sublist _ _)
  rw [et, List.nodup_append] at q
  exact q.2.2 _ hx _ (by simp) rfl
theorem av_map {ns : List Str} {f : Str → Int} {x : Str} (xin : x ∈ ns) : av ns (ns.map f) x = f x := by
  unfold av
  have lt : idx ns x < ns.length := List.idxOf_lt_length_of_mem xin
  rw [List.getD_eq_getElem?_getD, List.getElem?_map, List.getElem?_eq_getElem lt]
  show f ns[idx ns x] = f x
  exact congrArg f (List.getElem_idxOf lt)
/-- answers to all the questions that say this of the known ones -/
def spread (ns known : List Str) (vs : List Int) : List Int := ns.map (av known vs)
theorem keyR_spread {ns known : List Str} {vs : List Int} (knd : known.Nodup) (sub : ∀ x ∈ known, x ∈ ns) (l : vs.length = known.length) : keyR ns known (spread ns known vs) = vs := by
  have e : keyR ns known (spread ns known vs) = known.map (av known vs) := by
    unfold keyR
    refine List.map_congr_left fun x hx => ?_
    exact av_map (sub x hx)
  rw [e, av_all knd l]
theorem dk_gvn {ns known : List Str} {vs : List Int} (knd : known.Nodup) (sub : ∀ x ∈ known, x ∈ ns) (l : vs.length = known.length) : dk known vs = gvn ns known (spread ns known vs) := by
  rw [gvn_dk, keyR_spread knd sub l]
def leftK (ns known : List Str) (us : List Int) (tbl : List (List Int)) : List Int := (leftL ns known us tbl).map fun i : Nat => (i : Int)
theorem leftK_map (ns known : List Str) (us : List Int) (tbl : List (List Int)) : ((leftL ns known us tbl).map fun i => V.int (i : Nat)) = (leftK ns known us tbl).map V.int := by
  unfold leftK
  rw [List.map_map]
  rfl
theorem left_len (ns known : List Str) (us : List Int) (tbl : List (List Int)) : (leftL ns known us tbl).length ≤ tbl.length := by
  have := List.length_filter_le (fun i => agree ns known us (tbl.getD i [])) (List.range tbl.length)
  rw [List.length_range] at this
  exact this
theorem alk_ints {H : Hp} {a b : Addr} {ks : List Int} (ha : H a = some (.lst (ks.map V.int))) (hb : H b = some (.lst (ks.map V.int))) (sh : ks.length < 1000) : Alk H 1 (.ref a) (.ref b) := by
  refine .lst ha hb rfl (by rw [List.length_map]; exact sh) fun i x y ex ey => ?_
  rw [ex] at ey
  obtain rfl := Option.some.inj ey
  rw [List.getElem?_map] at ex
  obtain ⟨k, _, rfl⟩ := Option.map_eq_some_iff.mp ex
  exact .int k
theorem alk_strs {H : Hp} {a b : Addr} {ks : List Str} (ha : H a = some (.lst (ks.map V.str))) (hb : H b = some (.lst (ks.map V.str))) (sh : ks.length < 1000) : Alk H 1 (.ref a) (.ref b) := by
  refine .lst ha hb rfl (by rw [List.length_map]; exact sh) fun i x y ex ey => ?_
  rw [ex] at ey
  obtain rfl := Option.some.inj ey
  rw [List.getElem?_map] at ex
  obtain ⟨k, _, rfl⟩ := Option.map_eq_some_iff.mp ex
  exact .str k
theorem boot_set' : bootBuiltins "set" = some (.type "set") := by decide +kernel
/-- what the law's def is asked -/
def spLeftR (C : Addr) : Sp := fun vs H Q _ => ∃ (l ls q r : Addr) (as : List Addr) (ns : List Str) (tbl : List (List Int)) (N : Int), vs = [.ref l, .ref q, .ref r] ∧ Strm H l ls N ∧ N ≤ 700000 ∧ H r = some (.lst (as.map V.ref)) ∧ r ≠ l ∧ r ≠ ls ∧ RowsAt H l ls ns as tbl ∧ TabAt H C q ns tbl ∧ Wide ns tbl ∧ tbl.length ≤ 20 ∧
  ∀ H', Strm H' l ls (N + 300) → But l ls H H' → Q (.bl true) H'
abbrev NLr : List Str := ["stream", "table", "rows", "names", "some", "from_row", "given", "name", "due", "asked", "k", "row"]
theorem scLeftR : FnScope NLr ["stream", "table", "rows"] (defScope sLeftR) := ⟨rfl, rfl, rfl, by decide +kernel, rfl, by decide +kernel, by decide +kernel⟩
abbrev scLd : Scope := { kind := ScopeKind.function, names := [(Str.ofString ".0", NameKind.local), (Str.ofString "k", NameKind.local), (Str.ofString "row", NameKind.cell), (Str.ofString "all", NameKind.globalImplicit), (Str.ofString "given", NameKind.cell)], isGenerator := false, isCoroutine := false }
end L2.TB
namespace L2.TB
open PySem PySem.Spec PyProof.Rows
section
variable {P : Program} {w : World} {K : PySem.W.Frag} {mg : Str → Option Value} {base : Heap} {f C fO fP fD fL fM fS : Addr} {fd fdO fdP fdD fdL fdM fdS : FuncData}
theorem ok_leftR (F : Fun K "_law_left_right" "_law_left_right" sLeftR f fd) (T : TabC K C) (GO : FnOk P w K mg base CX0 3 fO fdO ["stream", "names"] (spSome K)) (FO : Fun K "_law_t_some" "_law_t_some" sSome fO fdO) (gO : mg "_law_t_some" = some (.ref fO))
    (GP : FnOk P w K mg base CX0 2 fP fdP ["stream", "some"] (spPick K)) (FP : Fun K "_law_pick" "_law_pick" sPick fP fdP) (gP : mg "_law_pick" = some (.ref fP)) (GD : FnOk P w K mg base CX0 1 fD fdD ["stream", "many"] spDraw) (FD : Fun K "_law_draw" "_law_draw" sDraw fD fdD) (gD : mg "_law_draw" = some (.ref fD))
    (GL : FnOk P w K mg base CX0 3 fL fdL ["self", "answers"] (spLeft C)) (FL : Fun K "left" "Table.left" sLeft fL fdL) (mL : Meth K C "left" fL) (GM : FnOk P w K mg base CX0 4 fM fdM ["self", "answers", "asked"] (spMayBe C)) (FM : Fun K "may_be" "Table.may_be" sMayBe fM fdM) (mM : Meth K C "may_be" fM)
    (GS : FnOk P w K mg base CX0 2 fS fdS ["found", "due"] (spSameT 1)) (FS : Fun K "_law_same" "_law_same" sSame fS fdS) (gS : mg "_law_same" = some (.ref fS)) (gLi : mg "list" = none) (gE : mg "enumerate" = none) (gA : mg "all" = none) (gSo : mg "sorted" = none) (gSe : mg "set" = none) : FnOk P w K mg base CX0 5 f fd ["stream", "table", "rows"] (spLeftR C) := by
  have bO := FO.binds (ps := ["stream", "names"]) fun _ _ _ _ _ _ us hl => match us, hl with | [_, _], _ => rfl
  have bP := FP.binds (ps := ["stream", "some"]) fun _ _ _ _ _ _ us hl => match us, hl with | [_, _], _ => rfl
  have bD := FD.binds (ps := ["stream", "many"]) fun _ _ _ _ _ _ us hl => match us, hl with | [_, _], _ => rfl
  have bL := FL.binds (ps := ["self", "answers"]) fun _ _ _ _ _ _ us hl => match us, hl with | [_, _], _ => rfl
  have bM := FM.binds (ps := ["self", "answers", "asked"]) fun _ _ _ _ _ _ us hl => match us, hl with | [_, _, _], _ => rfl
  have bS := FS.binds (ps := ["found", "due"]) fun _ _ _ _ _ _ us hl => match us, hl with | [_, _], _ => rfl
  refine F.ok scLeftR (fun vs H Q E h => by obtain ⟨l, ls, q, r, as, ns, tbl, N, e, _⟩ := h; rw [e]; rfl) fun cdv A outer s H vs Q E hr hsp => ?_
  obtain ⟨l, ls, q, r, as, ns, tbl, N, rfl, S0, hN, orr, rl, rls, R0, tab0, W, few, hq⟩ := hsp
  have nd := scLeftR.nd
  have hu := hu_of hr
  have w1 := W.l1
  refine ⟨_, pss_cons (ps_set (i := 3) nd rfl (Or.inl rfl) (pe_callTy (call_listD rfl) rfl gLi boot_list' (pa_cons (pe_ix ix_list (pv 2) pe_int (fun _ _ => rfl)) pa_nil)))
    (pss_cons (ps_set (i := 4) nd rfl (Or.inl rfl) (pe_call GO (hr.mono (by decide)) rfl gO FO.kp bO .nil pass0 (pa_cons (pv 0) (pa_cons (pv 3) pa_nil))))
    (pss_cons (ps_set (i := 5) nd rfl (Or.inl rfl) (pe_call GP (hr.mono (by decide)) rfl gP FP.kp bP .nil pass0 (pa_cons (pv 0) (pa_cons (pv 2) pa_nil))))
    (pss_cons (ps_set (i := 6) nd rfl (Or.inr rfl) pe_dnewK)
    (pss_cons (ps_for PassesOwn.never rfl (pi_list (pv 4)) (pg_name (i := 7) nd rfl (Or.inl rfl))
      (pss_one (ps_dput hu (pv 6) (pv 7) (pe_call GP (hr.mono (by decide)) rfl gP FP.kp bP .nil pass0 (pa_cons (pv 0) (pa_cons (pe_lst (pa_cons (pe_dget hu (pv 5) (pv 7) (fun _ _ => rfl)) (pa_cons (pe_dget hu (pv 5) (pv 7) (fun _ _ => rfl)) (pa_cons (pe_op op_sub (pe_call GD (hr.mono (by decide)) rfl gD FD.kp bD .nil pass0 (pa_cons (pv 0) (pa_cons pe_int pa_nil))) pe_int) pa_nil)))) pa_nil))) rfl)))
    (pss_cons (ps_setLc (i := 8) (own := [("k", 10), ("row", 11)]) (te := tVar 10) (g := gTup K 2 (gCons (gName 10) (gCons (gName 11) gNil))) (tt := tB (tCB (rAll K) (tCons (tLockE (tLc (iKeys (tVar 6)) (gName 7) tYes (tOp rEq (tDGet (tVar 11) (tVar 7)) (tDGet (tVar 6) (tVar 7))) [7])) tNil))) rfl nd rfl rfl (sw_true rfl rfl rfl rfl)
      (pi_enum rfl gE (pa_cons (pv 2) pa_nil)) (blkOk_by (N := NLr) (sc := defScope sLeftR) (by decide +kernel))
      (fun _ _ _ _ _ => pg_tup rfl (pgs_cons (pg_name (i := 10) nd rfl (Or.inl rfl)) (pgs_cons (pg_name (i := 11) nd rfl (Or.inr rfl)) pgs_nil)))
      (fun _ _ _ _ _ => pts_one (pt_val (pe_callB (r := rAll K) (cr_all rfl) rfl gA boot_all' (pa_cons (pe_lock (pe_lc (own := [("name", 7)]) (g := gName 7) (wi := iKeys (tVar 6)) (tt := tYes) (te := tOp rEq (tDGet (tVar 11) (tVar 7)) (tDGet (tVar 6) (tVar 7))) rfl nd (pi_keys (pv 6)) (blkOk_by (N := NLr) (sc := scLd) (by decide +kernel))
        (fun _ _ _ _ _ => pg_name (i := 7) nd rfl (Or.inl rfl)) (fun _ _ _ _ _ => pts_nil) (fun _ _ _ _ _ => pe_cmpR op_eq (pe_dget hu (pv 11) (pv 7) (fun _ _ => rfl)) (pe_dget hu (pv 6) (pv 7) (fun _ _ => rfl)) (nomark _)))) pa_nil)))) (fun _ _ _ _ _ => pv 10))
    (pss_cons (ps_if (pt_not (pt_val (pe_call GS (hr.mono (by decide)) rfl gS FS.kp bS .nil pass0 (pa_cons (pe_meth (pv 1) T.cl mL GL (hr.mono (by decide)) bL .nil pass0 (pa_cons (pv 6) pa_nil)) (pa_cons (pv 8) pa_nil))))) (pss_one ps_never) pss_nil)
    (pss_cons (ps_set (i := 9) nd rfl (Or.inr rfl) (pe_call GP (hr.mono (by decide)) rfl gP FP.kp bP .nil pass0 (pa_cons (pv 0) (pa_cons (pv 3) pa_nil))))
    (pss_one (ps_ret (pe_call GS (hr.mono (by decide)) rfl gS FS.kp bS .nil pass0 (pa_cons (pe_meth (pv 1) T.cl mM GM hr bM .nil pass0 (pa_cons (pv 6) (pa_cons (pv 9) pa_nil)))
      (pa_cons (pe_callB (cr_sortedSet rfl) rfl gSo boot_sorted (pa_cons (pe_callTy (cr_setL rfl) rfl gSe boot_set' (pa_cons (pe_lc (own := [("k", 10)]) (g := gName 10) (tt := tYes) (te := tDGet (tOp (rIxL K) (tVar 2) (tVar 10)) (tVar 9)) rfl nd (pi_list (pv 8)) (blkOk_by (N := NLr) (sc := defScope sLeftR) (by decide +kernel))
        (fun _ _ _ _ _ => pg_name (i := 10) nd rfl (Or.inl rfl)) (fun _ _ _ _ _ => pts_nil) (fun _ _ _ _ _ => pe_dget hu (pe_ix (r := rIxL K) ix_list (pv 2) (pv 10) (fun _ _ => rfl)) (pv 9) (fun _ _ => rfl))) pa_nil)) pa_nil)) pa_nil)))))))))))), ?_⟩
  have D0 : DRows H ns as tbl := Paired.mapP R0 fun a vs h => ⟨h.1, h.2.1⟩
  have las : as.length = tbl.length := Paired.length D0
  have pos : 0 < tbl.length := List.length_pos_iff.mpr W.t
  obtain ⟨a0, ea0⟩ : ∃ a0, as[0]? = some a0 := ⟨as[0]'(by omega), List.getElem?_eq_getElem _⟩
  obtain ⟨us0, eu0, oa0, lu0⟩ := paired_get D0 ea0
  have at0' : atI (as.map V.ref) ((0 : Nat) : Int) = some (.ref a0) := atI_nat (by rw [List.getElem?_map, ea0]; rfl)
  refine ⟨_, rfl, _, _, _, _, rfl, rfl, SqL.of orr, at0', a0, _, rfl, .inl oa0, fun n nn => ?_⟩
  have ek0 : ((dk ns us0).map fun kv => kV kv.1) = ns.map V.str := by
    have z := congrArg (List.map kV) (dk_keys lu0.symm)
    rw [List.map_map, List.map_map] at z
    exact z
  rw [ek0]
  have k1 := same_new (o := .lst (ns.map V.str)) nn
  have an := S0.apart (Same.refl _) nn
  have on : upd H n (.lst (ns.map V.str)) n = some (.lst (ns.map V.str)) := upd_same
  have S1 := S0.same k1
  have B1 : But l ls H (upd H n (.lst (ns.map V.str))) := But.of k1
  generalize upd H n (.lst (ns.map V.str)) = H1 at on S1 B1
  refine ⟨_, rfl, _, rfl, l, ls, n, ns.map V.str, _, rfl, S1, by omega, on, an.1, an.2, by rw [List.length_map]; omega, fun H2 c ws vs pm nc oc S2 B2 => ?_⟩
  have ac := S1.apart (Same.refl _) nc
  have yin : ∀ y ∈ ws, ∃ x, y = V.str x := fun y hy => by
    have z : y ∈ ns.map V.str := pm.mem_iff.mp (List.mem_append_left _ hy)
    obtain ⟨x, _, rfl⟩ := List.mem_map.mp z
    exact ⟨x, rfl⟩
  obtain ⟨known, rfl⟩ := strs_of ws yin
  have ndall : (known.map V.str ++ vs).Nodup := pm.nodup_iff.mpr (List.Pairwise.map V.str (fun a b h e => h (V.str.inj e)) W.nd)
  have knd : known.Nodup := by
    have z := (List.nodup_append.mp ndall).1
    exact (List.pairwise_map.mp z).imp fun h e => h (congrArg V.str e)
  have sub : ∀ x ∈ known, x ∈ ns := fun x hx => by
    have z : V.str x ∈ ns.map V.str := pm.mem_iff.mp (List.mem_append_left _ (List.mem_map_of_mem hx))
    obtain ⟨y, hy, e⟩ := List.mem_map.mp z
    exact V.str.inj e ▸ hy
  have kl : known.length ≤ ns.length := nodup_short knd sub
  have B12 := B1.trans B2
  have on2 := B2 _ _ an.1 an.2 on
  refine ⟨_, rfl, _, rfl, l, ls, r, as.map V.ref, _, rfl, S2, by omega, rl, rls, B12 _ _ rl rls orr, by rw [List.length_map]; omega, by rw [List.length_map]; omega, fun H3 fr fin3 S3 B3 => ?_⟩
  obtain ⟨af, haf, rfl⟩ := List.mem_map.mp fin3
  have B13 := B12.trans B3
  have on3 := B3 _ _ an.1 an.2 on2
  have oc3 := B3 _ _ ac.1 ac.2 oc
  have R3 := R0.but B13
  have D3 : DRows H3 ns as tbl := Paired.mapP R3 fun a vs h => ⟨h.1, h.2.1⟩
  obtain ⟨fi, hfi, efi⟩ := List.getElem_of_mem haf
  obtain ⟨usf, euf, oaf, luf, fl, fls⟩ := paired_get R3 (show as[fi]? = some af by rw [List.getElem?_eq_getElem hfi, efi])
  refine fun g ng => ?_
  have ag := S3.apart (Same.refl _) ng
  have kg := same_new (o := .dK []) ng
  have S4 := S3.same kg
  have og : upd H3 g (.dK []) g = some (.dK []) := upd_same
  have B34 : But l ls H3 (upd H3 g (.dK [])) := But.of kg
  generalize upd H3 g (.dK []) = H4 at kg S4 og B34
  refine ⟨_, rfl, c, rfl, ⟨_, SqL.of (kg _ _ oc3)⟩, for_list (xs := known.map V.str) (fun i σ H' => (∃ vs, H' g = some (.dK (dk (known.take i) vs)) ∧ vs.length = i) ∧ Strm H' l ls (N + 201 + 2 * i) ∧ But l ls H3 H' ∧
      ∃ s7 s8 s9 s10 s11, σ = [some (.ref l), some (.ref q), some (.ref r), some (.ref n), some (.ref c), some (.ref af), some (.ref g), s7, s8, s9, s10, s11])
    ⟨⟨[], og, rfl⟩, S4.mono (by omega), B34, _, _, _, _, _, rfl⟩ (fun i σ H' _ h => SqL.of (h.2.2.1 _ _ ac.1 ac.2 oc3)) ?_ ?_⟩
  · rintro i v σ H5 ev ⟨⟨vs, og5, lv⟩, S5, B5, s7, s8, s9, s10, s11, rfl⟩
    rw [List.getElem?_map] at ev
    obtain ⟨y, ey, rfl⟩ := Option.map_eq_some_iff.mp ev
    have yin := List.mem_of_getElem? ey
    have hi : i < known.length := (List.getElem?_eq_some_iff.mp ey).1
    have hi2 : (i : Int) < 10 := by omega
    have oaf5 := B5 _ _ fl fls oaf
    have dg := dk_av W.nd luf (sub y yin)
    refine ⟨_, rfl, _, rfl, _, rfl, af, _, rfl, dg ▸ DGet.k (k := Sum.inr y) oaf5, ?_⟩
    refine ⟨_, rfl, _, rfl, af, _, rfl, dg ▸ DGet.k (k := Sum.inr y) oaf5, ?_⟩
    refine ⟨_, rfl, l, ls, 4, _, rfl, S5, by omega, by decide, by decide, fun H6 z z0 z1 S6 B6 => ?_⟩
    refine ⟨_, _, rfl, rfl, (by rw [sizeLine_eq]; show 3 ≤ _; omega), fun t nt => ?_⟩
    have at' := S6.apart (Same.refl _) nt
    have kt := same_new (o := .lst [V.int (av ns usf y), V.int (av ns usf y), V.int (z - 1)]) nt
    have S7 := S6.same kt
    refine ⟨l, ls, t, _, _, rfl, S7, by omega, at'.1, at'.2, upd_same, (by show 0 < 3; decide), (by show 3 < 1000; decide), fun H7 x hx S8 B8 => ?_⟩
    obtain ⟨zz, rfl⟩ : ∃ zz : Int, x = V.int zz := by
      simp only [List.mem_cons, List.not_mem_nil, or_false] at hx
      rcases hx with h | h | h <;> exact ⟨_, h⟩
    have B57 : But l ls H5 H7 := (B6.trans (But.of kt)).trans B8
    have og7 := B57 _ _ ag.1 ag.2 og5
    have ldk : (dk (known.take i) vs).length = i := by
      unfold dk
      rw [List.length_map, List.length_zip, List.length_take]; omega
    refine ⟨_, rfl, _, rfl, g, _, rfl, DPut.k (k := Sum.inr y) og7 (by rw [sizeLine_eq, ldk]; omega), ?_⟩
    rw [dk_put knd ey lv]
    refine ⟨⟨vs ++ [zz], upd_same, by simp [lv]⟩, ?_, ?_, _, _, _, _, _, rfl⟩
    · obtain ⟨cs', g', k, m', S⟩ := S8
      exact Strm.mono ⟨cs', g', k, m', by rw [upd_ne (Ne.symm ag.1)]; exact S.o, by rw [upd_ne (Ne.symm ag.2)]; exact S.c, S.ne, S.g0, S.k0, S.k1, S.m0, S.m1, S.sz⟩ (by omega)
    · intro b' o h1 h2 e
      rw [upd_ne (ne_of_none e ng)]
      exact B57 _ _ h1 h2 (B5 _ _ h1 h2 e)
  · rintro σ H5 ⟨⟨vs, og5, lv⟩, S5, B5, s7, s8, s9, s10, s11, rfl⟩
    have etk : known.take (known.map V.str).length = known := List.take_of_length_le (by rw [List.length_map]; omega)
    rw [etk] at og5
    rw [List.length_map] at lv S5
    rw [dk_gvn knd sub lv] at og5
    generalize spread ns known vs = us at og5
    have B05 := B13.trans B5
    have orr5 := B05 _ _ rl rls orr
    have R5 := R0.but B05
    have D5 : DRows H5 ns as tbl := Paired.mapP R5 fun a vs h => ⟨h.1, h.2.1⟩
    have tab5 := tab0.but S0 B05 W.ne W.t
    have on5 := B5 _ _ an.1 an.2 on3
    have rg : ∀ a ∈ as, a ≠ g := fun a ha => by
      obtain ⟨i, hi, e⟩ := List.getElem_of_mem ha
      obtain ⟨u, _, ou, _⟩ := paired_get D3 (show as[i]? = some a by rw [List.getElem?_eq_getElem hi, e])
      exact ne_of_none ou ng
    have ll := left_len ns known us tbl
    have lk : (leftK ns known us tbl).length = (leftL ns known us tbl).length := by unfold leftK; rw [List.length_map]
    refine ⟨_, rfl, r, _, rfl, SqL.of orr5, lc_genO (leftO ns known us tbl) (by rw [leftO_len]; omega) (fun i H' s lt => ⟨_, _, SqL.of (s _ _ orr5), List.getElem?_eq_getElem (by rw [List.length_map, las, ← leftO_len ns known us tbl]; exact lt)⟩) (fun H' s => ⟨_, SqL.of (s _ _ orr5), by rw [List.length_map, las, leftO_len]; omega⟩) ?_ ?_⟩
    · rintro i v o H6 H7 Cn Nn eo s6 ⟨t, x, rfl, nt, rfl, gx⟩ yes no
      obtain ⟨u, eu, rfl⟩ := leftO_at eo
      have ex := gx _ (SqL.of (s6 _ _ orr5))
      rw [List.getElem?_map] at ex
      obtain ⟨ra, er, rfl⟩ := Option.map_eq_some_iff.mp ex
      obtain ⟨u', eu', or, lu⟩ := paired_get (D5.same s6) er
      obtain rfl : u = u' := by rw [eu] at eu'; exact Option.some.inj eu'
      have st := same_new (o := .tup [V.int (i : Nat), .ref ra]) nt
      refine ⟨t, _, rfl, SqT.of upd_same, rfl, _, _, rfl, _, _, rfl, rfl, rfl, ?_⟩
      have or4 := st _ _ or
      have og4 := st _ _ (s6 _ _ og5)
      generalize upd H6 t (.tup [V.int (i : Nat), .ref ra]) = H7 at st or4 og4
      have rg := rg ra (List.mem_of_getElem? er)
      refine ⟨g, _, og4, trivial, fun od => ⟨_, rfl, g, od, rfl, .inl ⟨_, upd_same, lc_gen ((known.map fun x => decide (av ns u x = av ns us x)).map V.bl) (by rw [List.length_map, List.length_map]; omega) (fun j H' s lt => ⟨s _ _ upd_same, by rw [gvn_len]; rw [List.length_map, List.length_map] at lt; exact lt⟩) (fun H' s => ⟨s _ _ upd_same, by rw [gvn_len, List.length_map, List.length_map]; exact Nat.le_refl _⟩) ?_ ?_⟩⟩⟩
      · rintro j v y H8 H9 Cm Nm ey s8 ⟨rfl, k, w', ek, rfl⟩ yes2
        obtain ⟨z, rfl, ez, hv⟩ := gvn_at knd ek
        rw [List.getElem?_map, List.getElem?_map, ez] at ey
        obtain rfl : V.bl (decide (av ns u z = av ns us z)) = y := Option.some.inj ey
        refine ⟨rfl, ?_⟩
        refine ⟨_, rfl, _, rfl, ra, _, rfl, dk_av W.nd lu (sub z (List.mem_of_getElem? ez)) ▸ DGet.k (k := Sum.inr z) (s8 _ _ (by rw [upd_ne rg]; exact or4)), ?_⟩
        refine ⟨_, rfl, _, rfl, g, _, rfl, .inl ⟨_, Sum.inr z, .inr ⟨_, s8 _ _ upd_same⟩, rfl, hv.symm⟩, rfl, ?_⟩
        rw [dec_int2]
        exact yes2 _ (Same.refl _)
      · intro H8 D nD oD s8
        obtain ⟨b1, s78⟩ := lock_off og4 s8
        have Da : D ≠ g := fun z => by rw [z, upd_same] at nD; cases nD
        refine ⟨b1, D, _, rfl, SqL.of (by rw [upd_ne Da]; exact oD), _, rfl, ?_⟩
        rw [all_agree]
        cases c : agree ns known us u with
        | true => exact ⟨_, rfl, yes _ (by rw [if_pos c]) _ (st.trans s78)⟩
        | false => exact no (by rw [if_neg (by rw [c]; simp)]) _ (st.trans s78)
    intro H6 du ndu odu k6
    rw [left_list, leftK_map] at odu
    obtain ⟨dx, _, _, ha, _, _⟩ := id (tab5.same k6).ex
    refine ⟨_, rfl, q, dx, _, rfl, ha, rfl, _, rfl, q, g, ns, known, us, tbl, rfl, tab5.same k6, W, k6 _ _ og5, knd, sub, fun H7 lf nlf olf k7 => ?_⟩
    rw [leftK_map] at olf
    refine ⟨_, rfl, _, _, rfl, alk_ints olf (k7 _ _ odu) (by omega), fun H8 k8 => ⟨_, rfl, iteF ?_⟩⟩
    have k58 := (k6.trans k7).trans k8
    have S8 := S5.same k58
    have on8 := k58 _ _ on5
    refine ⟨_, rfl, _, rfl, l, ls, n, ns.map V.str, _, rfl, S8, by omega, an.1, an.2, on8, by rw [List.length_map]; exact List.length_pos_iff.mpr W.ne, by rw [List.length_map]; omega, fun H9 x hx S9 B9 => ?_⟩
    obtain ⟨x, xin, rfl⟩ := List.mem_map.mp hx
    have adu := S5.apart (Same.refl _) ndu
    have odu9 := B9 _ _ adu.1 adu.2 (k8 _ _ (k7 _ _ odu))
    have og9 := B9 _ _ ag.1 ag.2 (k58 _ _ og5)
    have B59 : But l ls H5 H9 := (But.of k58).trans B9
    have B09 := B05.trans B59
    have tab9 := tab5.but S5 B59 W.ne W.t
    have D9 : DRows H9 ns as tbl := Paired.mapP (R5.but B59) fun a vs h => ⟨h.1, h.2.1⟩
    have orr9 := B09 _ _ rl rls orr
    obtain ⟨dx9, _, _, ha9, _, _⟩ := id tab9.ex
    refine ⟨_, rfl, q, dx9, _, rfl, ha9, rfl, _, rfl, _, rfl, q, g, ns, known, us, tbl, x, rfl, tab9, W, by omega, og9, knd, sub, xin, fun H10 m ks nm om up mem k10 => ?_⟩
    refine ⟨_, rfl, du, rfl, ⟨_, SqL.of (k10 _ _ odu9)⟩, lc_gen (((leftL ns known us tbl).map fun i => av ns (tbl.getD i []) x).map V.int) (by rw [List.length_map, List.length_map]; omega) (fun i H' s lt => ⟨_, _, SqL.of (s _ _ (k10 _ _ odu9)), List.getElem?_eq_getElem (by rw [List.length_map, List.length_map] at lt; rw [List.length_map, lk]; exact lt)⟩) (fun H' s => ⟨_, SqL.of (s _ _ (k10 _ _ odu9)), by rw [List.length_map, List.length_map, List.length_map, lk]; omega⟩) ?_ ?_⟩
    · rintro i v y H11 H12 Cn Nn ek s11 ⟨rfl, ev⟩ yes
      have k911 := k10.trans s11
      have ev := ev _ (SqL.of (s11 _ _ (k10 _ _ odu9)))
      unfold leftK at ev
      rw [List.map_map, List.getElem?_map] at ev
      obtain ⟨j, ej, rfl⟩ := Option.map_eq_some_iff.mp ev
      rw [List.map_map, List.getElem?_map, ej] at ek
      obtain rfl : V.int (av ns (tbl.getD j []) x) = y := Option.some.inj ek
      obtain ⟨u, eu, _⟩ := left_mem.mp (List.mem_of_getElem? ej)
      have eg : tbl.getD j [] = u := by rw [List.getD_eq_getElem?_getD, eu]; rfl
      have jl : j < as.length := by rw [las]; exact (List.getElem?_eq_some_iff.mp eu).1
      obtain ⟨u', eu', oc', lu⟩ := paired_get (D9.same k911) (List.getElem?_eq_getElem jl)
      obtain rfl : u = u' := by rw [eu] at eu'; exact Option.some.inj eu'
      refine ⟨rfl, ?_⟩
      refine ⟨_, rfl, _, rfl, _, _, _, _, rfl, rfl, SqL.of (k911 _ _ orr9), atI_nat (by rw [List.getElem?_map, List.getElem?_eq_getElem jl]; rfl), _, rfl, as[j], _, rfl, dk_av W.nd lu xin ▸ DGet.k (k := Sum.inr x) oc', ?_⟩
      rw [eg] at yes
      exact yes _ (Same.refl _)
    intro H11 D nD oD k11
    refine ⟨D, _, rfl, SqL.of oD, by rw [List.length_map]; omega, fun p cc np le => ?_⟩
    rw [List.length_map] at le
    have kp := same_new (o := SetO w p (fun j => decide (j ∈ (leftL ns known us tbl).map fun i => av ns (tbl.getD i []) x)) cc) np
    refine ⟨p, _, cc, rfl, upd_same, by omega, fun ks2 p2 up2 mem2 len2 np2 => ?_⟩
    have kp2 := same_new (o := .lst (ks2.map V.int)) np2
    have e : ks2 = ks := sorted_one ((List.perm_ext_iff_of_nodup (up2.imp fun h => Int.ne_of_lt h) (up.imp fun h => Int.ne_of_lt h)).mpr fun k => by
      rw [mem k, mem2 k, decide_eq_true_eq, List.mem_map]
      constructor
      · rintro ⟨i, hi, e⟩
        obtain ⟨u, eu, ku⟩ := left_mem.mp hi
        refine ⟨u, List.mem_of_getElem? eu, ku, ?_⟩
        rw [List.getD_eq_getElem?_getD, eu] at e
        exact e
      · rintro ⟨u, hu', ku, e⟩
        obtain ⟨i, hi, ei⟩ := List.getElem_of_mem hu'
        have eu : tbl[i]? = some u := by rw [List.getElem?_eq_getElem hi, ei]
        refine ⟨i, left_mem.mpr ⟨u, eu, ku⟩, ?_⟩
        rw [List.getD_eq_getElem?_getD, eu]
        exact e) (up2.imp fun h => Int.le_of_lt h) up
    subst e
    have k1012 := (k11.trans kp).trans kp2
    refine ⟨_, _, rfl, alk_ints (k1012 _ _ om) upd_same (by rw [len2]; omega), fun H12 k12 => ?_⟩
    have k912 := (k10.trans k1012).trans k12
    exact hq H12 ((S9.same k912).mono (by omega)) (B09.trans (But.of k912))
end
end L2.TB
namespace L2.TB
open PySem PySem.Spec PyProof.Rows
/-! != of two lists of rows, whatever their answers -/
section
open SeqAt MeetsSeq MeetsSeq2 MeetsSeq3 SeqRoads2
open AutoSeq1 (wpAny_loadPart')
variable {prog : Program} {w : World} {A : Around} {R : Result → Shared → Prop}
theorem ne_turnsG (l b : Addr) (xs ys : Array Value) (n n2 : Nat) (Pj : Nat → Prop) [DecidablePred Pj] {s : Shared} (gl : s.heap.get? l = some { cls := .type "list", data := .seq xs n }) (gb : s.heap.get? b = some { cls := .type "list", data := .seq ys n2 })
    (sz : xs.size = ys.size) (same : ∀ j (h1 : j < xs.size) (h2 : j < ys.size), EqIn prog w A.in1 s xs[j] ys[j] (decide (Pj j))) (fin0 : (∀ j, j < xs.size → Pj j) → R (.ok (.ret (.bool false))) s) (fin1 : ∀ j, j < xs.size → ¬ Pj j → R (.ok (.ret (.bool true))) s) (k : Nat) :
    ∀ i : Nat, xs.size - i = k → (∀ j, j < i → Pj j) → wpAny (model prog w) A.in1 (Builtin.«list.__eq__.loop» ⟨[.ref l, .ref b, rawInt i, rawInt 3], []⟩) (GQ.FinOf prog w A R) (fun e s' => R (.error e) s') s := by
  obtain ⟨h0, gs, ds, tk, os⟩ := s
  induction k with
  | zero =>
    intro i out before
    wp_walk using wpAny_loadPart' gl, wpAny_loadPart' gb
    have n1 : xs[((i : Nat) : Int).toNat]? = none := by simp; omega
    have n2' : ys[((i : Nat) : Int).toNat]? = none := by simp; omega
    rw [n1, n2']
    wp_walk using wpAny_loadPart' gl, wpAny_loadPart' gb
    show R (.ok (.ret (.bool (xs.size != ys.size)))) _
    rw [sz, bne_self_eq_false]
    exact fin0 fun j hj => before j (by omega)
  | succ k more =>
    intro i left before
    have t1 : i < xs.size := by omega
    have t2 : i < ys.size := by omega
    wp_walk using wpAny_loadPart' gl, wpAny_loadPart' gb
    have e1 : xs[((i : Nat) : Int).toNat]? = some xs[i] := by simp [t1]
    have e2 : ys[((i : Nat) : Int).toNat]? = some ys[i] := by simp [t2]
    have up : ((i : Int) + 1) = ((i + 1 : Nat) : Int) := by omega
    rw [e1, e2]
    refine wpAny_bind (same i t1 t2 _ _ ?_)
    by_cases pi : Pj i
    · rw [decide_eq_true pi]
      wp_walk
      rw [up]
      have next := more (i + 1) (by omega) fun j hj => by
        rcases Nat.lt_succ_iff_lt_or_eq.mp hj with z | rfl
        · exact before j z
        · exact pi
      exact ⟨plainId_quiet plain_eq_loop _, codeAny_builtin entry_eq_loop (by rw [Around.under_plainId plain_eq_loop _]; exact next)⟩
    · rw [decide_eq_false pi]
      have z := fin1 i t1 pi
      wp_walk
      rw [e1, e2]
      wp_walk
      exact z
theorem ne_listsG (l b : Addr) (xs ys : Array Value) (n n2 : Nat) (Pj : Nat → Prop) [DecidablePred Pj] {s : Shared} (gl : s.heap.get? l = some { cls := .type "list", data := .seq xs n }) (gb : s.heap.get? b = some { cls := .type "list", data := .seq ys n2 })
    (sz : xs.size = ys.size) (same : ∀ j (h1 : j < xs.size) (h2 : j < ys.size), EqIn prog w A.in1 s xs[j] ys[j] (decide (Pj j))) (fin0 : (∀ j, j < xs.size → Pj j) → R (.ok (.ret (.bool false))) s) (fin1 : ∀ j, j < xs.size → ¬ Pj j → R (.ok (.ret (.bool true))) s) :
    wpAny (model prog w) A.in1 (Builtin.«list.__ne__» ⟨[.ref l, .ref b], []⟩) (GQ.FinOf prog w A R) (fun e s' => R (.error e) s') s := by
  have first := ne_turnsG l b xs ys n n2 Pj gl gb sz same fin0 fin1 _ 0 rfl (fun j h => absurd h (Nat.not_lt_zero j))
  obtain ⟨h0, gs, ds, tk, os⟩ := s
  have sub := AutoSeq1.sub_list_list
  have no : ¬ (xs.size != ys.size) = true := by simp [sz]
  wp_walk using wpAny_loadPart' gl, wpAny_loadPart' gb
  exact ⟨plainId_quiet plain_eq_loop _, codeAny_builtin entry_eq_loop (by rw [Around.under_plainId plain_eq_loop _]; exact first)⟩
end
section
variable {κ : Type} [DecidableEq κ]
theorem hits_ints {A : Around} {s : Shared} {kvs : List (κ × V)} {vb : List (κ × Value)} (rb : KV kvs vb) {ks : List (κ × V)} {va : List (κ × Value)} (ra : KV ks va) :
    (∀ p ∈ ks, ∃ n m : Int, p.2 = .int n ∧ valV kvs p.1 = some (.int m)) → PySem.W.KeqHits A s vb va (ks.all fun p => decide (valV kvs p.1 = some p.2)) := by
  unfold KV at ra
  induction ra with
  | nil => intro _; exact .nil
  | @cons p q ps qs h t ih =>
    intro hp
    obtain ⟨h1, h2⟩ := h
    obtain ⟨n, m, e, f⟩ := hp p List.mem_cons_self
    have rr : RelO (some (.int m)) (valueAt vb p.1) := by rw [← f]; exact rb.val p.1
    obtain ⟨y, hy, ry⟩ := rr.some_of
    obtain ⟨k, v⟩ := q
    have h1' : p.1 = k := h1
    rw [h1'] at hy
    rw [e] at h2
    obtain ⟨t1, rfl⟩ := h2
    obtain ⟨t2, rfl⟩ := ry
    have ee : (decide (valV kvs p.1 = some p.2)) = (n == m) := by
      rw [f, e]
      by_cases z : n = m
      · subst z; simp
      · have z' : ¬ m = n := fun q => z q.symm
        simp [z, z']
    rw [List.all_cons, ee]
    exact .hit hy (SeqAt.EqAt.int_int n t1 m t2) (ih fun p' hm => hp p' (List.mem_cons_of_mem _ hm))
end
theorem dk_self {ns : List Str} {us : List Int} (nd : ns.Nodup) (l : us.length = ns.length) : dk ns us = gvn ns ns us := by
  rw [gvn_dk]
  congr 1
  exact (av_all nd l).symm
theorem dk_all {ns : List Str} {us vs : List Int} (nd : ns.Nodup) (lu : us.length = ns.length) (lv : vs.length = ns.length) : ((dk ns us).all fun p => decide (valV (dk ns vs) p.1 = some p.2)) = decide (us = vs) := by
  rw [dk_self nd lu, Bool.eq_iff_iff, List.all_eq_true, decide_eq_true_eq]
  constructor
  · intro h
    rw [← av_all nd lu, ← av_all nd lv]
    refine List.map_congr_left fun x hx => ?_
    have m : ((Sum.inr x : Key), V.int (av ns us x)) ∈ gvn ns ns us := by
      unfold gvn
      exact List.mem_map.mpr ⟨x, hx, rfl⟩
    have z := of_decide_eq_true (h _ m)
    rw [show valV (dk ns vs) (Sum.inr x) = _ from dk_av nd lv hx] at z
    exact (V.int.inj (Option.some.inj z)).symm
  · rintro rfl p hp
    unfold gvn at hp
    obtain ⟨x, hx, rfl⟩ := List.mem_map.mp hp
    exact decide_eq_true (dk_av nd lu hx)
theorem dk_inj {ns : List Str} {us vs : List Int} (nd : ns.Nodup) (lu : us.length = ns.length) (lv : vs.length = ns.length) (h : dk ns us = dk ns vs) : us = vs := by
  have z := dk_all nd lu lv
  have q : ((dk ns us).all fun p => decide (valV (dk ns vs) p.1 = some p.2)) = true := by
    rw [h, dk_all nd lv lv]
    exact decide_eq_true rfl
  rw [q] at z
  exact of_decide_eq_true z.symm
def rNeLI : R2 := fun x y H Q => ∃ (a b : Addr) (as bs : List Addr) (ns : List Str) (t1 t2 : List (List Int)), x = .ref a ∧ y = .ref b ∧ H a = some (.lst (as.map V.ref)) ∧ H b = some (.lst (bs.map V.ref)) ∧ t1.length = t2.length ∧ ns.Nodup ∧ DRows H ns as t1 ∧ DRows H ns bs t2 ∧ Q (.bl (decide (t1 ≠ t2))) H
theorem op_neLI {X : Cx} (hu : X.A.units + 64 < cLine) : OpR X (compareOp .NotEq) rNeLI := by
  intro pins s σ H x y v u Q I rx ry h
  obtain ⟨a, b, as, bs, ns, t1, t2, rfl, rfl, ha, hb, len, nnd, d1, d2, q⟩ := h
  obtain rfl : v = Value.ref a := rx
  obtain rfl : u = Value.ref b := ry
  obtain ⟨z1, xs, n1, r1, g1⟩ := I.hok a _ ha
  obtain ⟨z2, ys, n2, r2, g2⟩ := I.hok b _ hb
  have la : as.length = t1.length := Paired.length d1
  have lb : bs.length = t2.length := Paired.length d2
  have lx : xs.length = as.length := by rw [← r1.length, List.length_map]
  have ly : ys.length = bs.length := by rw [← r2.length, List.length_map]
  show wpAny _ _ (richCompare .NotEq (.ref a) (.ref b)) _ _ _
  refine wpAny_richCompare_same_room (op := .NotEq) ⟨_, g1, rfl⟩ ⟨_, g2, rfl⟩ F.slot_list_ne (GQ.call_here F.slot_list_ne ⟨_, g1, rfl⟩ F.entry_list_ne (F.args_list_ne_2 _ _) ?_) (by omega)
  refine ne_listsG a b xs.toArray ys.toArray n1 n2 (fun j => t1[j]? = t2[j]?) g1 g2 (by rw [List.size_toArray, List.size_toArray, lx, ly]; omega) (fun j h1 h2 => ?_) (fun all => ⟨(fun e => nomatch e), ?_⟩) fun j hj no => ⟨(fun e => nomatch e), ?_⟩
  · have j1 : j < as.length := by rw [← lx]; simpa using h1
    have j2 : j < bs.length := by rw [← ly]; simpa using h2
    obtain ⟨us, eu, oc, lu⟩ := paired_get d1 (List.getElem?_eq_getElem j1)
    obtain ⟨vs, ev, od, lv⟩ := paired_get d2 (List.getElem?_eq_getElem j2)
    obtain ⟨u1, e1, rel1⟩ := r1.get (show (as.map V.ref)[j]? = some (V.ref as[j]) by rw [List.getElem?_map, List.getElem?_eq_getElem j1]; rfl)
    obtain ⟨u2, e2, rel2⟩ := r2.get (show (bs.map V.ref)[j]? = some (V.ref bs[j]) by rw [List.getElem?_map, List.getElem?_eq_getElem j2]; rfl)
    obtain rfl : u1 = Value.ref as[j] := rel1
    obtain rfl : u2 = Value.ref bs[j] := rel2
    have f1 : xs.toArray[j] = Value.ref as[j] := by
      have z : xs[j]? = some xs.toArray[j] := by
        have h1' : j < xs.length := by simpa using h1
        rw [List.getElem?_eq_getElem h1'] <;> simp
      rw [z] at e1
      exact Option.some.inj e1
    have f2 : ys.toArray[j] = Value.ref bs[j] := by
      have z : ys[j]? = some ys.toArray[j] := by
        have h2' : j < ys.length := by simpa using h2
        rw [List.getElem?_eq_getElem h2'] <;> simp
      rw [z] at e2
      exact Option.some.inj e2
    rw [f1, f2]
    have ed : decide (t1[j]? = t2[j]?) = decide (us = vs) := by
      rw [eu, ev]
      exact decide_eq_decide.mpr ⟨fun z => Option.some.inj z, fun z => by rw [z]⟩
    rw [ed]
    by_cases eq : as[j] = bs[j]
    · rw [← eq] at od ⊢
      rw [oc] at od
      have e : us = vs := dk_inj nnd lu lv (HO.dK.inj (Option.some.inj od))
      rw [decide_eq_true e]
      exact SeqAt.EqAt.inModel (SeqAt.EqAt.same _) _ _
    · refine SeqAt.EqIn.of_refs eq fun E Q' fin => ?_
      obtain ⟨_, y1, v1, kv1, d1'⟩ := (show ObjOk X.prog X.w H s.heap as[j] (.dK (dk ns us)) from I.hok _ _ oc)
      obtain ⟨_, y2, v2, kv2, d2'⟩ := (show ObjOk X.prog X.w H s.heap bs[j] (.dK (dk ns vs)) from I.hok _ _ od)
      have lv' : v1.length = v2.length := by rw [← kv1.length, ← kv2.length, dk_len lu, dk_len lv]
      have hits := hits_ints (A := X.A.in1.in1) (s := s) kv2 kv1 fun p hp => by
        rw [dk_self nnd lu] at hp
        unfold gvn at hp
        obtain ⟨x, hx, rfl⟩ := List.mem_map.mp hp
        exact ⟨_, _, rfl, dk_av nnd lv hx⟩
      rw [dk_all nnd lu lv] at hits
      exact PySem.W.keq_eq (knd := mixKind X.prog X.w) y1 y2 d1' d2' (show X.A.in1.units < cLine from by show X.A.units + _ < cLine; omega) (fun _ => hits) (by simpa [lv'] using fin)
  · refine ⟨.bl false, H, I, rfl, ?_⟩
    have e : t1 = t2 := List.ext_getElem? fun j => by
      by_cases lt : j < t1.length
      · exact all j (by rw [List.size_toArray, lx]; omega)
      · rw [List.getElem?_eq_none (by omega), List.getElem?_eq_none (by omega)]
    rw [decide_eq_false (by simpa using e)] at q
    exact q
  · refine ⟨.bl true, H, I, rfl, ?_⟩
    have e : t1 ≠ t2 := fun z => no (by rw [z])
    rw [decide_eq_true e] at q
    exact q
end L2.TB
namespace L2.TB
open PySem PySem.Spec PyProof.Rows
/-! a table with some questions alone, their names in a list or a tuple; the law's look at it -/
/-- a dict made over a list or a tuple -/
theorem dc_genS {K : PySem.W.Frag} {a : Addr} {xs : List V} {g : TG} {tt : TT} {tk tv : TE} {vs : List Nat} {σ : St} {H1 : Hp} {Q : Addr → Hp → Prop} (h : SqA K H1 a xs) (kvs : List (Key × V)) (len : xs.length = kvs.length) (short : kvs.length < 1000000) (unlike : (kvs.map (·.1)).Nodup)
    (turn : ∀ (i : Nat) (x : V) (k : Key) (v : V) (H : Hp) (C : V → V → Hp → Prop) (N : Hp → Prop), xs[i]? = some x → kvs[i]? = some (k, v) → Same H1 H → (∀ H5, Same H H5 → C (kV k) v H5) →
      g x (wipe σ vs) H fun σ2 H2 => wipe σ2 vs = wipe σ vs ∧ tt σ2 H2 fun b H3 => if b = true then tk σ2 H3 fun y H4 => tv σ2 H4 fun z H5 => C y z H5 else N H3)
    (fin : ∀ H D, H1 D = none → H D = some (.dK kvs) → Same H1 H → Q D H) :
    ∃ b ys, V.ref a = V.ref b ∧ ((SqL K H1 b ys ∧ DcW (Itl K b) g tt tk tv vs σ H1 Q) ∨ (SqT K H1 b ys ∧ DcW (Itt K b) g tt tk tv vs σ H1 Q)) := by
  rcases h with h | h
  · refine ⟨a, xs, rfl, .inl ⟨SqL.of h, dc_gen kvs short unlike (fun i H' s lt => ⟨_, _, SqL.of (s _ _ h), List.getElem?_eq_getElem (by rw [len]; exact lt)⟩) (fun H' s => ⟨_, SqL.of (s _ _ h), by omega⟩) ?_ fin⟩⟩
    rintro i x k v H H' C N ek s1 ⟨rfl, ex⟩ yes
    exact turn i x k v H' C N (ex _ (SqL.of (s1 _ _ h))) ek s1 yes
  · refine ⟨a, xs, rfl, .inr ⟨SqT.of h, dc_gen kvs short unlike (fun i H' s lt => ⟨_, _, SqT.of (s _ _ h), List.getElem?_eq_getElem (by rw [len]; exact lt)⟩) (fun H' s => ⟨_, SqT.of (s _ _ h), by omega⟩) ?_ fin⟩⟩
    rintro i x k v H H' C N ek s1 ⟨rfl, ex⟩ yes
    exact turn i x k v H' C N (ex _ (SqT.of (s1 _ _ h))) ek s1 yes
def spOnlyA (K : PySem.W.Frag) (C : Addr) : Sp := fun vs H Q _ => ∃ (a b : Addr) (ns known : List Str) (tbl : List (List Int)), vs = [.ref a, .ref b] ∧ TabAt H C a ns tbl ∧ Wide ns tbl ∧ SqA K H b (known.map V.str) ∧ known.Nodup ∧ (∀ x ∈ known, x ∈ ns) ∧ known ≠ [] ∧
  ∀ H' c, H c = none → TabAt H' C c known (tbl.map (keyR ns known)) → Same H H' → Q (.ref c) H'
section
variable {P : Program} {w : World} {K : PySem.W.Frag} {mg : Str → Option Value} {base : Heap} {f C fR fA fL fI aF aL aO aK aA aB : Addr} {fd fdR fdA fdL fdI : FuncData}
theorem ok_onlyA (F : Fun K "only" "Table.only" sOnly f fd) (T : TabC K C) (GR : FnOk P w K mg base CX0 2 fR fdR ["self"] (spRowsM C)) (FR : Fun K "rows" "Table.rows" sRowsM fR fdR) (mR : Meth K C "rows" fR)
    (M : Mk K C fI) (GI : FnOk P w K mg base CX0 3 fI fdI ["self", "rows"] (spInit C)) (FI : Fun K "__init__" "Table.__init__" sInit fI fdI) (gC : mg "Table" = some (.ref C)) (Ck : Chk K mg aF aL aO aK aA aB) (gN : mg "len" = none) : FnOk P w K mg base CX0 5 f fd ["self", "names"] (spOnlyA K C) := by
  have bR := FR.binds (ps := ["self"]) fun _ _ _ _ _ _ us hl => match us, hl with | [_], _ => rfl
  have bI := FI.binds (ps := ["self", "rows"]) fun _ _ _ _ _ _ us hl => match us, hl with | [_, _], _ => rfl
  obtain ⟨fdK, FK⟩ := Ck.CK
  have GK := ok_ckK (P := P) (w := w) (base := base) Ck FK
  have bK := FK.binds (ps := ["names", "known"]) fun _ _ _ _ _ _ us hl => match us, hl with | [_, _], _ => rfl
  refine F.ok scOnly (fun vs H Q E h => by obtain ⟨a, b, ns, known, tbl, e, _⟩ := h; rw [e]; rfl) fun cdv A outer s H vs Q E hr hsp => ?_
  obtain ⟨a, b, ns, known, tbl, rfl, tab, W, ob, knd, sub, kne, hq⟩ := hsp
  obtain ⟨dx, qa, ra, ha, hqa, hra⟩ := id tab.ex
  have nd := scOnly.nd
  have hu := hu_of hr
  have w1 := W.l1
  have w2 := W.l2
  have kl : known.length ≤ ns.length := nodup_short knd sub
  have kpos : 0 < known.length := List.length_pos_iff.mpr kne
  refine ⟨_, pss_cons (ps_expr (pe_call GK (hr.mono (by decide)) rfl Ck.gCK FK.kp bK .nil pass0 (pa_cons (pe_fld (pv 0) rfl) (pa_cons (pv 1) pa_nil))))
    (pss_cons (ps_if (pt_cmpR op_eq (pe_callB call_len_seq rfl gN boot_len (pa_cons (pv 1) pa_nil)) pe_int (nomark _)) (pss_one ps_never) pss_nil)
    (pss_one (ps_ret (pe_make M GI hr rfl gC bI .nil pass0 (pa_cons (pe_lc (own := [("row", 2)]) (tt := tYes) (te := tDc (iSeq K (tVar 1)) (gName 3) tYes (tVar 3) (tDGet (tVar 2) (tVar 3)) [3]) rfl nd (pi_list (pe_meth0 (pv 0) T.cl mR GR (hr.mono (by decide)) bR .nil pass0)) (blkOk_by (N := NOn) (sc := defScope sOnly) (by decide +kernel))
      (fun _ _ _ _ _ => pg_name (i := 2) nd rfl (Or.inr rfl)) (fun _ _ _ _ _ => pts_nil)
      (fun _ _ _ _ _ => pe_dc (own := [("name", 3)]) (wi := iSeq K (tVar 1)) (g := gName 3) (tt := tYes) (tk := tVar 3) (tv := tDGet (tVar 2) (tVar 3)) rfl nd (pi_seq (pv 1)) (blkOk_by (N := NOn) (sc := scOn) (by decide +kernel)) (fun _ _ _ _ _ => pg_name (i := 3) nd rfl (Or.inl rfl)) (fun _ _ _ _ _ => pts_nil) (fun _ _ _ _ _ => pv 3) (fun _ _ _ _ _ => pe_dget hu (pv 2) (pv 3) (fun _ _ => rfl)))) pa_nil))))), ?_⟩
  refine ⟨_, rfl, a, C, dx, _, _, rfl, ha, T.cl, T.nQ, rfl, _, rfl, qa, b, ns, known, rfl, hqa, ob, knd, sub, by omega, fun H1 k1 => ?_⟩
  refine ⟨_, rfl, b, _, rfl, (ob.same k1).seq, rfl, _, rfl, ?_⟩
  rw [dec_int2, List.length_map, decide_eq_false (by omega : ¬ ((known.length : Nat) : Int) = 0)]
  refine iteF ?_
  refine ⟨_, rfl, a, dx, _, rfl, k1 _ _ ha, rfl, a, ns, tbl, rfl, tab.same k1, W.nd, by omega, by omega, fun H2 r as nr or rows _ k2 => ?_⟩
  have k12 := k1.trans k2
  have las : as.length = tbl.length := Paired.length rows
  have ob2 := ob.same k12
  refine ⟨r, rfl, ⟨_, SqL.of or⟩, ?_⟩
  refine lc_made tbl.length (by omega) (fun i H' k lt => ⟨_, _, SqL.of (k _ _ or), List.getElem?_eq_getElem (by rw [List.length_map]; omega)⟩) (fun H' k => ⟨_, SqL.of (k _ _ or), by rw [List.length_map]; omega⟩)
    (fun i y H' => ∃ t us, y = V.ref t ∧ tbl[i]? = some us ∧ H' t = some (.dK (gvn ns known us))) ?_ ?_ ?_
  · rintro i y H3 H4 D l ⟨t, us, rfl, eu, ot⟩ oD keep
    exact ⟨t, us, rfl, eu, keep _ _ (ne_of ot oD (by intro z; cases z)) ot⟩
  · rintro i x H3 H4 Cn Nn lt s3 ⟨rfl, ex⟩ yes
    have ex := ex _ (SqL.of (s3 _ _ or))
    rw [List.getElem?_map] at ex
    obtain ⟨p, ep, rfl⟩ := Option.map_eq_some_iff.mp ex
    obtain ⟨us, eu, op, lu⟩ := paired_get (rows.same s3) ep
    refine ⟨rfl, ?_⟩
    refine ⟨_, rfl, dc_genS (Q := fun D H' => Cn (.ref D) H') (ob2.same s3) (gvn ns known us) (by rw [gvn_len, List.length_map]) (by rw [gvn_len]; omega) (gvn_nd knd) ?_ fun H5 D nD oD s5 => yes _ _ ⟨D, us, rfl, eu, oD⟩ s5⟩
    rintro j v k z H5 Cm Nm ev ekv s5 yes2
    obtain ⟨y, rfl, ey, hv⟩ := gvn_at knd ekv
    have ez : z = V.int (av ns us y) := by
      have q := val_at _ _ _ (gvn_nd knd) (List.mem_of_getElem? ekv)
      rw [hv] at q
      exact (Option.some.inj q).symm
    subst ez
    rw [List.getElem?_map, ey] at ev
    obtain rfl : V.str y = v := Option.some.inj ev
    refine ⟨rfl, ?_⟩
    exact ⟨_, rfl, _, rfl, _, rfl, p, _, rfl, dk_av W.nd lu (sub y (List.mem_of_getElem? ey)) ▸ DGet.k (k := Sum.inr y) (s5 _ _ op), yes2 _ (Same.refl _)⟩
  · intro H3 D ys nD oD ly ry s3
    obtain ⟨bs, rfl, pa⟩ := addrs_of (H := H3) (P := fun i t => ∃ us, tbl[i]? = some us ∧ H3 t = some (.dK (gvn ns known us))) ys 0 fun j y e => by
      obtain ⟨t, us, e1, e2, e3⟩ := ry j y e
      exact ⟨t, e1, us, by simpa using e2, e3⟩
    have lb : bs.length = tbl.length := by rw [← ly, List.length_map]
    have dd : DRows H3 known bs (tbl.map (keyR ns known)) := paired_of bs _ (by rw [lb, List.length_map]) fun i t us et eu => by
      rw [List.getElem?_map] at eu
      obtain ⟨u, eu2, rfl⟩ := Option.map_eq_some_iff.mp eu
      obtain ⟨u', e2, e3⟩ := pa i t et
      rw [Nat.zero_add, eu2] at e2
      cases e2
      rw [gvn_dk] at e3
      exact ⟨e3, by unfold keyR; rw [List.length_map]⟩
    have k13 := k12.trans s3
    refine fun x dy nx ndy nex => ?_
    have kx : Same H3 (upd (upd H3 dy (.own x)) x (.ins C dy [])) := fun b o e => by rw [upd_ne (ne_of_none e nx), upd_ne (ne_of_none e ndy)]; exact e
    refine ⟨x, dy, D, bs, known, tbl.map (keyR ns known), rfl, upd_same, kx _ _ oD, dd.same kx, by simp [W.t], by rw [List.length_map]; omega, kne, knd, fun y hy => W.ok y (sub y hy), by omega, fun H6 T6 fr => ⟨rfl, ?_⟩⟩
    exact hq H6 x (k13.free nx) T6 fun b o e => fr b o (ne_of_none (k13 _ _ e) nx) (kx _ _ (k13 _ _ e))
end
/-- lists of rows alike are equal -/
theorem rows_eqR {K : PySem.W.Frag} {H : Hp} {ns : List Str} {a b : Addr} {tbl : List (List Int)} (nd : ns.Nodup) : ∀ {as bs : List Addr}, H a = some (.lst (as.map V.ref)) → H b = some (.lst (bs.map V.ref)) → DRows H ns as tbl → DRows H ns bs tbl → EqR K H (EqV K H 2) (.ref a) (.ref b) := by
  intro as bs ha hb d1 d2
  refine .inl ⟨a, b, _, _, rfl, rfl, SqL.of ha, SqL.of hb, ?_⟩
  have z : ∀ {tbl as bs}, DRows H ns as tbl → DRows H ns bs tbl → Paired (EqV K H 2) (as.map V.ref) (bs.map V.ref) := by
    intro tbl as bs d1
    induction d1 generalizing bs with
    | nil => intro d2; cases d2; exact .nil
    | cons h _ ih =>
      intro d2
      cases d2 with
      | cons h2 t2 =>
        refine .cons (.inr (.inr (.inr ⟨_, _, _, _, rfl, rfl, h.1, h2.1, rfl, fun p hp => ?_⟩))) (ih t2)
        refine ⟨p.2, val_at _ _ _ (dk_nd h.2.symm nd) hp, .inl ⟨rfl, ?_⟩⟩
        unfold dk at hp
        obtain ⟨q, _, rfl⟩ := List.mem_map.mp hp
        rfl
  exact z d1 d2
def spOnlyR (C : Addr) : Sp := fun vs H Q _ => ∃ (l ls q r c : Addr) (as : List Addr) (ns known : List Str) (tbl : List (List Int)) (N : Int), vs = [.ref l, .ref q, .ref r, .ref c] ∧ Strm H l ls N ∧ N ≤ 700000 ∧ H r = some (.lst (as.map V.ref)) ∧ r ≠ l ∧ r ≠ ls ∧ RowsAt H l ls ns as tbl ∧ TabAt H C q ns tbl ∧ Wide ns tbl ∧ tbl.length ≤ 20 ∧
  H c = some (.lst (known.map V.str)) ∧ c ≠ l ∧ c ≠ ls ∧ known.Nodup ∧ (∀ x ∈ known, x ∈ ns) ∧ known ≠ [] ∧ ∀ H', Strm H' l ls (N + 1) → But l ls H H' → Q (.bl true) H'
abbrev NOr : List Str := ["stream", "table", "rows", "some", "few", "due", "row", "name"]
theorem scOnlyR : FnScope NOr ["stream", "table", "rows", "some"] (defScope sOnlyR) := ⟨rfl, rfl, rfl, by decide +kernel, rfl, by decide +kernel, by decide +kernel⟩
section
variable {P : Program} {w : World} {K : PySem.W.Frag} {mg : Str → Option Value} {base : Heap} {f C fO fP fR fQ : Addr} {fd fdO fdP fdR fdQ : FuncData}
theorem ok_onlyR (F : Fun K "_law_only_right" "_law_only_right" sOnlyR f fd) (T : TabC K C) (GP : FnOk P w K mg base CX0 2 fP fdP ["stream", "some"] (spPick K)) (FP : Fun K "_law_pick" "_law_pick" sPick fP fdP) (gP : mg "_law_pick" = some (.ref fP))
    (GO : FnOk P w K mg base CX0 5 fO fdO ["self", "names"] (spOnlyA K C)) (FO : Fun K "only" "Table.only" sOnly fO fdO) (mO : Meth K C "only" fO) (GR : FnOk P w K mg base CX0 2 fR fdR ["self"] (spRowsM C)) (FR : Fun K "rows" "Table.rows" sRowsM fR fdR) (mR : Meth K C "rows" fR)
    (GQ : FnOk P w K mg base CX0 1 fQ fdQ ["self"] (spQs K C)) (FQ : Fun K "questions" "Table.questions" sQs fQ fdQ) (mQ : Meth K C "questions" fQ) (gT : mg "tuple" = none) (gD : mg "dict" = none) : FnOk P w K mg base CX0 6 f fd ["stream", "table", "rows", "some"] (spOnlyR C) := by
  have bP := FP.binds (ps := ["stream", "some"]) fun _ _ _ _ _ _ us hl => match us, hl with | [_, _], _ => rfl
  have bO := FO.binds (ps := ["self", "names"]) fun _ _ _ _ _ _ us hl => match us, hl with | [_, _], _ => rfl
  have bR := FR.binds (ps := ["self"]) fun _ _ _ _ _ _ us hl => match us, hl with | [_], _ => rfl
  have bQ := FQ.binds (ps := ["self"]) fun _ _ _ _ _ _ us hl => match us, hl with | [_], _ => rfl
  refine F.ok scOnlyR (fun vs H Q E h => by obtain ⟨l, ls, q, r, c, as, ns, known, tbl, N, e, _⟩ := h; rw [e]; rfl) fun cdv A outer s H vs Q E hr hsp => ?_
  obtain ⟨l, ls, q, r, c, as, ns, known, tbl, N, rfl, S0, hN, orr, rl, rls, R0, tab0, W, few, oc, cl, cls, knd, sub, kne, hq⟩ := hsp
  have nd := scOnlyR.nd
  have hu := hu_of hr
  have hu64 := hr.units
  have w1 := W.l1
  have kl : known.length ≤ ns.length := nodup_short knd sub
  refine ⟨_, pss_cons (ps_set (i := 4) nd rfl (Or.inl rfl) (pe_meth (pv 1) T.cl mO GO hr bO .nil pass0 (pa_cons (pe_call GP (hr.mono (by decide)) rfl gP FP.kp bP .nil pass0 (pa_cons (pv 0) (pa_cons (pe_lst (pa_cons (pv 3) (pa_cons (pe_callTy (r := rTupOf K) call_tuple_of rfl gT boot_tuple' (pa_cons (pv 3) pa_nil)) pa_nil))) pa_nil))) pa_nil)))
    (pss_cons (ps_set (i := 5) nd rfl (Or.inl rfl) (pe_lst pa_nil))
    (pss_cons (ps_for PassesOwn.never rfl (pi_list (pv 2)) (pg_name (i := 6) nd rfl (Or.inr rfl))
      (pss_one (ps_expr (pe_bm PySem.F.plainAttrs_list PySem.F.slot_list_append PySem.F.type_list_append mt_append (pv 5) (pa_cons (pe_callTy (call_dictP rfl) rfl gD (by decide +kernel) (pa_cons (pe_lc (own := [("name", 7)]) (tt := tYes) rfl nd (pi_list (pv 3)) (blkOk_by (N := NOr) (sc := defScope sOnlyR) (by decide +kernel)) (fun _ _ _ _ _ => pg_name (i := 7) nd rfl (Or.inl rfl)) (fun _ _ _ _ _ => pts_nil)
        (fun _ _ _ _ _ => pe_tup (pa_cons (pv 7) (pa_cons (pe_dget hu (pv 6) (pv 7) (fun _ _ => rfl)) pa_nil)))) pa_nil)) pa_nil)))))
    (pss_one (ps_ret (pe_and (pe_cmpR (op_eqV hu64) (pe_meth0 (pv 4) T.cl mR GR (hr.mono (by decide)) bR .nil pass0) (pv 5) (nomark _)) (pe_one (pe_cmpR (op_eqD hu64) (pe_meth0 (pv 4) T.cl mQ GQ (hr.mono (by decide)) bQ .nil pass0) (pv 3) (nomark _)))))))), ?_⟩
  obtain ⟨dx, _, _, ha, _, _⟩ := id tab0.ex
  refine ⟨_, rfl, q, dx, _, rfl, ha, rfl, _, rfl, _, rfl, _, rfl, c, _, rfl, .inl ⟨SqL.of oc, fun t nt => ?_⟩⟩
  have kt := same_new (o := .tup (known.map V.str)) nt
  have ot : upd H t (.tup (known.map V.str)) t = some (.tup (known.map V.str)) := upd_same
  generalize upd H t (.tup (known.map V.str)) = H1 at kt ot
  refine ⟨(by rw [sizeLine_eq]; show 2 ≤ _; omega), fun p np => ?_⟩
  have S1 := S0.same kt
  have ap := S1.apart (Same.refl _) np
  have kp := same_new (o := .lst [V.ref c, V.ref t]) np
  have S2 := S1.same kp
  have k2 := kt.trans kp
  have op : upd H1 p (.lst [V.ref c, V.ref t]) p = some (.lst [V.ref c, V.ref t]) := upd_same
  have ot2 := kp _ _ ot
  have tl : t ≠ l ∧ t ≠ ls := S0.apart (Same.refl _) nt
  generalize upd H1 p (.lst [V.ref c, V.ref t]) = H2 at S2 k2 op ot2
  refine ⟨l, ls, p, _, _, rfl, S2, by omega, ap.1, ap.2, op, (by show 0 < 2; decide), (by show 2 < 1000; decide), fun H3 x hx S3 B3 => ?_⟩
  have B03 : But l ls H H3 := (But.of k2).trans B3
  have oc3 := B03 _ _ cl cls oc
  have ot3 := B3 _ _ tl.1 tl.2 ot2
  have tab3 := tab0.but S0 B03 W.ne W.t
  have R3 := R0.but B03
  have D3 : DRows H3 ns as tbl := Paired.mapP R3 fun a vs h => ⟨h.1, h.2.1⟩
  have orr3 := B03 _ _ rl rls orr
  obtain ⟨b, rfl, ob⟩ : ∃ b, x = V.ref b ∧ SqA K H3 b (known.map V.str) := by
    simp only [List.mem_cons, List.not_mem_nil, or_false] at hx
    rcases hx with h | h
    · exact ⟨c, h, .inl oc3⟩
    · exact ⟨t, h, .inr ot3⟩
  obtain ⟨dx3, _, _, ha3, _, _⟩ := id tab3.ex
  refine ⟨q, b, ns, known, tbl, rfl, tab3, W, ob, knd, sub, kne, fun H4 fw nfw Tf k4 => ?_⟩
  refine ⟨Nat.zero_le _, fun e ne => ?_⟩
  have ke := same_new (o := .lst []) ne
  have oe : upd H4 e (.lst []) e = some (.lst ([] : List V)) := upd_same
  have k35 := k4.trans ke
  have Tf5 := Tf.same ke
  have S5 := S3.same k35
  generalize upd H4 e (.lst []) = H5 at ke oe k35 Tf5 S5
  have las : as.length = tbl.length := Paired.length D3
  refine ⟨_, rfl, r, rfl, ⟨_, SqL.of (k35 _ _ orr3)⟩, for_list (xs := as.map V.ref) (fun i σ H' => (∃ cs, H' e = some (.lst ((cs : List Addr).map V.ref)) ∧ DRows H' known cs ((tbl.take i).map (keyR ns known))) ∧ Same H4 H' ∧
      ∃ s6 s7, σ = [some (.ref l), some (.ref q), some (.ref r), some (.ref c), some (.ref fw), some (.ref e), s6, s7])
    ⟨⟨[], oe, .nil⟩, ke, _, _, rfl⟩ (fun i σ H' _ h => SqL.of (h.2.1 _ _ (k4 _ _ orr3))) ?_ ?_⟩
  · rintro i v σ H6 ev ⟨⟨cs, oe6, dc⟩, k6, s6, s7, rfl⟩
    rw [List.getElem?_map] at ev
    obtain ⟨a, ea, rfl⟩ := Option.map_eq_some_iff.mp ev
    obtain ⟨us, eu, oa, lu⟩ := paired_get (D3.same (k4.trans k6)) ea
    have oc6 := k6 _ _ (k4 _ _ oc3)
    have hi : i < tbl.length := (List.getElem?_eq_some_iff.mp eu).1
    refine ⟨_, rfl, .inl ⟨rfl, _, SqL.of oe6⟩, _, rfl, c, rfl, ⟨_, SqL.of oc6⟩, given_lc (K := K) ns known us (by omega) (fun j H' s lt => ⟨_, _, SqL.of (s _ _ oc6), List.getElem?_eq_getElem (by rw [List.length_map]; exact lt)⟩) (fun H' s => ⟨_, SqL.of (s _ _ oc6), by rw [List.length_map]; omega⟩) ?_ ?_⟩
    · rintro j v y H7 H8 Cn Nn ey s7 ⟨rfl, ev⟩ yes
      have ev := ev _ (SqL.of (s7 _ _ oc6))
      rw [List.getElem?_map, ey] at ev
      obtain rfl : V.str y = v := Option.some.inj ev
      refine ⟨rfl, ?_⟩
      refine ⟨_, rfl, _, rfl, _, rfl, a, _, rfl, dk_av W.nd lu (sub y (List.mem_of_getElem? ey)) ▸ DGet.k (k := Sum.inr y) (s7 _ _ oa), (by rw [sizeLine_eq]; show 2 ≤ _; omega), fun t nt => ?_⟩
      exact yes t _ upd_same (same_new nt)
    · intro H7 D1 ps nD1 oD1 pr k7
      refine ⟨D1, ps, _, rfl, SqL.of oD1, pr, fun g ng => ?_⟩
      rw [gvn_merge knd, gvn_dk]
      have kg := same_new (o := .dK (dk known (keyR ns known us))) ng
      have og : upd H7 g (.dK (dk known (keyR ns known us))) g = some (.dK (dk known (keyR ns known us))) := upd_same
      have k68 := k7.trans kg
      generalize upd H7 g (.dK (dk known (keyR ns known us))) = H8 at og k68
      have oe8 := k68 _ _ oe6
      have lc : cs.length = i := by rw [Paired.length dc, List.length_map, List.length_take]; omega
      have gq : g ≠ e := ne_of og oe8 (by intro z; cases z)
      refine ⟨e, cs.map V.ref, .ref g, rfl, rfl, oe8, (by rw [sizeLine_eq, List.length_map]; omega), ⟨cs ++ [g], by rw [upd_same]; simp, ?_⟩, fun b o h => ?_, _, _, rfl⟩
      · have et : tbl.take (i + 1) = tbl.take i ++ [us] := by rw [List.take_succ, eu]; rfl
        rw [et, List.map_append]
        refine paired_snoc ⟨by rw [upd_ne gq]; exact og, by unfold keyR; rw [List.length_map]⟩ (Paired.mapP dc fun c vs h => ⟨?_, h.2⟩)
        rw [upd_ne (ne_of h.1 oe6 (by intro z; cases z))]
        exact k68 _ _ h.1
      · rw [upd_ne (ne_of_none h ne)]
        exact k68 _ _ (k6 _ _ h)
  · rintro σ H6 ⟨⟨cs, oe6, dc⟩, k6, s6, s7, rfl⟩
    have et : tbl.take (as.map V.ref).length = tbl := List.take_of_length_le (by rw [List.length_map]; omega)
    rw [et] at dc
    have Tf6 := Tf.same k6
    obtain ⟨df, _, _, hf, _, _⟩ := id Tf6.ex
    refine ⟨_, rfl, fw, df, _, rfl, hf, rfl, fw, known, _, rfl, Tf6, knd, by omega, by rw [List.length_map]; omega, fun H7 m ms nm om rows _ k7 => ?_⟩
    refine ⟨_, rfl, 2, by decide, rows_eqR knd om (k7 _ _ oe6) rows (dc.same k7), _, rfl, iteT ?_⟩
    have Tf7 := Tf6.same k7
    obtain ⟨df7, _, _, hf7, _, _⟩ := id Tf7.ex
    refine ⟨_, rfl, fw, df7, _, rfl, hf7, rfl, fw, known, _, rfl, Tf7, fun H8 m2 nm2 om2 k8 => ?_⟩
    have tok : ∀ x ∈ known, PyData.strOk x = true := fun x hx => nm_strOk (W.ok x (sub x hx))
    have k38 := ((k4.trans k6).trans k7).trans k8
    refine ⟨_, rfl, _, _, dp_list om2, dp_list (k38 _ _ oc3), strs_shaped _ tok, strs_shaped _ tok, ?_⟩
    rw [strs_eqv, decide_eq_true rfl]
    refine hq _ ((S3.same k38).mono (by omega)) (B03.trans (But.of k38))
end
end L2.TB
namespace L2.TB
open PySem PySem.Spec PyProof.Rows
/-! tables that differ in one thing: what it stands on -/
theorem atI_last {α : Type} {xs : List α} {v : α} (h : xs[xs.length - 1]? = some v) : atI xs (-1) = some v := by
  have lt := (List.getElem?_eq_some_iff.mp h).1
  unfold atI ixN
  rw [if_neg (by decide), if_pos (by omega)]
  have e : ((-1 : Int) + (xs.length : Nat)).toNat = xs.length - 1 := by omega
  rw [e]
  exact h
theorem cut_init (xs : List V) : cutV xs none (some (-1)) = xs.take (xs.length - 1) := by
  have e1 : HT.sIx xs.length 0 none = 0 := rfl
  have e2 : HT.sIx xs.length xs.length (some (-1)) = xs.length - 1 := by
    unfold HT.sIx
    simp only []
    rw [if_pos (by decide)]
    omega
  unfold cutV
  rw [e1, e2]
  simp
theorem dk_fun {h : Str → Str} {f : Str → Int} : ∀ ns : List Str, dk (ns.map h) (ns.map f) = ns.map fun x => ((Sum.inr (h x) : Key), V.int (f x))
  | [] => rfl
  | x :: l => by
    have ih := dk_fun (h := h) (f := f) l
    unfold dk at ih ⊢
    rw [List.map_cons, List.map_cons, List.zip_cons_cons, List.map_cons, ih]
    rfl
theorem dk_fun1 {f : Str → Int} (ns : List Str) : dk ns (ns.map f) = ns.map fun x => ((Sum.inr x : Key), V.int (f x)) := by
  have z := dk_fun (h := id) (f := f) ns
  rw [List.map_id] at z
  exact z
/-- pairs made one after the other -/
theorem pairs_lc {J : It} {g : TG} {tt : TT} {te : TE} {vs : List Nat} {σ : St} {H1 : Hp} {Q : Addr → Hp → Prop} (kvs : List (Key × V)) (short : kvs.length < 1000) (go : ∀ i H, Same H1 H → i < kvs.length → J.go i H) (stop : ∀ H, Same H1 H → J.stop kvs.length H)
    (turn : ∀ (i : Nat) (v : V) (k : Key) (x : V) (H H' : Hp) (C : V → Hp → Prop) (N : Hp → Prop), kvs[i]? = some (k, x) → Same H1 H → J.yld i H v H' → (∀ t H4, H4 t = some (.tup [kV k, x]) → Same H H4 → C (.ref t) H4) → g v (wipe σ vs) H' fun σ2 H2 => wipe σ2 vs = wipe σ vs ∧ tt σ2 H2 fun b H3 => if b = true then te σ2 H3 C else N H3)
    (fin : ∀ H D ps, H1 D = none → H D = some (.lst ((ps : List Addr).map V.ref)) → Paired (fun p (kv : Key × V) => H p = some (.tup [kV kv.1, kv.2])) ps kvs → Same H1 H → Q D H) : LcW J g tt te vs σ H1 Q := by
  refine lc_made kvs.length (by omega) go stop (fun i y H' => ∃ t k x, y = V.ref t ∧ kvs[i]? = some (k, x) ∧ H' t = some (.tup [kV k, x])) ?_ ?_ ?_
  · rintro i y H2 H3 D l ⟨t, k, x, rfl, ex, ot⟩ oD keep
    exact ⟨t, k, x, rfl, ex, keep _ _ (ne_of ot oD (by intro z; cases z)) ot⟩
  · intro i v H2 H3 C N lt s2 yl yes
    exact turn i v kvs[i].1 kvs[i].2 H2 H3 C N (List.getElem?_eq_getElem lt) s2 yl fun t H4 ot s4 => yes _ _ ⟨t, _, _, rfl, List.getElem?_eq_getElem lt, ot⟩ s4
  · intro H2 D ys nD oD ly ry s2
    obtain ⟨ps, rfl, pa⟩ := addrs_of (H := H2) (P := fun i t => ∃ k x, kvs[i]? = some (k, x) ∧ H2 t = some (.tup [kV k, x])) ys 0 fun j y e => by
      obtain ⟨t, k, x, e1, e2, e3⟩ := ry j y e
      exact ⟨t, e1, k, x, by simpa using e2, e3⟩
    refine fin H2 D ps nD oD (paired_of ps _ (by rw [← ly, List.length_map]) fun i t kv et ekv => ?_) s2
    obtain ⟨k, x, e2, e3⟩ := pa i t et
    rw [Nat.zero_add, ekv] at e2
    cases e2
    exact e3
/-- rows made anew out of rows -/
theorem lc_rows {K : PySem.W.Frag} {r : Addr} {as : List Addr} {ns ns' : List Str} {tbl : List (List Int)} {h : List Int → List Int} {g : TG} {tt : TT} {te : TE} {vs : List Nat} {σ : St} {H1 : Hp} {Q : Addr → Hp → Prop} (orr : H1 r = some (.lst (as.map V.ref))) (D : DRows H1 ns as tbl) (short : tbl.length < 1000)
    (len : ∀ u, u.length = ns.length → (h u).length = ns'.length)
    (turn : ∀ (a : Addr) (u : List Int) (H : Hp) (C : V → Hp → Prop) (N : Hp → Prop), H a = some (.dK (dk ns u)) → u.length = ns.length → Same H1 H → (∀ t H4, H4 t = some (.dK (dk ns' (h u))) → Same H H4 → C (.ref t) H4) → g (.ref a) (wipe σ vs) H fun σ2 H2 => wipe σ2 vs = wipe σ vs ∧ tt σ2 H2 fun b H3 => if b = true then te σ2 H3 C else N H3)
    (fin : ∀ H D bs, H1 D = none → H D = some (.lst ((bs : List Addr).map V.ref)) → DRows H ns' bs (tbl.map h) → Same H1 H → Q D H) : LcW (Itl K r) g tt te vs σ H1 Q := by
  have las : as.length = tbl.length := Paired.length D
  refine lc_made tbl.length (by omega) (fun i H' k lt => ⟨_, _, SqL.of (k _ _ orr), List.getElem?_eq_getElem (by rw [List.length_map]; omega)⟩) (fun H' k => ⟨_, SqL.of (k _ _ orr), by rw [List.length_map]; omega⟩)
    (fun i y H' => ∃ t u, y = V.ref t ∧ tbl[i]? = some u ∧ H' t = some (.dK (dk ns' (h u))) ∧ u.length = ns.length) ?_ ?_ ?_
  · rintro i y H3 H4 D l ⟨t, us, rfl, eu, ot, lu⟩ oD keep
    exact ⟨t, us, rfl, eu, keep _ _ (ne_of ot oD (by intro z; cases z)) ot, lu⟩
  · rintro i x H3 H4 Cn Nn lt s3 ⟨rfl, ex⟩ yes
    have ex := ex _ (SqL.of (s3 _ _ orr))
    rw [List.getElem?_map] at ex
    obtain ⟨p, ep, rfl⟩ := Option.map_eq_some_iff.mp ex
    obtain ⟨us, eu, op, lu⟩ := paired_get (D.same s3) ep
    exact turn p us H4 Cn Nn op lu s3 fun t H5 ot s5 => yes _ _ ⟨t, us, rfl, eu, ot, lu⟩ s5
  · intro H3 D ys nD oD ly ry s3
    obtain ⟨bs, rfl, pa⟩ := addrs_of (H := H3) (P := fun i t => ∃ us, tbl[i]? = some us ∧ H3 t = some (.dK (dk ns' (h us))) ∧ us.length = ns.length) ys 0 fun j y e => by
      obtain ⟨t, us, e1, e2, e3, e4⟩ := ry j y e
      exact ⟨t, e1, us, by simpa using e2, e3, e4⟩
    refine fin H3 D bs nD oD (paired_of bs _ (by rw [List.length_map, ← ly, List.length_map]) fun i t us et eu => ?_) s3
    rw [List.getElem?_map] at eu
    obtain ⟨u, eu2, rfl⟩ := Option.map_eq_some_iff.mp eu
    obtain ⟨u', e2, e3, e4⟩ := pa i t et
    rw [Nat.zero_add, eu2] at e2
    cases e2
    exact ⟨e3, len u e4⟩
/-- rows of another table -/
def Oth (H : Hp) (ns : List Str) (tbl : List (List Int)) (p : Addr) : Prop := ∃ (as' : List Addr) (ns' : List Str) (tbl' : List (List Int)), H p = some (.lst (as'.map V.ref)) ∧ DRows H ns' as' tbl' ∧ ns'.Nodup ∧ ns' ≠ [] ∧ (∀ x ∈ ns', NmOk x) ∧ ns'.length < 1000 ∧ tbl' ≠ [] ∧ tbl'.length < 1000 ∧ (ns' ≠ ns ∨ tbl' ≠ tbl)
theorem Oth.same {H H' : Hp} {ns : List Str} {tbl : List (List Int)} {p : Addr} (h : Oth H ns tbl p) (s : Same H H') : Oth H' ns tbl p := by
  obtain ⟨as', ns', tbl', o, d, r⟩ := h
  exact ⟨as', ns', tbl', s _ _ o, d.same s, r⟩
theorem Oth.upd {H : Hp} {ns : List Str} {tbl : List (List Int)} {p q : Addr} {xs ys : List V} (h : Oth H ns tbl p) (oq : H q = some (.lst xs)) (ne : p ≠ q) : Oth (upd H q (.lst ys)) ns tbl p := by
  obtain ⟨as', ns', tbl', o, d, r⟩ := h
  refine ⟨as', ns', tbl', by rw [upd_ne ne]; exact o, Paired.mapP d fun a u h => ⟨?_, h.2⟩, r⟩
  rw [upd_ne (ne_of h.1 oq (by intro z; cases z))]
  exact h.1
/-- the list of the others, so far -/
def Fnd (H : Hp) (ns : List Str) (tbl : List (List Int)) (q : Addr) (ps : List Addr) : Prop := H q = some (.lst (ps.map V.ref)) ∧ ∀ p ∈ ps, p ≠ q ∧ Oth H ns tbl p
theorem Fnd.same {H H' : Hp} {ns : List Str} {tbl : List (List Int)} {q : Addr} {ps : List Addr} (h : Fnd H ns tbl q ps) (s : Same H H') : Fnd H' ns tbl q ps := ⟨s _ _ h.1, fun p hp => ⟨(h.2 p hp).1, (h.2 p hp).2.same s⟩⟩
theorem Fnd.push {H : Hp} {ns : List Str} {tbl : List (List Int)} {q p : Addr} {ps : List Addr} (h : Fnd H ns tbl q ps) (o : Oth H ns tbl p) (ne : p ≠ q) : Fnd (upd H q (.lst (ps.map V.ref ++ [V.ref p]))) ns tbl q (ps ++ [p]) := by
  refine ⟨by rw [upd_same]; simp, fun x hx => ?_⟩
  rcases List.mem_append.mp hx with h' | h'
  · exact ⟨(h.2 x h').1, (h.2 x h').2.upd h.1 (h.2 x h').1⟩
  · rw [List.mem_singleton.mp h']
    exact ⟨ne, o.upd h.1 ne⟩
/-- z before a name -/
def zn (x : Str) : Str := Str.ofString "z" ++ x
theorem zn_cps (x : Str) : (zn x).cps.toList = 122 :: x.cps.toList := by
  have e : (Str.ofString "z").cps = #[122] := by decide +kernel
  show ((Str.ofString "z").cps ++ x.cps).toList = _
  rw [e]
  simp
theorem zn_inj {x y : Str} (h : zn x = zn y) : x = y := by
  have z := congrArg (fun s => s.cps.toList) h
  simp only [zn_cps] at z
  have z' := List.cons.inj z
  have e : x.cps = y.cps := Array.toList_inj.mp z'.2
  cases x; cases y; simp at e; rw [e]
theorem zn_nd {ns : List Str} (nd : ns.Nodup) : (ns.map zn).Nodup := List.Pairwise.map zn (fun a b h e => h (zn_inj e)) nd
theorem zn_ok {x : Str} (h : NmS x) : NmOk (zn x) := by
  obtain ⟨⟨h1, h2, h3⟩, h4⟩ := h
  unfold NmOk
  rw [zn_cps]
  refine ⟨by simp, by rw [List.length_cons]; omega, fun c hc => ?_⟩
  rcases List.mem_cons.mp hc with rfl | h
  · decide +kernel
  · exact h3 c h
theorem zn_ne {ns : List Str} (ne : ns ≠ []) : ns.map zn ≠ ns := by
  obtain ⟨x, l, rfl⟩ := List.exists_cons_of_ne_nil ne
  intro h
  have e := (List.cons.inj h).1
  have z := congrArg (fun s => s.cps.toList.length) e
  simp only [zn_cps, List.length_cons] at z
  omega
def mr : Str := Str.ofString "more"
theorem mr_ok : NmOk mr := by unfold NmOk; decide +kernel
theorem mr_new {ns : List Str} (ok : ∀ x ∈ ns, NmS x) : mr ∉ ns := fun h => by
  have z := (ok mr h).2
  have e : mr.cps.toList.length = 4 := by decide +kernel
  omega
theorem rev_ne {ns : List Str} (nd : ns.Nodup) (l : 1 < ns.length) : ns.reverse ≠ ns := by
  intro h
  obtain ⟨a, b, rest, rfl⟩ : ∃ a b rest, ns = a :: b :: rest := by
    match ns, l with
    | a :: b :: rest, _ => exact ⟨a, b, rest, rfl⟩
  have e1 : (a :: b :: rest).reverse.head? = some a := by rw [h]; rfl
  rw [List.head?_reverse] at e1
  have m : a ∈ b :: rest := by
    have e2 : (a :: b :: rest).getLast? = (b :: rest).getLast? := by rw [List.getLast?_cons_cons]
    rw [e2] at e1
    exact List.mem_of_getLast? e1
  exact (List.nodup_cons.mp nd).1 m
end L2.TB
namespace L2.TB
open PySem PySem.Spec PyProof.Rows
/-! tables that differ in one thing -/
abbrev rDictP (K : PySem.W.Frag) : List V → Hp → VK → Prop := fun xs H Q => ∃ (a : Addr) (ps : List Addr) (kvs : List (Key × V)), xs = [.ref a] ∧ SqL K H a (ps.map V.ref) ∧ Paired (fun p kv => SqT K H p [kV kv.1, kv.2]) ps kvs ∧ ∀ p, H p = none → Q (.ref p) (upd H p (.dK (mergeK [] kvs)))
abbrev rAddS : R2 := fun x y H Q => ∃ i j, x = .str i ∧ y = .str j ∧ i.length + j.length ≤ sizeLine ∧ Q (.str (i ++ j)) H
abbrev NAl : List Str := ["stream", "rows", "found", "names", "name", "row", "one"]
theorem scAlike : FnScope NAl ["stream", "rows"] (defScope sAlike) := ⟨rfl, rfl, rfl, by decide +kernel, rfl, by decide +kernel, by decide +kernel⟩
abbrev scA4 : Scope := { kind := ScopeKind.function, names := [(Str.ofString ".0", NameKind.local), (Str.ofString "row", NameKind.cell), (Str.ofString "dict", NameKind.globalImplicit), (Str.ofString "names", NameKind.cell)], isGenerator := false, isCoroutine := false }
abbrev scA6 : Scope := { kind := ScopeKind.function, names := [(Str.ofString ".0", NameKind.local), (Str.ofString "row", NameKind.cell), (Str.ofString "dict", NameKind.globalImplicit)], isGenerator := false, isCoroutine := false }
def spAlike : Sp := fun vs H Q _ => ∃ (l r : Addr) (as : List Addr) (ns : List Str) (tbl : List (List Int)), vs = [.ref l, .ref r] ∧ H r = some (.lst (as.map V.ref)) ∧ DRows H ns as tbl ∧ ns.Nodup ∧ ns ≠ [] ∧ (∀ x ∈ ns, NmS x) ∧ ns.length ≤ 10 ∧ tbl ≠ [] ∧ tbl.length ≤ 20 ∧
  ∀ H' q ps, H q = none → H' q = some (.lst ((ps : List Addr).map V.ref)) → (∀ p ∈ ps, Oth H' ns tbl p) → ps.length ≤ 10 → Same H H' → Q (.ref q) H'
abbrev bodyA : List Stmt := defBody sAlike
abbrev tNeg1 : TE := tUn (rU fun i => .int (-i)) (tC (.int 1))
abbrev teA3 (K : PySem.W.Frag) : TE := tTup (tCons (tVar 4) (tCons (tOp (rI0 fun i j => .int (i + j)) (tDGet (tOp (rIxL K) (tVar 1) tNeg1) (tVar 4)) (tC (.int 5))) tNil))
abbrev teA4 (K : PySem.W.Frag) : TE := tCB (rDictP K) (tCons (tLc (iList K (tRevL K (tVar 3))) (gName 4) tYes (tTup (tCons (tVar 4) (tCons (tDGet (tVar 5) (tVar 4)) tNil))) [4]) tNil)
abbrev teA5 (K : PySem.W.Frag) : TE := tCB (rDictP K) (tCons (tOp rCat (LiI.tListItems (tVar 5)) (tLst (tCons (tTup (tCons (tC (.str (Str.ofString "more"))) (tCons (tC (.int 1)) tNil))) tNil))) tNil)
abbrev teA6 (K : PySem.W.Frag) : TE := tCB (rDictP K) (tCons (tLockE (tLc (iKeys (tVar 5)) (gName 6) tYes (tTup (tCons (tOp rAddS (tC (.str (Str.ofString "z"))) (tVar 6)) (tCons (tDGet (tVar 5) (tVar 6)) tNil))) [6])) tNil)
section
variable {P : Program} {w : World} {K : PySem.W.Frag} {mg : Str → Option Value} {base : Heap} {f : Addr} {fd : FuncData}
theorem paired_rev {α β : Type} {F : α → β → Prop} : ∀ {xs : List α} {ys : List β}, Paired F xs ys → Paired F xs.reverse ys.reverse
  | _, _, .nil => .nil
  | _, _, .cons h t => by
    rw [List.reverse_cons, List.reverse_cons]
    exact paired_snoc h (paired_rev t)
theorem dk_zn {ns : List Str} {us : List Int} (nd : ns.Nodup) (l : us.length = ns.length) : dk (ns.map zn) us = ns.map fun x => ((Sum.inr (zn x) : Key), V.int (av ns us x)) := by
  have z := dk_fun (h := zn) (f := av ns us) ns
  rw [av_all nd l] at z
  exact z
/-- the later ones -/
theorem alike_b (gD : mg "dict" = none) (gL : mg "list" = none) (gI : mg "int" = none) {cdv : Value} {A : Around} {outer : List Env} {s : Shared} {H : Hp} {E : XK} (hr : Room 0 (A.deeper (envOfC "_law_alike_ones" (defScope sAlike) s.heap.objs.size f cdv))) :
    ∃ t, PSs (cxOf CX0 P w K mg base NAl "_law_alike_ones" (defScope sAlike) f cdv A outer s H E).nox (bodyA.drop 4) t ∧ ∀ (Dn : Ends) (H0 H1 : Hp) (l r q : Addr) (as : List Addr) (ns : List Str) (tbl : List (List Int)) (ps : List Addr) (s3 s4 s5 s6 : Option V),
      H0 r = some (.lst (as.map V.ref)) → DRows H0 ns as tbl → ns.Nodup → ns ≠ [] → (∀ x ∈ ns, NmS x) → ns.length ≤ 10 → tbl ≠ [] → tbl.length ≤ 20 → H0 q = none → Fnd H1 ns tbl q ps → ps.length ≤ 4 → Same H0 H1 →
      (∀ H' q' ps', H0 q' = none → H' q' = some (.lst ((ps' : List Addr).map V.ref)) → (∀ p ∈ ps', Oth H' ns tbl p) → ps'.length ≤ 10 → Same H0 H' → Dn.rt (.ref q') H') → t Dn [some (.ref l), some (.ref r), some (.ref q), s3, s4, s5, s6] H1 := by
  have nd := scAlike.nd
  have hu := hu_of hr
  have hu64 := hr.units
  refine ⟨_, pss_cons (ps_expr (pe_bm PySem.F.plainAttrs_list PySem.F.slot_list_append PySem.F.type_list_append mt_append (pv 2) (pa_cons (pe_lc (own := [("row", 5)]) (tt := tYes) (g := gName 5) (te := teA5 K) rfl nd (pi_list (pv 1)) (blkOk_by (N := NAl) (sc := defScope sAlike) (by decide +kernel))
        (fun _ _ _ _ _ => pg_name (i := 5) nd rfl (Or.inl rfl)) (fun _ _ _ _ _ => pts_nil) (fun _ _ _ _ _ => pe_callTy (r := rDictP K) (call_dictP rfl) rfl gD (by decide +kernel) (pa_cons (pe_op op_cat (LiI.pe_listItems rfl (pv 5) rfl gL boot_list') (pe_lst (pa_cons (pe_tup (pa_cons pe_str (pa_cons pe_int pa_nil))) pa_nil))) pa_nil))) pa_nil)))
    (pss_cons (ps_expr (pe_bm PySem.F.plainAttrs_list PySem.F.slot_list_append PySem.F.type_list_append mt_append (pv 2) (pa_cons (pe_lc (own := [("row", 5)]) (tt := tYes) (g := gName 5) (te := teA6 K) rfl nd (pi_list (pv 1)) (blkOk_by (N := NAl) (sc := defScope sAlike) (by decide +kernel))
        (fun _ _ _ _ _ => pg_name (i := 5) nd rfl (Or.inr rfl)) (fun _ _ _ _ _ => pts_nil) (fun _ _ _ _ _ => pe_callTy (r := rDictP K) (call_dictP rfl) rfl gD (by decide +kernel) (pa_cons (pe_lock (pe_lc (own := [("one", 6)]) (tt := tYes) (g := gName 6) (te := tTup (tCons (tOp rAddS (tC (.str (Str.ofString "z"))) (tVar 6)) (tCons (tDGet (tVar 5) (tVar 6)) tNil))) rfl nd (pi_keys (pv 5)) (blkOk_by (N := NAl) (sc := scA6) (by decide +kernel))
          (fun _ _ _ _ _ => pg_name (i := 6) nd rfl (Or.inl rfl)) (fun _ _ _ _ _ => pts_nil) (fun _ _ _ _ _ => pe_tup (pa_cons (pe_op op_add_str pe_str (pv 6)) (pa_cons (pe_dget hu (pv 5) (pv 6) (fun _ _ => rfl)) pa_nil))))) pa_nil))) pa_nil)))
    (pss_one (ps_ret (pe_op op_cat (pv 2) (pe_op op_rep (pe_lst (pa_cons (pe_revL (pv 1)) pa_nil)) (pe_callTy call_int1 rfl gI (by decide +kernel) (pa_cons (pe_cmpR (op_neLI hu64) (pe_revL (pv 1)) (pv 1) (nomark _)) pa_nil))))))), ?_⟩
  intro Dn H0 H1 l r q as ns tbl ps s3 s4 s5 s6 orr D0 nnd nne nms nsh tne tsh nqH F1 pl k1 fin
  have nok : ∀ x ∈ ns, NmOk x := fun x hx => (nms x hx).1
  have las : as.length = tbl.length := Paired.length D0
  have orr1 := k1 _ _ orr
  -- one question more
  have nd5 : (ns ++ [mr]).Nodup := by
    rw [List.nodup_append]
    refine ⟨nnd, by simp, fun a ha b hb => ?_⟩
    rw [List.mem_singleton.mp hb]
    exact fun z => mr_new nms (z ▸ ha)
  refine ⟨_, rfl, .inl ⟨rfl, _, SqL.of F1.1⟩, _, rfl, r, rfl, ⟨_, SqL.of orr1⟩, lc_rows (ns' := ns ++ [mr]) (h := fun u => u ++ [1]) orr1 (D0.same k1) (by omega) (fun u e => by rw [List.length_append, List.length_append, e]; rfl) ?_ ?_⟩
  · rintro a u H2 Cn Nn oa lu s2 yes
    refine ⟨rfl, ?_⟩
    refine ⟨_, rfl, a, _, rfl, oa, fun H3 p ts k3 np nts pnt op prs => ?_⟩
    refine ⟨(by rw [sizeLine_eq]; show 2 ≤ _; omega), fun t nt => ?_⟩
    have kt := same_new (o := .tup [V.str (Str.ofString "more"), V.int 1]) nt
    have ot : upd H3 t (.tup [V.str (Str.ofString "more"), V.int 1]) t = some (.tup [kV (Sum.inr mr), V.int 1]) := upd_same
    have op4 := kt _ _ op
    have prs4 : Paired (fun (b : Addr) (q : Key × V) => upd H3 t (.tup [V.str (Str.ofString "more"), V.int 1]) b = some (.tup [kV q.1, q.2])) ts (dk ns u) := Paired.mapP prs fun x y h => kt _ _ h
    generalize upd H3 t (.tup [V.str (Str.ofString "more"), V.int 1]) = H4 at kt ot op4 prs4
    refine ⟨(by rw [sizeLine_eq]; show 1 ≤ _; omega), fun m nm => ?_⟩
    have km := same_new (o := .lst [V.ref t]) nm
    have om : upd H4 m (.lst [V.ref t]) m = some (.lst ([t].map V.ref)) := upd_same
    have op5 := km _ _ op4
    have ot5 := km _ _ ot
    have prs5 := Paired.mapP prs4 fun x y h => km _ _ h
    generalize upd H4 m (.lst [V.ref t]) = H5 at km om op5 ot5 prs5
    have lts : ts.length = ns.length := by rw [Paired.length prs, dk_len lu]
    refine ⟨p, m, _, _, rfl, rfl, op5, om, (by rw [sizeLine_eq, List.length_map]; show _ + 1 ≤ _; omega), fun p2 np2 => ?_⟩
    rw [← List.map_append]
    have kp2 := same_new (o := .lst ((ts ++ [t]).map V.ref)) np2
    have prs6 : Paired (fun (b : Addr) (kv : Key × V) => SqT K (upd H5 p2 (.lst ((ts ++ [t]).map V.ref))) b [kV kv.1, kv.2]) (ts ++ [t]) (dk ns u ++ [((Sum.inr mr : Key), V.int 1)]) :=
      paired_snoc (F := fun (b : Addr) (kv : Key × V) => SqT K (upd H5 p2 (.lst ((ts ++ [t]).map V.ref))) b [kV kv.1, kv.2]) (SqT.of (kp2 _ _ ot5)) (Paired.mapP prs5 fun x y h => SqT.of (kp2 _ _ h))
    refine ⟨p2, ts ++ [t], dk ns u ++ [(Sum.inr mr, V.int 1)], rfl, SqL.of upd_same, prs6, fun g ng => ?_⟩
    have e5 : dk ns u ++ [((Sum.inr mr : Key), V.int 1)] = dk (ns ++ [mr]) (u ++ [1]) := (dk_snoc lu.symm).symm
    rw [e5, merge_nd (dk_nd (by rw [List.length_append, List.length_append, lu]; rfl) nd5)]
    have s25 : Same H2 H5 := ((show Same H2 H3 from k3).trans kt).trans km
    exact yes g _ upd_same ((s25.trans kp2).trans (same_new ng))
  intro H2 D2 bs2 nD2 oD2 rows2 s2
  have F2 := F1.same s2
  have D2q : D2 ≠ q := fun z => by rw [z, F1.1] at nD2; cases nD2
  have O2 : Oth H2 ns tbl D2 := ⟨bs2, ns ++ [mr], _, oD2, rows2, nd5, by simp, fun x hx => by
    rcases List.mem_append.mp hx with h | h
    · exact nok x h
    · rw [List.mem_singleton.mp h]; exact mr_ok, by rw [List.length_append]; show _ + 1 < _; omega, by simpa using tne, by rw [List.length_map]; omega, .inl fun e => by
    have z := congrArg List.length e
    rw [List.length_append] at z
    have z : ns.length + 1 = ns.length := z
    omega⟩
  refine ⟨q, _, .ref D2, rfl, rfl, F2.1, (by rw [sizeLine_eq, List.length_map]; omega), ?_⟩
  have F3 := F2.push O2 D2q
  have k3 : Same H0 (upd H2 q (.lst (ps.map V.ref ++ [V.ref D2]))) := fun b o e => by rw [upd_ne (ne_of_none e nqH)]; exact s2 _ _ (k1 _ _ e)
  generalize upd H2 q (.lst (ps.map V.ref ++ [V.ref D2])) = H3 at F3 k3
  have pl3 : (ps ++ [D2]).length ≤ 5 := by rw [List.length_append]; show _ + 1 ≤ _; omega
  generalize ps ++ [D2] = ps3 at F3 pl3
  -- the names changed
  have orr3 := k3 _ _ orr
  have lz : (ns.map zn).length = ns.length := List.length_map _
  refine ⟨_, rfl, .inl ⟨rfl, _, SqL.of F3.1⟩, _, rfl, r, rfl, ⟨_, SqL.of orr3⟩, lc_rows (ns' := ns.map zn) (h := id) orr3 (D0.same k3) (by omega) (fun u e => by rw [lz]; exact e) ?_ ?_⟩
  · rintro a u H4 Cn Nn oa lu s4' yes
    refine ⟨rfl, ?_⟩
    have luz : u.length = (ns.map zn).length := by rw [lz]; exact lu
    refine ⟨a, _, oa, trivial, fun od => ⟨_, rfl, a, od, rfl, .inl ⟨_, upd_same, pairs_lc (dk (ns.map zn) u) (by rw [dk_len luz, lz]; omega) (fun j H' s lt => ⟨s _ _ upd_same, by rw [dk_len lu]; rw [dk_len luz, lz] at lt; exact lt⟩) (fun H' s => ⟨s _ _ upd_same, by rw [dk_len lu, dk_len luz, lz]; exact Nat.le_refl _⟩) ?_ ?_⟩⟩⟩
    · rintro i v k x H7 H8 Cm Nm ekv s7 ⟨rfl, k2', w2, ek, rfl⟩ yes2
      rw [dk_zn nnd lu, List.getElem?_map] at ekv
      obtain ⟨z, ez, e⟩ := Option.map_eq_some_iff.mp ekv
      cases e
      rw [dk_self nnd lu] at ek
      unfold gvn at ek
      rw [List.getElem?_map, ez] at ek
      cases ek
      have zin := List.mem_of_getElem? ez
      have hv := dk_av nnd lu zin
      have h3 := (nms z zin).2
      have h1 : (Str.ofString "z").cps.size = 1 := by decide +kernel
      rw [Array.length_toList] at h3
      refine ⟨rfl, ?_⟩
      refine ⟨_, rfl, _, _, rfl, rfl, (by rw [sizeLine_eq]; show (Str.ofString "z").cps.size + z.cps.size ≤ _; omega), _, rfl, _, rfl, a, _, rfl, .inl ⟨_, Sum.inr z, .inr ⟨_, s7 _ _ upd_same⟩, rfl, hv.symm⟩, (by rw [sizeLine_eq]; show 2 ≤ _; omega), fun t nt => ?_⟩
      exact yes2 t _ upd_same (same_new nt)
    intro H7 Dl ps7 nDl oDl pr7 s7
    obtain ⟨b7, s47⟩ := lock_off oa s7
    have Dla : Dl ≠ a := fun z => by rw [z, upd_same] at nDl; cases nDl
    refine ⟨b7, Dl, ps7, _, rfl, SqL.of (by rw [upd_ne Dla]; exact oDl), Paired.mapP pr7 fun p kv h => SqT.of (by rw [upd_ne (ne_of h b7 (by intro z; cases z))]; exact h), fun g ng => ?_⟩
    rw [merge_nd (dk_nd luz.symm (zn_nd nnd))]
    exact yes g _ upd_same (s47.trans (same_new ng))
  intro H4 D4 bs4 nD4 oD4 rows4 s4'
  have F4 := F3.same s4'
  have D4q : D4 ≠ q := fun z => by rw [z, F3.1] at nD4; cases nD4
  have O4 : Oth H4 ns tbl D4 := ⟨bs4, ns.map zn, _, oD4, rows4, zn_nd nnd, by simpa using nne, fun x hx => by
    obtain ⟨y, hy, rfl⟩ := List.mem_map.mp hx
    exact zn_ok (nms y hy), by rw [lz]; omega, by simpa using tne, by rw [List.length_map]; omega, .inl (zn_ne nne)⟩
  refine ⟨q, _, .ref D4, rfl, rfl, F4.1, (by rw [sizeLine_eq, List.length_map]; omega), ?_⟩
  have F5 := F4.push O4 D4q
  have k5 : Same H0 (upd H4 q (.lst (ps3.map V.ref ++ [V.ref D4]))) := fun b o e => by rw [upd_ne (ne_of_none e nqH)]; exact s4' _ _ (k3 _ _ e)
  generalize upd H4 q (.lst (ps3.map V.ref ++ [V.ref D4])) = H5 at F5 k5
  have pl5 : (ps3 ++ [D4]).length ≤ 6 := by rw [List.length_append]; show _ + 1 ≤ _; omega
  generalize ps3 ++ [D4] = ps5 at F5 pl5
  -- the rows turned
  refine ⟨_, rfl, _, rfl, r, _, rfl, SqL.of (k5 _ _ orr), fun p np => ?_⟩
  rw [← List.map_reverse]
  have kp := same_new (o := .lst (as.reverse.map V.ref)) np
  have op : upd H5 p (.lst (as.reverse.map V.ref)) p = some (.lst (as.reverse.map V.ref)) := upd_same
  have F6 := F5.same kp
  have k6 := k5.trans kp
  generalize upd H5 p (.lst (as.reverse.map V.ref)) = H6 at op F6 k6
  refine ⟨(by rw [sizeLine_eq]; show 1 ≤ _; omega), fun t nt => ?_⟩
  have kt := same_new (o := .lst [V.ref p]) nt
  have ot : upd H6 t (.lst [V.ref p]) t = some (.lst [V.ref p]) := upd_same
  have op7 := kt _ _ op
  have F7 := F6.same kt
  have k7 := k6.trans kt
  generalize upd H6 t (.lst [V.ref p]) = H7 at ot op7 F7 k7
  refine ⟨_, rfl, r, _, rfl, SqL.of (k7 _ _ orr), fun m nm => ?_⟩
  rw [← List.map_reverse]
  have km := same_new (o := .lst (as.reverse.map V.ref)) nm
  have om : upd H7 m (.lst (as.reverse.map V.ref)) m = some (.lst (as.reverse.map V.ref)) := upd_same
  have ot8 := km _ _ ot
  have op8 := km _ _ op7
  have F8 := F7.same km
  have k8 := k7.trans km
  generalize upd H7 m (.lst (as.reverse.map V.ref)) = H8 at om ot8 op8 F8 k8
  have D8 := D0.same k8
  have R8 : DRows H8 ns as.reverse tbl.reverse := paired_rev D8
  refine ⟨_, rfl, m, r, as.reverse, as, ns, tbl.reverse, tbl, rfl, rfl, om, k8 _ _ orr, by rw [List.length_reverse], nnd, R8, D8, .inr ⟨_, rfl, ?_⟩⟩
  by_cases e : tbl.reverse = tbl
  · rw [decide_eq_false (by simpa using e)]
    refine ⟨t, 0, _, rfl, rfl, ot8, by decide, by decide, (by rw [sizeLine_eq]; show 0 ≤ _; omega), fun y ny => ?_⟩
    have ky := same_new (o := .lst []) ny
    have oy : upd H8 y (.lst []) y = some (.lst []) := upd_same
    have F9 := F8.same ky
    have k9 := k8.trans ky
    refine ⟨q, y, _, _, rfl, rfl, F9.1, oy, (by rw [sizeLine_eq, List.length_map]; show _ + 0 ≤ _; omega), fun z nz => ?_⟩
    rw [List.append_nil]
    have kz := same_new (o := .lst (ps5.map V.ref)) nz
    exact fin _ z ps5 (k9.free nz) upd_same (fun x hx => ((F9.2 x hx).2).same kz) (by omega) (k9.trans kz)
  · rw [decide_eq_true (by simpa using e)]
    refine ⟨t, 1, _, rfl, rfl, ot8, by decide, by decide, (by rw [sizeLine_eq]; show 1 ≤ _; omega), fun y ny => ?_⟩
    have ky := same_new (o := .lst [V.ref p]) ny
    have oy : upd H8 y (.lst [V.ref p]) y = some (.lst ([p].map V.ref)) := upd_same
    have F9 := F8.same ky
    have k9 := k8.trans ky
    have op9 := ky _ _ op8
    have O9 : Oth (upd H8 y (.lst [V.ref p])) ns tbl p := ⟨as.reverse, ns, tbl.reverse, op9, R8.same ky, nnd, nne, nok, by omega, by simpa using tne, by rw [List.length_reverse]; omega, .inr e⟩
    refine ⟨q, y, _, _, rfl, rfl, F9.1, oy, (by rw [sizeLine_eq, List.length_map]; show _ + 1 ≤ _; omega), fun z nz => ?_⟩
    rw [← List.map_append]
    have kz := same_new (o := .lst ((ps5 ++ [p]).map V.ref)) nz
    refine fin _ z (ps5 ++ [p]) (k9.free nz) upd_same (fun x hx => ?_) (by rw [List.length_append]; show _ + 1 ≤ _; omega) (k9.trans kz)
    rcases List.mem_append.mp hx with h | h
    · exact ((F9.2 x h).2).same kz
    · rw [List.mem_singleton.mp h]
      exact O9.same kz
theorem ok_alike (F : Fun K "_law_alike_ones" "_law_alike_ones" sAlike f fd) (gD : mg "dict" = none) (gL : mg "list" = none) (gN : mg "len" = none) (gI : mg "int" = none) : FnOk P w K mg base CX0 1 f fd ["stream", "rows"] spAlike := by
  refine F.ok scAlike (fun vs H Q E h => by obtain ⟨l, r, as, ns, tbl, e, _⟩ := h; rw [e]; rfl) fun cdv A outer s H vs Q E hr hsp => ?_
  obtain ⟨l, r, as, ns, tbl, rfl, orr, D0, nnd, nne, nms, nsh, tne, tsh, hq⟩ := hsp
  have nd := scAlike.nd
  have hu := hu_of hr
  obtain ⟨t2, p2, r2⟩ := alike_b (P := P) (w := w) (base := base) (f := f) (cdv := cdv) (A := A) (outer := outer) (s := s) (H := H) (E := E) gD gL gI hr
  refine ⟨_, pss_cons (ps_set (i := 2) nd rfl (Or.inl rfl) (pe_lst (pa_cons (pe_op op_cat (pv 1) (pe_lst (pa_cons (pe_ix ix_list (pv 1) pe_int (fun _ _ => rfl)) pa_nil))) (pa_cons (pe_op op_cat (pv 1) (pe_lst (pa_cons (pe_ix ix_list (pv 1) (pe_un un_neg pe_int) (fun _ _ => rfl)) pa_nil))) pa_nil))))
    (pss_cons (ps_expr (pe_bm PySem.F.plainAttrs_list PySem.F.slot_list_append PySem.F.type_list_append mt_append (pv 2) (pa_cons (pe_op op_cat (pe_slice sl_list (pv 1) po_none (po_some (pe_un un_neg pe_int))) (pe_lst (pa_cons (pe_callTy (r := rDictP K) (call_dictP rfl) rfl gD (by decide +kernel) (pa_cons (pe_lock (pe_lc (own := [("name", 4)]) (tt := tYes) (g := gName 4) (te := teA3 K) rfl nd (pi_keys (pe_ix ix_list (pv 1) (pe_un un_neg pe_int) (fun _ _ => rfl))) (blkOk_by (N := NAl) (sc := defScope sAlike) (by decide +kernel))
        (fun _ _ _ _ _ => pg_name (i := 4) nd rfl (Or.inl rfl)) (fun _ _ _ _ _ => pts_nil) (fun _ _ _ _ _ => pe_tup (pa_cons (pv 4) (pa_cons (pe_op op_add (pe_dget hu (pe_ix (r := rIxL K) ix_list (pv 1) (pe_un un_neg pe_int) (fun _ _ => rfl)) (pv 4) (fun _ _ => rfl)) pe_int) pa_nil))))) pa_nil)) pa_nil))) pa_nil)))
    (pss_cons (ps_set (i := 3) nd rfl (Or.inr rfl) (pe_callTy (call_listD rfl) rfl gL boot_list' (pa_cons (pe_ix ix_list (pv 1) pe_int (fun _ _ => rfl)) pa_nil)))
    (pss_cons (ps_if (pt_cmpR op_gt (pe_callB call_len rfl gN boot_len (pa_cons (pv 3) pa_nil)) pe_int (nomark _)) (pss_one (ps_expr (pe_bm PySem.F.plainAttrs_list PySem.F.slot_list_append PySem.F.type_list_append mt_append (pv 2) (pa_cons (pe_lc (own := [("row", 5)]) (tt := tYes) (g := gName 5) (te := teA4 K) rfl nd (pi_list (pv 1)) (blkOk_by (N := NAl) (sc := defScope sAlike) (by decide +kernel))
        (fun _ _ _ _ _ => pg_name (i := 5) nd rfl (Or.inr rfl)) (fun _ _ _ _ _ => pts_nil) (fun _ _ _ _ _ => pe_callTy (r := rDictP K) (call_dictP rfl) rfl gD (by decide +kernel) (pa_cons (pe_lc (own := [("name", 4)]) (tt := tYes) (g := gName 4) (te := tTup (tCons (tVar 4) (tCons (tDGet (tVar 5) (tVar 4)) tNil))) rfl nd (pi_list (pe_revL (pv 3))) (blkOk_by (N := NAl) (sc := scA4) (by decide +kernel))
          (fun _ _ _ _ _ => pg_name (i := 4) nd rfl (Or.inl rfl)) (fun _ _ _ _ _ => pts_nil) (fun _ _ _ _ _ => pe_tup (pa_cons (pv 4) (pa_cons (pe_dget hu (pv 5) (pv 4) (fun _ _ => rfl)) pa_nil)))) pa_nil))) pa_nil)))) pss_nil)
    p2))), ?_⟩
  have nok : ∀ x ∈ ns, NmOk x := fun x hx => (nms x hx).1
  have las : as.length = tbl.length := Paired.length D0
  have pos : 0 < tbl.length := List.length_pos_iff.mpr tne
  have npos : 0 < ns.length := List.length_pos_iff.mpr nne
  obtain ⟨a0, ea0⟩ : ∃ a0, as[0]? = some a0 := ⟨as[0]'(by omega), List.getElem?_eq_getElem _⟩
  obtain ⟨u0, eu0, oa0, lu0⟩ := paired_get D0 ea0
  obtain ⟨al, eal⟩ : ∃ al, as[as.length - 1]? = some al := ⟨as[as.length - 1]'(by omega), List.getElem?_eq_getElem _⟩
  obtain ⟨ul, eul, oal, lul⟩ := paired_get D0 eal
  have at0' : atI (as.map V.ref) ((0 : Nat) : Int) = some (.ref a0) := atI_nat (by rw [List.getElem?_map, ea0]; rfl)
  have atl : atI (as.map V.ref) (-1) = some (.ref al) := atI_last (by rw [List.length_map, List.getElem?_map, eal]; rfl)
  -- rows + [rows[0]]
  refine ⟨_, rfl, _, rfl, _, _, _, _, rfl, rfl, SqL.of orr, at0', (by rw [sizeLine_eq]; show 1 ≤ _; omega), fun t1 n1 => ?_⟩
  have k1 := same_new (o := .lst [V.ref a0]) n1
  have ot1 : upd H t1 (.lst [V.ref a0]) t1 = some (.lst ([a0].map V.ref)) := upd_same
  generalize upd H t1 (.lst [V.ref a0]) = H1 at k1 ot1
  refine ⟨r, t1, _, _, rfl, rfl, k1 _ _ orr, ot1, (by rw [sizeLine_eq, List.length_map]; show _ + 1 ≤ _; omega), fun p1 np1 => ?_⟩
  rw [← List.map_append]
  have k2 := k1.trans (same_new (o := .lst ((as ++ [a0]).map V.ref)) np1)
  have op1 : upd H1 p1 (.lst ((as ++ [a0]).map V.ref)) p1 = some (.lst ((as ++ [a0]).map V.ref)) := upd_same
  generalize upd H1 p1 (.lst ((as ++ [a0]).map V.ref)) = H2 at k2 op1
  have O1 : Oth H2 ns tbl p1 := ⟨_, ns, tbl ++ [u0], op1, paired_snoc ⟨k2 _ _ oa0, lu0⟩ (D0.same k2), nnd, nne, nok, by omega, by simp, by rw [List.length_append]; show _ + 1 < _; omega, .inr fun e => by
    have z := congrArg List.length e
    rw [List.length_append] at z
    have z : tbl.length + 1 = tbl.length := z
    omega⟩
  -- rows + [rows[-1]]
  refine ⟨_, rfl, _, rfl, _, rfl, _, _, _, _, rfl, rfl, SqL.of (k2 _ _ orr), atl, (by rw [sizeLine_eq]; show 1 ≤ _; omega), fun t2 n2 => ?_⟩
  have k3 := same_new (o := .lst [V.ref al]) n2
  have ot2 : upd H2 t2 (.lst [V.ref al]) t2 = some (.lst ([al].map V.ref)) := upd_same
  generalize upd H2 t2 (.lst [V.ref al]) = H3 at k3 ot2
  refine ⟨r, t2, _, _, rfl, rfl, k3 _ _ (k2 _ _ orr), ot2, (by rw [sizeLine_eq, List.length_map]; show _ + 1 ≤ _; omega), fun p2 np2 => ?_⟩
  rw [← List.map_append]
  have k34 := k3.trans (same_new (o := .lst ((as ++ [al]).map V.ref)) np2)
  have op2 : upd H3 p2 (.lst ((as ++ [al]).map V.ref)) p2 = some (.lst ((as ++ [al]).map V.ref)) := upd_same
  generalize upd H3 p2 (.lst ((as ++ [al]).map V.ref)) = H4 at k34 op2
  have k4 := k2.trans k34
  have O2 : Oth H4 ns tbl p2 := ⟨_, ns, tbl ++ [ul], op2, paired_snoc ⟨k4 _ _ oal, lul⟩ (D0.same k4), nnd, nne, nok, by omega, by simp, by rw [List.length_append]; show _ + 1 < _; omega, .inr fun e => by
    have z := congrArg List.length e
    rw [List.length_append] at z
    have z : tbl.length + 1 = tbl.length := z
    omega⟩
  refine ⟨(by rw [sizeLine_eq]; show 2 ≤ _; omega), fun q nq => ?_⟩
  have nqH : H q = none := k4.free nq
  have F5 : Fnd (upd H4 q (.lst [V.ref p1, V.ref p2])) ns tbl q [p1, p2] := ⟨upd_same, fun p hp => by
    have kq := same_new (o := .lst [V.ref p1, V.ref p2]) nq
    simp only [List.mem_cons, List.not_mem_nil, or_false] at hp
    rcases hp with rfl | rfl
    · exact ⟨ne_of_none (k34 _ _ op1) nq, (O1.same k34).same kq⟩
    · exact ⟨ne_of_none op2 nq, O2.same kq⟩⟩
  have k5 := k4.trans (same_new (o := .lst [V.ref p1, V.ref p2]) nq)
  generalize upd H4 q (.lst [V.ref p1, V.ref p2]) = H5 at F5 k5
  -- the last row's answers, all 5 more
  refine ⟨_, rfl, .inl ⟨rfl, _, SqL.of F5.1⟩, _, rfl, _, rfl, (-1 : Int), rfl, r, as.map V.ref, rfl, SqL.of (k5 _ _ orr), fun p3 np3 => ?_⟩
  rw [cut_init, List.length_map, ← List.map_take]
  have k56 := same_new (o := .lst ((as.take (as.length - 1)).map V.ref)) np3
  have op3 : upd H5 p3 (.lst ((as.take (as.length - 1)).map V.ref)) p3 = some (.lst ((as.take (as.length - 1)).map V.ref)) := upd_same
  have F6 := F5.same k56
  have k6 := k5.trans k56
  generalize upd H5 p3 (.lst ((as.take (as.length - 1)).map V.ref)) = H6 at op3 F6 k6
  have oal6 := k6 _ _ oal
  have orr6 := k6 _ _ orr
  have ral : r ≠ al := ne_of orr oal (by intro z; cases z)
  have lw : (ns.map fun x => av ns ul x + 5).length = ns.length := List.length_map _
  refine ⟨al, _, oal6, trivial, fun od => ⟨_, rfl, _, rfl, _, _, _, _, rfl, rfl, SqL.of (by rw [upd_ne ral]; exact orr6), atl, al, od, rfl, .inl ⟨_, upd_same, pairs_lc (dk ns (ns.map fun x => av ns ul x + 5)) (by rw [dk_len lw]; omega) (fun j H' s lt => ⟨s _ _ upd_same, by rw [dk_len lul]; rw [dk_len lw] at lt; exact lt⟩) (fun H' s => ⟨s _ _ upd_same, by rw [dk_len lul, dk_len lw]; exact Nat.le_refl _⟩) ?_ ?_⟩⟩⟩
  · rintro i v k x H7 H8 Cn Nn ekv s7 ⟨rfl, k2', w2, ek, rfl⟩ yes
    rw [dk_fun1, List.getElem?_map] at ekv
    obtain ⟨z, ez, e⟩ := Option.map_eq_some_iff.mp ekv
    cases e
    rw [dk_self nnd lul] at ek
    unfold gvn at ek
    rw [List.getElem?_map, ez] at ek
    cases ek
    have hv := dk_av nnd lul (List.mem_of_getElem? ez)
    have orr7 : H8 r = some (.lst (as.map V.ref)) := s7 _ _ (by rw [upd_ne ral]; exact orr6)
    refine ⟨rfl, ?_⟩
    refine ⟨_, rfl, _, rfl, _, rfl, _, _, _, _, rfl, rfl, SqL.of orr7, atl, _, rfl, al, _, rfl, .inl ⟨_, Sum.inr z, .inr ⟨_, s7 _ _ upd_same⟩, rfl, hv.symm⟩, ?_⟩
    refine ⟨_, _, rfl, rfl, (by rw [sizeLine_eq]; show 2 ≤ _; omega), fun t nt => ?_⟩
    exact yes t _ upd_same (same_new nt)
  intro H7 Dl ps3 nDl oDl pr3 s7
  obtain ⟨b7, s67⟩ := lock_off oal6 s7
  have Dal : Dl ≠ al := fun z => by rw [z, upd_same] at nDl; cases nDl
  refine ⟨b7, Dl, ps3, _, rfl, SqL.of (by rw [upd_ne Dal]; exact oDl), Paired.mapP pr3 fun p kv h => SqT.of (by rw [upd_ne (ne_of h b7 (by intro z; cases z))]; exact h), fun g3 ng3 => ?_⟩
  rw [merge_nd (dk_nd lw.symm nnd)]
  have kg3 := same_new (o := .dK (dk ns (ns.map fun x => av ns ul x + 5))) ng3
  have og3 : upd (upd H7 al (.dK (dk ns ul))) g3 (.dK (dk ns (ns.map fun x => av ns ul x + 5))) g3 = some (.dK (dk ns (ns.map fun x => av ns ul x + 5))) := upd_same
  have k68 := s67.trans kg3
  generalize upd (upd H7 al (.dK (dk ns ul))) g3 (.dK (dk ns (ns.map fun x => av ns ul x + 5))) = H8 at og3 k68
  refine ⟨(by rw [sizeLine_eq]; show 1 ≤ _; omega), fun t3 nt3 => ?_⟩
  have kt3 := same_new (o := .lst [V.ref g3]) nt3
  have ot3 : upd H8 t3 (.lst [V.ref g3]) t3 = some (.lst ([g3].map V.ref)) := upd_same
  have og39 := kt3 _ _ og3
  have k69 := k68.trans kt3
  generalize upd H8 t3 (.lst [V.ref g3]) = H9 at ot3 og39 k69
  refine ⟨p3, t3, _, _, rfl, rfl, k69 _ _ op3, ot3, (by rw [sizeLine_eq, List.length_map, List.length_take]; show _ + 1 ≤ _; omega), fun p4 np4 => ?_⟩
  rw [← List.map_append]
  have kp4 := same_new (o := .lst ((as.take (as.length - 1) ++ [g3]).map V.ref)) np4
  have op4 : upd H9 p4 (.lst ((as.take (as.length - 1) ++ [g3]).map V.ref)) p4 = some (.lst ((as.take (as.length - 1) ++ [g3]).map V.ref)) := upd_same
  have p4q : p4 ≠ q := fun z => by rw [z, k69 _ _ F6.1] at np4; cases np4
  have og310 := kp4 _ _ og39
  have k610 := k69.trans kp4
  generalize upd H9 p4 (.lst ((as.take (as.length - 1) ++ [g3]).map V.ref)) = H10 at op4 og310 k610
  have k10 := k6.trans k610
  have O4 : Oth H10 ns tbl p4 := by
    have dt : DRows H10 ns (as.take (as.length - 1)) (tbl.take (as.length - 1)) := by
      have z : ∀ (k : Nat) {xs : List Addr} {ys : List (List Int)}, DRows H10 ns xs ys → DRows H10 ns (xs.take k) (ys.take k) := fun k => by
        induction k with
        | zero => intro xs ys _; exact .nil
        | succ k ih =>
          intro xs ys h
          cases h with
          | nil => exact .nil
          | cons h t => exact .cons h (ih t)
      exact z _ (D0.same k10)
    refine ⟨_, ns, tbl.take (as.length - 1) ++ [ns.map fun x => av ns ul x + 5], op4, paired_snoc ⟨og310, lw⟩ dt, nnd, nne, nok, by omega, by simp, by rw [List.length_append, List.length_take]; show _ + 1 < _; omega, .inr fun e => ?_⟩
    have z : (tbl.take (as.length - 1) ++ [ns.map fun x => av ns ul x + 5])[as.length - 1]? = some ul := by rw [e]; exact eul
    rw [List.getElem?_append_right (by rw [List.length_take]; omega)] at z
    have e0 : as.length - 1 - (tbl.take (as.length - 1)).length = 0 := by rw [List.length_take]; omega
    rw [e0] at z
    have z : (ns.map fun x => av ns ul x + 5) = ul := Option.some.inj z
    have z2 := av_all nnd lul
    obtain ⟨x, l', rfl⟩ := List.exists_cons_of_ne_nil nne
    rw [← z2] at z
    have z3 : av (x :: l') (((x :: l').map (av (x :: l') ul))) x + 5 = av (x :: l') ul x := by
      rw [z2] at z ⊢
      rw [List.map_cons] at z
      have q1 := congrArg List.head? z
      have q2 := congrArg List.head? z2
      rw [List.map_cons] at q2
      have q2 : some (av (x :: l') ul x) = ul.head? := q2
      rw [← q2] at q1
      exact Option.some.inj q1
    rw [z2] at z3
    omega
  have F10 := F6.same k610
  refine ⟨q, _, .ref p4, rfl, rfl, F10.1, (by rw [sizeLine_eq]; show 2 < _; omega), ?_⟩
  have F11 := F10.push O4 p4q
  have k11 : Same H (upd H10 q (.lst ([p1, p2].map V.ref ++ [V.ref p4]))) := fun b o e => by rw [upd_ne (ne_of_none e nqH)]; exact k10 _ _ e
  generalize upd H10 q (.lst ([p1, p2].map V.ref ++ [V.ref p4])) = H11 at F11 k11
  -- the names
  refine ⟨_, rfl, _, _, _, _, rfl, rfl, SqL.of (k11 _ _ orr), at0', a0, _, rfl, .inl (k11 _ _ oa0), fun n nn => ?_⟩
  have ek0 : ((dk ns u0).map fun kv => kV kv.1) = ns.map V.str := by
    have z := congrArg (List.map kV) (dk_keys lu0.symm)
    rw [List.map_map, List.map_map] at z
    exact z
  rw [ek0]
  have kn := same_new (o := .lst (ns.map V.str)) nn
  have on : upd H11 n (.lst (ns.map V.str)) n = some (.lst (ns.map V.str)) := upd_same
  have F12 := F11.same kn
  have k12 := k11.trans kn
  generalize upd H11 n (.lst (ns.map V.str)) = H12 at on F12 k12
  have ln : (ns.map V.str).length = ns.length := List.length_map _
  refine ⟨_, rfl, _, (ns.map V.str).length, rfl, .inl ⟨_, SqL.of on, rfl⟩, _, _, rfl, rfl, _, rfl, ?_⟩
  have fin := fun (H' : Hp) (q' : Addr) (ps' : List Addr) => hq H' q' ps'
  by_cases c1 : (1 : Int) < ((ns.map V.str).length : Nat)
  · rw [decide_eq_true c1]
    refine iteT ?_
    have nq12 : n ≠ q := fun z => by rw [z, F11.1] at nn; cases nn
    have D12 := D0.same k12
    have orr12 := k12 _ _ orr
    have knd : ns.reverse.Nodup := (List.reverse_perm ns).nodup_iff.mpr nnd
    refine ⟨_, rfl, .inl ⟨rfl, _, SqL.of F12.1⟩, _, rfl, r, rfl, ⟨_, SqL.of orr12⟩, lc_rows (ns' := ns.reverse) (h := fun u => keyR ns ns.reverse u) orr12 D12 (by omega) (fun u _ => by unfold keyR; rw [List.length_map]) ?_ ?_⟩
    · rintro a u H13 Cn Nn oa lu s13 yes
      refine ⟨rfl, ?_⟩
      refine ⟨_, rfl, n, _, rfl, SqL.of (s13 _ _ on), fun m nm => ?_⟩
      rw [← List.map_reverse]
      have km := same_new (o := .lst (ns.reverse.map V.str)) nm
      have om : upd H13 m (.lst (ns.reverse.map V.str)) m = some (.lst (ns.reverse.map V.str)) := upd_same
      generalize upd H13 m (.lst (ns.reverse.map V.str)) = H14 at km om
      refine ⟨m, rfl, ⟨_, SqL.of om⟩, given_lc (K := K) ns ns.reverse u (by rw [List.length_reverse]; omega) (fun j H' s lt => ⟨_, _, SqL.of (s _ _ om), List.getElem?_eq_getElem (by rw [List.length_map]; exact lt)⟩) (fun H' s => ⟨_, SqL.of (s _ _ om), by rw [List.length_map]; omega⟩) ?_ ?_⟩
      · rintro j v y H15 H16 Cm Nm ey s15 ⟨rfl, ev⟩ yes2
        have ev := ev _ (SqL.of (s15 _ _ om))
        rw [List.getElem?_map, ey] at ev
        obtain rfl : V.str y = v := Option.some.inj ev
        refine ⟨rfl, ?_⟩
        have yin : y ∈ ns := List.mem_reverse.mp (List.mem_of_getElem? ey)
        refine ⟨_, rfl, _, rfl, _, rfl, a, _, rfl, dk_av nnd lu yin ▸ DGet.k (k := Sum.inr y) (s15 _ _ (km _ _ oa)), (by rw [sizeLine_eq]; show 2 ≤ _; omega), fun t nt => ?_⟩
        exact yes2 t _ upd_same (same_new nt)
      · intro H15 D1 ps nD1 oD1 pr k15
        refine ⟨D1, ps, _, rfl, SqL.of oD1, pr, fun g ng => ?_⟩
        rw [gvn_merge knd, gvn_dk]
        exact yes g _ upd_same ((km.trans k15).trans (same_new ng))
    · intro H13 D1 bs nD1 oD1 rows s13
      have F13 := F12.same s13
      have D1q : D1 ≠ q := fun z => by rw [z, F12.1] at nD1; cases nD1
      have O : Oth H13 ns tbl D1 := ⟨bs, ns.reverse, _, oD1, rows, knd, by simpa using nne, fun x hx => nok x (List.mem_reverse.mp hx), by rw [List.length_reverse]; omega, by simpa using tne, by rw [List.length_map]; omega, .inl (rev_ne nnd (by omega))⟩
      refine ⟨q, _, .ref D1, rfl, rfl, F13.1, (by rw [sizeLine_eq]; show 3 < _; omega), ?_⟩
      have F14 := F13.push O D1q
      have k14 : Same H (upd H13 q (.lst (([p1, p2] ++ [p4]).map V.ref ++ [V.ref D1]))) := fun b o e => by rw [upd_ne (ne_of_none e nqH)]; exact s13 _ _ (k12 _ _ e)
      exact r2 _ H _ l r q as ns tbl _ _ _ _ _ orr D0 nnd nne nms nsh tne tsh nqH F14 (by show 4 ≤ 4; decide) k14 hq
  · rw [decide_eq_false c1]
    refine iteF ?_
    exact r2 _ H _ l r q as ns tbl _ _ _ _ _ orr D0 nnd nne nms nsh tne tsh nqH F12 (by show 3 ≤ 4; decide) k12 hq
end
end L2.TB
namespace L2.TB
open PySem PySem.Spec PyProof.Rows
/-! the law: a turn's table -/
/-- what the law reads -/
structure LawK (P : Program) (w : World) (K : PySem.W.Frag) (mg : Str → Option Value) (base : Heap) (C fIn : Addr) : Prop where
  T : TabC K C
  start : ∃ f fd, mg "_law_start" = some (.ref f) ∧ Fun K "_law_start" "_law_start" sStart f fd
  draw : ∃ f fd, mg "_law_draw" = some (.ref f) ∧ Fun K "_law_draw" "_law_draw" sDraw f fd
  pick : ∃ f fd, mg "_law_pick" = some (.ref f) ∧ Fun K "_law_pick" "_law_pick" sPick f fd ∧ FnOk P w K mg base CX0 2 f fd ["stream", "some"] (spPick K)
  rows : ∃ f fd, mg "_law_t_rows" = some (.ref f) ∧ Fun K "_law_t_rows" "_law_t_rows" sRows f fd ∧ FnOk P w K mg base CX0 4 f fd ["stream", "many", "rows", "values"] spRows
  turned : ∃ f fd, mg "_law_t_turned_rows" = some (.ref f) ∧ Fun K "_law_t_turned_rows" "_law_t_turned_rows" sTurned f fd ∧ FnOk P w K mg base CX0 3 f fd ["stream", "rows"] spTurned
  sm : ∃ f fd, mg "_law_t_some" = some (.ref f) ∧ Fun K "_law_t_some" "_law_t_some" sSome f fd ∧ FnOk P w K mg base CX0 3 f fd ["stream", "names"] (spSome K)
  same : ∃ f fd, mg "_law_same" = some (.ref f) ∧ Fun K "_law_same" "_law_same" sSame f fd ∧ FnOk P w K mg base CX0 3 f fd ["found", "due"] (spSameT 2)
  leftR : ∃ f fd, mg "_law_left_right" = some (.ref f) ∧ Fun K "_law_left_right" "_law_left_right" sLeftR f fd ∧ FnOk P w K mg base CX0 5 f fd ["stream", "table", "rows"] (spLeftR C)
  onlyR : ∃ f fd, mg "_law_only_right" = some (.ref f) ∧ Fun K "_law_only_right" "_law_only_right" sOnlyR f fd ∧ FnOk P w K mg base CX0 6 f fd ["stream", "table", "rows", "some"] (spOnlyR C)
  alike : ∃ f fd, mg "_law_alike_ones" = some (.ref f) ∧ Fun K "_law_alike_ones" "_law_alike_ones" sAlike f fd ∧ FnOk P w K mg base CX0 1 f fd ["stream", "rows"] spAlike
  add : ∃ f fd, Meth K C "__add__" f ∧ Fun K "__add__" "Table.__add__" sAdd f fd ∧ FnOk P w K mg base CX0 5 f fd ["self", "other"] (spAdd C)
  len : ∃ f fd, Meth K C "__len__" f ∧ Fun K "__len__" "Table.__len__" sLen f fd ∧ FnOk P w K mg base CX0 1 f fd ["self"] (spLen C)
  eq : ∃ f fd, Meth K C "__eq__" f ∧ Fun K "__eq__" "Table.__eq__" sEq f fd ∧ FnOk P w K mg base CX0 1 f fd ["self", "other"] (spEqT C) ∧ FnOk P w K mg base CX0 1 f fd ["self", "other"] (spEqO K C)
  qs : ∃ f fd, Meth K C "questions" f ∧ Fun K "questions" "Table.questions" sQs f fd ∧ FnOk P w K mg base CX0 1 f fd ["self"] (spQs K C)
  rowsM : ∃ f fd, Meth K C "rows" f ∧ Fun K "rows" "Table.rows" sRowsM f fd ∧ FnOk P w K mg base CX0 2 f fd ["self"] (spRowsM C)
  answers : ∃ f fd, Meth K C "answers" f ∧ Fun K "answers" "Table.answers" sAnswers f fd ∧ FnOk P w K mg base CX0 4 f fd ["self", "world"] (spAnswers C)
  ne : PySem.W.findIn K (.ref C) "__ne__" = some (some (.builtin "object.__ne__"))
  ob : PySem.W.mroIn K C (.type "object") = some true
  made : Mk K C fIn
  init : ∃ fd, Fun K "__init__" "Table.__init__" sInit fIn fd ∧ FnOk P w K mg base CX0 3 fIn fd ["self", "rows"] (spInitG K C)
  gC : mg "Table" = some (.ref C)
  sf : PySem.W.selfFirst K C = true
  nR : mg "range" = none
  nD : mg "dict" = none
  nY : mg "any" = none
  far : ∀ t ∈ ["NoneType", "int", "list", "str"], PySem.W.notFirst K C (.type t) = true ∧ PySem.W.kitOne K (.type t) (.ref C) = some false
  M : Sm mg
abbrev NLw : List Str := ["script", "stream", "turn", "rows", "handed", "passed", "table", "names", "row", "told", "some", "more", "k", "name", "other", "thing"]
theorem scLaw : FnScope NLw ["script"] (defScope sLaw) := ⟨rfl, rfl, rfl, by decide +kernel, rfl, by decide +kernel, by decide +kernel⟩
def forB : Stmt → List Stmt
  | .For _ _ b _ _ => b
  | _ => []
abbrev bodyT : List Stmt := forB ((defBody sLaw).getD 1 (.Pass ⟨0, 0, 0, 0⟩))
structure Dk (H : Hp) (C l ls r q n : Addr) (as : List Addr) (ns : List Str) (tbl : List (List Int)) (N : Int) : Prop where
  S : Strm H l ls N
  orr : H r = some (.lst (as.map V.ref))
  rl : r ≠ l
  rls : r ≠ ls
  R : RowsAt H l ls ns as tbl
  tab : TabAt H C q ns tbl
  on : H n = some (.lst (ns.map V.str))
  nl : n ≠ l
  nls : n ≠ ls
  W : Wide ns tbl
  few : tbl.length ≤ 20
  nms : ∀ x ∈ ns, NmS x
theorem Dk.but {H H' : Hp} {C l ls r q n : Addr} {as : List Addr} {ns : List Str} {tbl : List (List Int)} {N M : Int} (d : Dk H C l ls r q n as ns tbl N) (S : Strm H' l ls M) (B : But l ls H H') : Dk H' C l ls r q n as ns tbl M :=
  ⟨S, B _ _ d.rl d.rls d.orr, d.rl, d.rls, d.R.but B, d.tab.but d.S B d.W.ne d.W.t, B _ _ d.nl d.nls d.on, d.nl, d.nls, d.W, d.few, d.nms⟩
theorem Dk.same {H H' : Hp} {C l ls r q n : Addr} {as : List Addr} {ns : List Str} {tbl : List (List Int)} {N : Int} (d : Dk H C l ls r q n as ns tbl N) (s : Same H H') : Dk H' C l ls r q n as ns tbl N := d.but (d.S.same s) (But.of s)
theorem Dk.D {H : Hp} {C l ls r q n : Addr} {as : List Addr} {ns : List Str} {tbl : List (List Int)} {N : Int} (d : Dk H C l ls r q n as ns tbl N) : DRows H ns as tbl := Paired.mapP d.R fun a vs h => ⟨h.1, h.2.1⟩
/-- a dict that is none of the rows may change -/
theorem Dk.updD {H : Hp} {C l ls r q n a : Addr} {as : List Addr} {ns : List Str} {tbl : List (List Int)} {N : Int} {kvs kvs' : List (Key × V)} (d : Dk H C l ls r q n as ns tbl N) (oa : H a = some (.dK kvs)) (out : a ∉ as) : Dk (upd H a (.dK kvs')) C l ls r q n as ns tbl N := by
  have k : ∀ {b : Addr} {o : HO}, (∀ kv, o ≠ .dK kv) → H b = some o → upd H a (.dK kvs') b = some o := fun {b o} h e => by
    rw [upd_ne (ne_of e oa (h kvs))]
    exact e
  obtain ⟨cs, g, m, mm, S⟩ := d.S
  obtain ⟨dx, qa, ra, h1, h2, ps, h3, pr⟩ := d.tab.ex
  refine ⟨⟨cs, g, m, mm, k (fun _ z => by cases z) S.o, k (fun _ z => by cases z) S.c, S.ne, S.g0, S.k0, S.k1, S.m0, S.m1, S.sz⟩, k (fun _ z => by cases z) d.orr, d.rl, d.rls, ?_, ⟨dx, qa, ra, k (fun _ z => by cases z) h1, k (fun _ z => by cases z) h2, ps, k (fun _ z => by cases z) h3, Paired.mapP pr fun p vs h => ⟨k (fun _ z => by cases z) h.1, h.2⟩⟩, k (fun _ z => by cases z) d.on, d.nl, d.nls, d.W, d.few, d.nms⟩
  have z : ∀ {xs : List Addr} {ys : List (List Int)}, a ∉ xs → RowsAt H l ls ns xs ys → RowsAt (upd H a (.dK kvs')) l ls ns xs ys := by
    intro xs ys no h
    induction h with
    | nil => exact .nil
    | @cons x y xs ys h t ih =>
      refine .cons ⟨?_, h.2⟩ (ih fun q => no (List.mem_cons_of_mem _ q))
      rw [upd_ne (fun e : x = a => no (by rw [e]; exact List.mem_cons_self))]
      exact h.1
  exact z out d.R
theorem putK_len {acc : List (Key × V)} {k : Key} {v : V} : (putK acc k v).length ≤ acc.length + 1 := by
  unfold putK
  split
  · rw [List.length_map]; omega
  · rw [List.length_append]; show _ + 1 ≤ _; omega
theorem HeadD.but {H H' : Hp} {l ls : Addr} {ns : List Str} {hs : List Addr} {tbl : List (List Int)} (h : HeadD H ns hs) (G : GRowsA H l ls ns hs tbl) (B : But l ls H H') : HeadD H' ns hs := fun a e => by
  obtain ⟨u, _, _, h1, h2⟩ := paired_get G e
  obtain ⟨kvs, o, k⟩ := h a e
  exact ⟨kvs, B _ _ h1 h2 o, k⟩
/-- a table of rows in a list or a tuple, their questions in any order -/
theorem made_tabG {K : PySem.W.Frag} {C r : Addr} {as : List Addr} {ns : List Str} {tbl : List (List Int)} {H : Hp} {E : XK} {Q : Addr → Hp → Prop} (orr : SqA K H r (as.map V.ref)) (D : GRows H ns as tbl) (hd : HeadD H ns as) (nne : ns ≠ []) (nnd : ns.Nodup) (nok : ∀ x ∈ ns, NmOk x) (nsh : ns.length < 1000) (tne : tbl ≠ []) (tsh : tbl.length < 1000)
    (fin : ∀ H' x, H x = none → TabAt H' C x ns tbl → Same H H' → Q x H') :
    ∀ x dx, H x = none → H dx = none → dx ≠ x → spInitG K C (.ref x :: ([.ref r] ++ [])) (upd (upd H dx (.own x)) x (.ins C dx [])) (fun v H2 => v = .non ∧ Q x H2) E := by
  intro x dx nx ndx nex
  have kx : Same H (upd (upd H dx (.own x)) x (.ins C dx [])) := fun b o e => by rw [upd_ne (ne_of_none e nx), upd_ne (ne_of_none e ndx)]; exact e
  exact ⟨x, dx, r, as, ns, tbl, rfl, upd_same, orr.same kx, D.same kx, hd.same kx, tne, tsh, nne, nnd, nok, nsh, fun H2 T fr => ⟨rfl, fin H2 x nx T fun b o e => fr b o (ne_of_none e nx) (kx _ _ e)⟩⟩
theorem drows_g {H : Hp} {ns : List Str} {as : List Addr} {tbl : List (List Int)} (nd : ns.Nodup) (D : DRows H ns as tbl) : GRows H ns as tbl ∧ HeadD H ns as :=
  ⟨Paired.mapP D fun a vs h => ⟨_, h.1, rowD_dk nd h.2⟩, fun a e => by
    obtain ⟨u, _, o, lu⟩ := paired_get D e
    exact ⟨_, o, dk_keys lu.symm⟩⟩
/-- a table of rows in a list -/
theorem made_tab {K : PySem.W.Frag} {C r : Addr} {as : List Addr} {ns : List Str} {tbl : List (List Int)} {H : Hp} {E : XK} {Q : Addr → Hp → Prop} (orr : H r = some (.lst (as.map V.ref))) (D : DRows H ns as tbl) (nne : ns ≠ []) (nnd : ns.Nodup) (nok : ∀ x ∈ ns, NmOk x) (nsh : ns.length < 1000) (tne : tbl ≠ []) (tsh : tbl.length < 1000)
    (fin : ∀ H' x, H x = none → TabAt H' C x ns tbl → Same H H' → Q x H') :
    ∀ x dx, H x = none → H dx = none → dx ≠ x → spInitG K C (.ref x :: ([.ref r] ++ [])) (upd (upd H dx (.own x)) x (.ins C dx [])) (fun v H2 => v = .non ∧ Q x H2) E :=
  made_tabG (.inl orr) (drows_g nnd D).1 (drows_g nnd D).2 nne nnd nok nsh tne tsh fin
section
variable {P : Program} {w : World} {K : PySem.W.Frag} {mg : Str → Option Value} {base : Heap} {f C fIn : Addr} {fd : FuncData}
theorem turn_a (L : LawK P w K mg base C fIn) {cdv : Value} {A : Around} {outer : List Env} {s : Shared} {H : Hp} {E : XK} (hr : Room 7 (A.deeper (envOfC "law" (defScope sLaw) s.heap.objs.size f cdv))) {rest : List Stmt} {u : TS} (hrest : PSs (cxOf CX0 P w K mg base NLw "law" (defScope sLaw) f cdv A outer s H E).nox rest u) :
    ∃ t, PSs (cxOf CX0 P w K mg base NLw "law" (defScope sLaw) f cdv A outer s H E).nox (bodyT.take 5 ++ rest) t ∧ ∀ (D : Ends) (H0 : Hp) (s0 s2 s3 s4 s5 s6 s7 s8 s9 s10 s11 s12 s13 s14 s15 : Option V) (l ls : Addr) (N : Int), Strm H0 l ls N → N ≤ 400000 →
      (∀ H' r hd b q n s8 as ns tbl, Dk H' C l ls r q n as ns tbl (N + 1300) → u D [s0, some (.ref l), s2, some (.ref r), some (.ref hd), some (.ref b), some (.ref q), some (.ref n), s8, s9, s10, s11, s12, s13, s14, s15] H') →
      t D [s0, some (.ref l), s2, s3, s4, s5, s6, s7, s8, s9, s10, s11, s12, s13, s14, s15] H0 := by
  obtain ⟨fR, fdR, gR, FR, GR⟩ := L.rows
  have bR := FR.binds (ps := ["stream", "many", "rows", "values"]) fun _ _ _ _ _ _ us hl => match us, hl with | [_, _, _, _], _ => rfl
  obtain ⟨fU, fdU, gU, FU, GU⟩ := L.turned
  have bU := FU.binds (ps := ["stream", "rows"]) fun _ _ _ _ _ _ us hl => match us, hl with | [_, _], _ => rfl
  obtain ⟨fP, fdP, gP, FP, GP⟩ := L.pick
  have bP := FP.binds (ps := ["stream", "some"]) fun _ _ _ _ _ _ us hl => match us, hl with | [_, _], _ => rfl
  obtain ⟨fdI, FI, GI⟩ := L.init
  have bI := FI.binds (ps := ["self", "rows"]) fun _ _ _ _ _ _ us hl => match us, hl with | [_, _], _ => rfl
  have nd := scLaw.nd
  have hu := hu_of hr
  refine ⟨_, pss_cons (ps_set (i := 3) nd rfl (Or.inl rfl) (pe_call GR (hr.mono (by decide)) rfl gR FR.kp bR .nil pass0 (pa_cons (pv 1) (pa_cons pe_int (pa_cons pe_int (pa_cons pe_int pa_nil))))))
    (pss_cons (ps_set (i := 4) nd rfl (Or.inl rfl) (pe_call GU (hr.mono (by decide)) rfl gU FU.kp bU .nil pass0 (pa_cons (pv 1) (pa_cons (pv 3) pa_nil))))
    (pss_cons (ps_set (i := 5) nd rfl (Or.inl rfl) (pe_call GP (hr.mono (by decide)) rfl gP FP.kp bP .nil pass0 (pa_cons (pv 1) (pa_cons (pe_lst (pa_cons (pv 4) (pa_cons (pe_callTy (r := rTupOf K) call_tuple_of rfl L.M.nT boot_tuple' (pa_cons (pv 4) pa_nil)) pa_nil))) pa_nil))))
    (pss_cons (ps_asg (pe_tup (pa_cons (pe_make L.made GI (hr.mono (by decide)) rfl L.gC bI .nil pass0 (pa_cons (pv 5) pa_nil)) (pa_cons (pe_callTy (call_listD rfl) rfl L.M.nL boot_list' (pa_cons (pe_ix ix_list (pv 3) pe_int (fun _ _ => rfl)) pa_nil)) pa_nil))) (pg_tup rfl (pgs_cons (pg_name (i := 6) nd rfl (Or.inr rfl)) (pgs_cons (pg_name (i := 7) nd rfl (Or.inl rfl)) pgs_nil))))
    (pss_cons (ps_for PassesOwn.never rfl (pi_list (pv 4)) (pg_name (i := 8) nd rfl (Or.inl rfl)) (pss_one (ps_dput hu (pv 8) pe_str pe_int rfl))) hrest)))), ?_⟩
  intro D H0 s0 s2 s3 s4 s5 s6 s7 s8 s9 s10 s11 s12 s13 s14 s15 l ls N S0 hN fin
  refine ⟨_, rfl, l, ls, 5, 8, 4, N, rfl, S0, by omega, by decide, by decide, by decide, by decide, by decide, by decide, fun H1 rr as ns tbl lns nn nnd nms ltbl tn nrr rl rls orr R S1 B1 => ?_⟩
  have nok : ∀ x ∈ ns, NmOk x := fun x hx => (nms x hx).1
  have W : Wide ns tbl := ⟨nnd, nn, nok, lns, by omega, tn⟩
  refine ⟨_, rfl, _, rfl, l, ls, rr, as, ns, tbl, _, rfl, S1, by omega, orr, rl, rls, R, W, ltbl, fun H2 hd hs nhd hdl hdls ohd G2 hd2 fr S2 B2 => ?_⟩
  refine ⟨_, rfl, _, rfl, _, rfl, hd, _, rfl, .inl ⟨SqL.of ohd, fun t nt => ?_⟩⟩
  have kt := same_new (o := .tup (hs.map V.ref)) nt
  have tl := S2.apart (Same.refl _) nt
  have ot : upd H2 t (.tup (hs.map V.ref)) t = some (.tup (hs.map V.ref)) := upd_same
  have S3 := S2.same kt
  have B3 := B2.trans (But.of kt)
  have B23 : But l ls H2 (upd H2 t (.tup (hs.map V.ref))) := But.of kt
  generalize upd H2 t (.tup (hs.map V.ref)) = H3 at ot S3 B3 B23
  refine ⟨(by rw [sizeLine_eq]; show 2 ≤ _; omega), fun p np => ?_⟩
  have ap := S3.apart (Same.refl _) np
  have kp := same_new (o := .lst [V.ref hd, V.ref t]) np
  have S4 := S3.same kp
  have B24 := B23.trans (But.of kp)
  have ot4 := kp _ _ ot
  refine ⟨l, ls, p, _, _, rfl, S4, by omega, ap.1, ap.2, upd_same, (by show 0 < 2; decide), (by show 2 < 1000; decide), fun H5 x hx S5 B5 => ?_⟩
  have B25 := B24.trans B5
  have B15 := B2.trans B25
  have ohd5 := B25 _ _ hdl hdls ohd
  have G5 := G2.but B25
  have hd5 := hd2.but G2 B25
  have R5 := R.but B15
  have orr5 := B15 _ _ rl rls orr
  obtain ⟨b, rfl, ob⟩ : ∃ b, x = V.ref b ∧ SqA K H5 b (hs.map V.ref) := by
    simp only [List.mem_cons, List.not_mem_nil, or_false] at hx
    rcases hx with h | h
    · exact ⟨hd, h, .inl ohd5⟩
    · exact ⟨t, h, .inr (B5 _ _ tl.1 tl.2 ot4)⟩
  refine ⟨_, rfl, made_tabG ob G5.rows hd5 nn nnd nok (by omega) tn (by omega) fun H6 q nq tab6 k6 => ?_⟩
  have S6 := S5.same k6
  have R6 : RowsAt H6 l ls ns as tbl := R5.but (But.of k6)
  have D6 : DRows H6 ns as tbl := Paired.mapP R6 fun a vs h => ⟨h.1, h.2.1⟩
  have orr6 := k6 _ _ orr5
  have las : as.length = tbl.length := Paired.length D6
  have pos : 0 < tbl.length := List.length_pos_iff.mpr tn
  obtain ⟨a0, ea0⟩ : ∃ a0, as[0]? = some a0 := ⟨as[0]'(by omega), List.getElem?_eq_getElem _⟩
  obtain ⟨us0, eu0, oa0, lu0⟩ := paired_get D6 ea0
  have at0' : atI (as.map V.ref) ((0 : Nat) : Int) = some (.ref a0) := atI_nat (by rw [List.getElem?_map, ea0]; rfl)
  refine ⟨_, rfl, _, _, _, _, rfl, rfl, SqL.of orr6, at0', a0, _, rfl, .inl oa0, fun n nn' => ?_⟩
  have ek0 : ((dk ns us0).map fun kv => kV kv.1) = ns.map V.str := by
    have z := congrArg (List.map kV) (dk_keys lu0.symm)
    rw [List.map_map, List.map_map] at z
    exact z
  rw [ek0]
  have an := S6.apart (Same.refl _) nn'
  have kn := same_new (o := .lst (ns.map V.str)) nn'
  have on : upd H6 n (.lst (ns.map V.str)) n = some (.lst (ns.map V.str)) := upd_same
  refine ⟨(by rw [sizeLine_eq]; show 2 ≤ _; omega), fun T nT => ?_⟩
  have kT := same_new (o := .tup [V.ref q, V.ref n]) nT
  have k68 := kn.trans kT
  refine ⟨T, _, rfl, SqT.of upd_same, rfl, _, _, rfl, _, _, rfl, rfl, ?_⟩
  have on8 := kT _ _ on
  generalize upd (upd H6 n (.lst (ns.map V.str))) T (.tup [V.ref q, V.ref n]) = H8 at k68 on8
  have B28 : But l ls H2 H8 := (B25.trans (But.of k6)).trans (But.of k68)
  have d8 : Dk H8 C l ls rr q n as ns tbl (N + 1300) := ⟨(S6.same k68).mono (by omega), k68 _ _ orr6, rl, rls, R6.but (But.of k68), tab6.same k68, on8, an.1, an.2, W, ltbl, nms⟩
  have ohd8 := B28 _ _ hdl hdls ohd
  have G8 := G2.but B28
  have out : ∀ a ∈ hs, a ∉ as := fun a ha h => by
    obtain ⟨i, hi, e⟩ := List.getElem_of_mem h
    obtain ⟨u, _, o, _⟩ := paired_get R (show as[i]? = some a by rw [List.getElem?_eq_getElem hi, e])
    have z := fr a ha
    rw [o] at z
    cases z
  have lhs : hs.length = tbl.length := Paired.length G8
  refine ⟨_, rfl, hd, rfl, ⟨_, SqL.of ohd8⟩, for_list (xs := hs.map V.ref) (fun i σ H' => Dk H' C l ls rr q n as ns tbl (N + 1300) ∧ H' hd = some (.lst (hs.map V.ref)) ∧ (∀ a ∈ hs, ∃ kvs, H' a = some (.dK kvs) ∧ kvs.length ≤ 10 + i) ∧
      ∃ s8, σ = [s0, some (.ref l), s2, some (.ref rr), some (.ref hd), some (.ref b), some (.ref q), some (.ref n), s8, s9, s10, s11, s12, s13, s14, s15])
    ⟨d8, ohd8, fun a ha => ?_, _, rfl⟩ (fun i σ H' _ h => SqL.of h.2.1) ?_ ?_⟩
  · obtain ⟨i, hi, e⟩ := List.getElem_of_mem ha
    obtain ⟨u, _, ⟨kvs, o, rd⟩, _⟩ := paired_get G8 (show hs[i]? = some a by rw [List.getElem?_eq_getElem hi, e])
    exact ⟨kvs, o, by rw [rd.size]; omega⟩
  · rintro i v σ H9 ev ⟨d9, ohd9, all9, s8', rfl⟩
    rw [List.getElem?_map] at ev
    obtain ⟨a, ea, rfl⟩ := Option.map_eq_some_iff.mp ev
    have ha := List.mem_of_getElem? ea
    have hi : i < hs.length := (List.getElem?_eq_some_iff.mp ea).1
    obtain ⟨kvs, oa, lk⟩ := all9 a ha
    refine ⟨_, rfl, a, _, rfl, DPut.k (k := Sum.inr (Str.ofString "late")) oa (by rw [sizeLine_eq]; omega), d9.updD oa (out a ha), ?_, fun c hc => ?_, _, rfl⟩
    · rw [upd_ne (ne_of ohd9 oa (by intro z; cases z))]
      exact ohd9
    · obtain ⟨kvc, oc, lc⟩ := all9 c hc
      by_cases e : c = a
      · subst e
        rw [oa] at oc
        cases oc
        exact ⟨_, upd_same, Nat.le_trans putK_len (by omega)⟩
      · exact ⟨kvc, by rw [upd_ne e]; exact oc, by omega⟩
  · rintro σ H9 ⟨d9, ohd9, all9, s8', rfl⟩
    exact fin H9 rr hd b q n _ as ns tbl d9
end
end L2.TB
namespace L2.TB
open PySem PySem.Spec PyProof.Rows
/-! the law: questions, rows, and what is told may change -/
theorem flat_dk (ns : List Str) (us : List Int) : ∀ p ∈ dk ns us, flatB p.2 = true := by
  intro p hp
  unfold dk at hp
  obtain ⟨q, _, rfl⟩ := List.mem_map.mp hp
  rfl
/-- two lists of rows alike -/
theorem rows_alike {H : Hp} {ns : List Str} {as bs : List Addr} {tbl : List (List Int)} (nd : ns.Nodup) (d1 : DRows H ns as tbl) (d2 : DRows H ns bs tbl) : as.length = bs.length ∧ ∀ (i : Nat) (c d : Addr), as[i]? = some c → bs[i]? = some d → ∃ kvs : List (Key × V), H c = some (.dK kvs) ∧ H d = some (.dK kvs) ∧ (kvs.map (·.1)).Nodup ∧ ∀ p ∈ kvs, flatB p.2 = true := by
  refine ⟨(Paired.length d1).trans (Paired.length d2).symm, fun i c d ec ed => ?_⟩
  obtain ⟨u, eu, oc, lu⟩ := paired_get d1 ec
  obtain ⟨v, ev, od, _⟩ := paired_get d2 ed
  rw [eu] at ev
  cases ev
  exact ⟨_, oc, od, dk_nd lu.symm nd, flat_dk _ _⟩
def nmD (ns : List Str) : PyData := .list (ns.map PyData.str)
theorem nmD_shape (ns : List Str) (ok : ∀ x ∈ ns, PyData.strOk x = true) : PyData.canLay0 (nmD ns) = true ∧ PyData.depth (nmD ns) = 1 := by
  obtain ⟨h1, h2⟩ := strs_shape ns ok
  unfold nmD
  exact ⟨by simp [PyData.canLay0, h1], by simp [PyData.depth, h2]⟩
theorem repD_shape (d : PyData) (h1 : PyData.canLay0 d = true) (h2 : PyData.depth d = 1) : ∀ k : Nat, PyData.canLayAll0 (List.replicate k d) = true ∧ PyData.depthAll (List.replicate k d) ≤ 1
  | 0 => ⟨by simp [PyData.canLayAll0], by simp [PyData.depthAll]⟩
  | k + 1 => by
    obtain ⟨g1, g2⟩ := repD_shape d h1 h2 k
    refine ⟨by simp [List.replicate_succ, PyData.canLayAll0, h1, g1], ?_⟩
    rw [List.replicate_succ, PyData.depthAll, h2]
    omega
theorem repD_shaped (ns : List Str) (ok : ∀ x ∈ ns, PyData.strOk x = true) (k : Nat) : SeqAt.shaped (.list (List.replicate k (nmD ns))) = true := by
  obtain ⟨h1, h2⟩ := repD_shape _ (nmD_shape ns ok).1 (nmD_shape ns ok).2 k
  unfold SeqAt.shaped
  have d : PyData.depth (.list (List.replicate k (nmD ns))) ≤ 2 := by
    rw [PyData.depth]
    omega
  simp [PyData.canLay0, h1]
  omega
theorem repD_eqvAll (ns : List Str) : ∀ k : Nat, PyData.eqvAll (List.replicate k (nmD ns)) (List.replicate k (nmD ns)) = true
  | 0 => by simp [PyData.eqvAll]
  | k + 1 => by
    rw [List.replicate_succ, PyData.eqvAll, repD_eqvAll ns k]
    have z : PyData.eqv (nmD ns) (nmD ns) = true := by
      unfold nmD
      rw [strs_eqv]
      simp
    rw [z]
    rfl
theorem repD_eqv (ns : List Str) (k : Nat) : PyData.eqv (.list (List.replicate k (nmD ns))) (.list (List.replicate k (nmD ns))) = true := by rw [PyData.eqv, repD_eqvAll]
theorem dpD_reps {K : PySem.W.Frag} {H : Hp} {ns : List Str} : ∀ ts : List Addr, (∀ t ∈ ts, H t = some (.lst (ns.map V.str))) → DpAll K H (ts.map V.ref) (List.replicate ts.length (nmD ns))
  | [], _ => .nil
  | t :: ts, h => .cons (dp_list (h t List.mem_cons_self)) (dpD_reps ts fun x hx => h x (List.mem_cons_of_mem _ hx))
theorem rep_flat {α : Type} (x : α) : ∀ k : Nat, (List.replicate k [x]).flatten = List.replicate k x
  | 0 => rfl
  | k + 1 => by rw [List.replicate_succ, List.flatten_cons, rep_flat x k]; rfl
/-- lists made anew, all alike -/
theorem lc_lists {J : It} {g : TG} {tt : TT} {te : TE} {vs : List Nat} {σ : St} {H1 : Hp} {Q : Addr → Hp → Prop} (n : Nat) (X : List V) (short : n < 1000000) (go : ∀ i H, Same H1 H → i < n → J.go i H) (stop : ∀ H, Same H1 H → J.stop n H)
    (turn : ∀ (i : Nat) (x : V) (H H' : Hp) (C : V → Hp → Prop) (N : Hp → Prop), i < n → Same H1 H → J.yld i H x H' → (∀ t H4, H t = none → H4 t = some (.lst X) → Same H H4 → C (.ref t) H4) → g x (wipe σ vs) H' fun σ2 H2 => wipe σ2 vs = wipe σ vs ∧ tt σ2 H2 fun b H3 => if b = true then te σ2 H3 C else N H3)
    (fin : ∀ H D ts, H1 D = none → H D = some (.lst ((ts : List Addr).map V.ref)) → ts.length = n → (∀ t ∈ ts, H t = some (.lst X)) → Same H1 H → Q D H) : LcW J g tt te vs σ H1 Q := by
  intro D nD
  refine ⟨fun i m H => m = n - i ∧ i ≤ n ∧ ∃ ts : List Addr, H D = some (.lst (ts.map V.ref)) ∧ ts.length = i ∧ (∀ t ∈ ts, t ≠ D ∧ H t = some (.lst X)) ∧ Same H1 H, ⟨_, rfl, Nat.zero_le _, [], upd_same, rfl, (fun t ht => by cases ht), same_new nD⟩, ?_⟩
  rintro i m H ⟨rfl, le, ts, oD, lt, ry, s1⟩
  by_cases lt' : i < n
  · refine .inr ⟨go i H s1 lt', fun H' => ∃ ts : List Addr, H' D = some (.lst (ts.map V.ref)) ∧ ts.length = i + 1 ∧ (∀ t ∈ ts, t ≠ D ∧ H' t = some (.lst X)) ∧ Same H1 H', fun H' h => ⟨n - (i + 1), by omega, rfl, lt', h⟩, fun x H' yl => ?_⟩
    refine turn i x H H' _ _ lt' s1 yl fun t H4 nt ot s4 => ⟨_, s4 _ _ oD, by rw [sizeLine_eq, List.length_map]; omega, ts ++ [t], by rw [upd_same]; simp, by simp [lt], fun u hu => ?_, ?_⟩
    · have ne : t ≠ D := fun z => by rw [z, oD] at nt; cases nt
      rcases List.mem_append.mp hu with h | h
      · exact ⟨(ry u h).1, by rw [upd_ne (ry u h).1]; exact s4 _ _ (ry u h).2⟩
      · rw [List.mem_singleton.mp h]
        exact ⟨ne, by rw [upd_ne ne]; exact ot⟩
    · intro b u e
      rw [upd_ne (ne_of_none e nD)]
      exact s4 _ _ (s1 _ _ e)
  · obtain rfl : i = n := by omega
    exact .inl ⟨stop H s1, fin H D ts nD oD lt (fun t ht => (ry t ht).2) s1⟩
section
variable {P : Program} {w : World} {K : PySem.W.Frag} {mg : Str → Option Value} {base : Heap} {f C fIn : Addr} {fd : FuncData}
theorem turn_b (L : LawK P w K mg base C fIn) {cdv : Value} {A : Around} {outer : List Env} {s : Shared} {H : Hp} {E : XK} (hr : Room 7 (A.deeper (envOfC "law" (defScope sLaw) s.heap.objs.size f cdv))) {rest : List Stmt} {u : TS} (hrest : PSs (cxOf CX0 P w K mg base NLw "law" (defScope sLaw) f cdv A outer s H E).nox rest u) :
    ∃ t, PSs (cxOf CX0 P w K mg base NLw "law" (defScope sLaw) f cdv A outer s H E).nox ((bodyT.drop 5).take 5 ++ rest) t ∧ ∀ (D : Ends) (H0 : Hp) (s0 s2 s4 s5 s8 s9 s10 s11 s12 s13 s14 s15 : Option V) (l ls r q n : Addr) (as : List Addr) (ns : List Str) (tbl : List (List Int)) (N : Int), Dk H0 C l ls r q n as ns tbl N →
      (∀ H' s9, Dk H' C l ls r q n as ns tbl N → u D [s0, some (.ref l), s2, some (.ref r), s4, s5, some (.ref q), some (.ref n), s8, s9, s10, s11, s12, s13, s14, s15] H') →
      t D [s0, some (.ref l), s2, some (.ref r), s4, s5, some (.ref q), some (.ref n), s8, s9, s10, s11, s12, s13, s14, s15] H0 := by
  obtain ⟨fS, fdS, gS, FS, GS⟩ := L.same
  have bS := FS.binds (ps := ["found", "due"]) fun _ _ _ _ _ _ us hl => match us, hl with | [_, _], _ => rfl
  obtain ⟨fR, fdR, mR, FR, GR⟩ := L.rowsM
  have bR := FR.binds (ps := ["self"]) fun _ _ _ _ _ _ us hl => match us, hl with | [_], _ => rfl
  obtain ⟨fQ, fdQ, mQ, FQ, GQ⟩ := L.qs
  have bQ := FQ.binds (ps := ["self"]) fun _ _ _ _ _ _ us hl => match us, hl with | [_], _ => rfl
  obtain ⟨fL, fdL, mL, FL, GL⟩ := L.len
  have bL := FL.binds (ps := ["self"]) fun _ _ _ _ _ _ us hl => match us, hl with | [_], _ => rfl
  have T := L.T
  have nd := scLaw.nd
  have hu := hu_of hr
  have hu64 := hr.units
  refine ⟨_, pss_cons (ps_if (pt_not (pt_val (pe_call GS (hr.mono (by decide)) rfl gS FS.kp bS .nil pass0 (pa_cons (pe_lst (pa_cons (pe_meth0 (pv 6) T.cl mQ GQ (hr.mono (by decide)) bQ .nil pass0) (pa_cons (pe_callB (call_lenI (E := E0) GL (hr.mono (by decide)) mL bL pass0) rfl L.M.nN boot_len (pa_cons (pv 6) pa_nil)) pa_nil)))
        (pa_cons (pe_lst (pa_cons (pv 7) (pa_cons (pe_callB call_len rfl L.M.nN boot_len (pa_cons (pv 3) pa_nil)) pa_nil))) pa_nil))))) (pss_one ps_never) pss_nil)
    (pss_cons (ps_if (PW.pt (pw_or (pt_cmpR (op_neLD hu64) (pe_meth0 (pv 6) T.cl mR GR (hr.mono (by decide)) bR .nil pass0) (pv 3) (nomark _))
        (pw_or1 (pt_cmpR (op_neD hu64) (pe_lc (own := [("row", 8)]) (tt := tYes) (g := gName 8) rfl nd (pi_list (pe_meth0 (pv 6) T.cl mR GR (hr.mono (by decide)) bR .nil pass0)) (blkOk_by (N := NLw) (sc := defScope sLaw) (by decide +kernel)) (fun _ _ _ _ _ => pg_name (i := 8) nd rfl (Or.inl rfl)) (fun _ _ _ _ _ => pts_nil)
            (fun _ _ _ _ _ => pe_callTy (call_listD rfl) rfl L.M.nL boot_list' (pa_cons (pv 8) pa_nil))) (pe_op op_rep (pe_lst (pa_cons (pv 7) pa_nil)) (pe_callB call_len rfl L.M.nN boot_len (pa_cons (pv 3) pa_nil))) (nomark _))))) (pss_one ps_never) pss_nil)
    (pss_cons (ps_set (i := 9) nd rfl (Or.inl rfl) (pe_meth0 (pv 6) T.cl mR GR (hr.mono (by decide)) bR .nil pass0))
    (pss_cons (ps_dput hu (pe_ix ix_list (pv 9) pe_int (fun _ _ => rfl)) pe_str pe_int rfl)
    (pss_cons (ps_expr (pe_bm PySem.F.plainAttrs_list PySem.F.slot_list_append PySem.F.type_list_append mt_append (pe_meth0 (pv 6) T.cl mQ GQ (hr.mono (by decide)) bQ .nil pass0) (pa_cons pe_str pa_nil))) hrest)))), ?_⟩
  intro D H0 s0 s2 s4 s5 s8 s9 s10 s11 s12 s13 s14 s15 l ls r q n as ns tbl N d fin
  have W := d.W
  have w1 := W.l1
  have few := d.few
  have nnd := W.nd
  have tok : ∀ x ∈ ns, PyData.strOk x = true := fun x hx => nm_strOk (W.ok x hx)
  have las : as.length = tbl.length := Paired.length d.D
  have pos : 0 < tbl.length := List.length_pos_iff.mpr W.t
  -- questions and len
  obtain ⟨dx, _, _, h0, _, _⟩ := id d.tab.ex
  refine ⟨_, rfl, q, dx, _, rfl, h0, rfl, q, ns, tbl, rfl, d.tab, fun H1 m nm om k1 => ?_⟩
  have d1 := d.same k1
  obtain ⟨dx1, _, _, h1, _, _⟩ := id d1.tab.ex
  refine ⟨_, rfl, q, dx1, _, rfl, h1, ⟨q, ns, tbl, rfl, d1.tab, by omega, _, rfl, ⟨by omega, by omega⟩, ?_⟩⟩
  refine ⟨(by rw [sizeLine_eq]; show 2 ≤ _; omega), fun t nt => ?_⟩
  have kt := same_new (o := .lst [V.ref m, V.int (tbl.length : Nat)]) nt
  have ot : upd H1 t (.lst [V.ref m, V.int (tbl.length : Nat)]) t = some (.lst [V.ref m, V.int (tbl.length : Nat)]) := upd_same
  have om2 := kt _ _ om
  have d2 := d1.same kt
  generalize upd H1 t (.lst [V.ref m, V.int (tbl.length : Nat)]) = H2 at ot om2 d2
  refine ⟨_, rfl, _, rfl, _, (as.map V.ref).length, rfl, .inl ⟨_, SqL.of d2.orr, rfl⟩, (by rw [sizeLine_eq]; show 2 ≤ _; omega), fun t2 nt2 => ?_⟩
  have kt2 := same_new (o := .lst [V.ref n, V.int ((as.map V.ref).length : Nat)]) nt2
  have al : Alk (upd H2 t2 (.lst [V.ref n, V.int ((as.map V.ref).length : Nat)])) 2 (.ref t) (.ref t2) := by
    refine .lst (kt2 _ _ ot) upd_same rfl (by show 2 < 1000; decide) fun i x y ex ey => ?_
    match i, ex, ey with
    | 0, ex, ey =>
      obtain rfl := Option.some.inj ex
      obtain rfl := Option.some.inj ey
      exact alk_strs (kt2 _ _ om2) (kt2 _ _ d2.on) (by omega)
    | 1, ex, ey =>
      obtain rfl := Option.some.inj ex
      obtain rfl := Option.some.inj ey
      rw [List.length_map, las]
      exact .up (.int _)
    | i + 2, ex, _ => cases ex
  refine ⟨_, _, rfl, al, fun H3 k3 => ⟨_, rfl, iteF ?_⟩⟩
  have d3 := d2.same (kt2.trans k3)
  -- rows
  obtain ⟨dx3, _, _, h3, _, _⟩ := id d3.tab.ex
  refine ⟨_, rfl, q, dx3, _, rfl, h3, rfl, q, ns, tbl, rfl, d3.tab, nnd, by omega, by omega, fun H4 q1 as1 nq1 oq1 rows1 _ k4 => ?_⟩
  have d4 := d3.same k4
  obtain ⟨len1, alike1⟩ := rows_alike nnd rows1 d4.D
  refine ⟨_, rfl, q1, r, as1, as, rfl, rfl, oq1, d4.orr, len1, alike1, _, rfl, iteF ?_⟩
  obtain ⟨dx4, _, _, h4, _, _⟩ := id d4.tab.ex
  refine ⟨_, rfl, q, dx4, _, rfl, h4, rfl, q, ns, tbl, rfl, d4.tab, nnd, by omega, by omega, fun H5 q2 as2 nq2 oq2 rows2 _ k5 => ?_⟩
  have d5 := d4.same k5
  have las2 : as2.length = tbl.length := Paired.length rows2
  refine ⟨q2, rfl, ⟨_, SqL.of oq2⟩, lc_lists tbl.length (ns.map V.str) (by omega) (fun i H' k lt => ⟨_, _, SqL.of (k _ _ oq2), List.getElem?_eq_getElem (by rw [List.length_map]; omega)⟩) (fun H' k => ⟨_, SqL.of (k _ _ oq2), by rw [List.length_map]; omega⟩) ?_ ?_⟩
  · rintro i x H6 H7 Cn Nn lt s6 ⟨rfl, ex⟩ yes
    have ex := ex _ (SqL.of (s6 _ _ oq2))
    rw [List.getElem?_map] at ex
    obtain ⟨a, ea, rfl⟩ := Option.map_eq_some_iff.mp ex
    obtain ⟨us, eu, oa, lu⟩ := paired_get (rows2.same s6) ea
    refine ⟨rfl, ?_⟩
    refine ⟨_, rfl, a, _, rfl, .inl oa, fun t nt => ?_⟩
    have ek : ((dk ns us).map fun kv => kV kv.1) = ns.map V.str := by
      have z := congrArg (List.map kV) (dk_keys lu.symm)
      rw [List.map_map, List.map_map] at z
      exact z
    rw [ek]
    exact yes _ _ nt upd_same (same_new nt)
  intro H6 D6 ts nD6 oD6 lts all6 k6
  have d6 := d5.same k6
  refine ⟨_, rfl, (by rw [sizeLine_eq]; show 1 ≤ _; omega), fun t3 nt3 => ?_⟩
  have kt3 := same_new (o := .lst [V.ref n]) nt3
  have ot3 : upd H6 t3 (.lst [V.ref n]) t3 = some (.lst [V.ref n]) := upd_same
  have d7 := d6.same kt3
  have oD7 := kt3 _ _ oD6
  have all7 : ∀ t ∈ ts, upd H6 t3 (.lst [V.ref n]) t = some (.lst (ns.map V.str)) := fun t ht => kt3 _ _ (all6 t ht)
  generalize upd H6 t3 (.lst [V.ref n]) = H7 at ot3 d7 oD7 all7
  refine ⟨_, rfl, _, (as.map V.ref).length, rfl, .inl ⟨_, SqL.of d7.orr, rfl⟩, t3, _, _, rfl, rfl, ot3, by omega, by rw [List.length_map]; omega, (by rw [sizeLine_eq, List.length_map]; show 1 * _ ≤ _; omega), fun p np => ?_⟩
  have ek : ((((as.map V.ref).length : Nat) : Int)).toNat = tbl.length := by rw [List.length_map]; omega
  rw [ek, rep_flat]
  have kp := same_new (o := .lst (List.replicate tbl.length (V.ref n))) np
  have d8 := d7.same kp
  have e1 : DpAll K (upd H7 p (.lst (List.replicate tbl.length (V.ref n)))) (ts.map V.ref) (List.replicate tbl.length (nmD ns)) := by
    have z := dpD_reps (K := K) (H := upd H7 p (.lst (List.replicate tbl.length (V.ref n)))) ts fun t ht => kp _ _ (all7 t ht)
    rw [lts] at z
    exact z
  have e2 : DpAll K (upd H7 p (.lst (List.replicate tbl.length (V.ref n)))) (List.replicate tbl.length (V.ref n)) (List.replicate tbl.length (nmD ns)) := by
    have z := dpD_reps (K := K) (H := upd H7 p (.lst (List.replicate tbl.length (V.ref n)))) (List.replicate tbl.length n) fun t ht => by
      rw [List.eq_of_mem_replicate ht]
      exact d8.on
    rw [List.length_replicate, List.map_replicate] at z
    exact z
  refine ⟨_, _, .lst (SqL.of (kp _ _ oD7)) e1, .lst (SqL.of upd_same) e2, repD_shaped ns tok _, repD_shaped ns tok _, _, rfl, ?_⟩
  rw [repD_eqv]
  refine iteF ?_
  generalize upd H7 p (.lst (List.replicate tbl.length (V.ref n))) = H8 at d8
  -- what is told may change
  obtain ⟨dx8, _, _, h8, _, _⟩ := id d8.tab.ex
  refine ⟨_, rfl, q, dx8, _, rfl, h8, rfl, q, ns, tbl, rfl, d8.tab, nnd, by omega, by omega, fun H9 q3 as3 nq3 oq3 rows3 fresh3 k9 => ?_⟩
  have las3 : as3.length = tbl.length := Paired.length rows3
  obtain ⟨a3, ea3⟩ : ∃ a3, as3[0]? = some a3 := ⟨as3[0]'(by omega), List.getElem?_eq_getElem _⟩
  obtain ⟨us3, eu3, oa3, lu3⟩ := paired_get rows3 ea3
  have at3' : atI (as3.map V.ref) ((0 : Nat) : Int) = some (.ref a3) := atI_nat (by rw [List.getElem?_map, ea3]; rfl)
  refine ⟨_, rfl, _, _, _, _, rfl, rfl, SqL.of oq3, at3', a3, _, rfl, DPut.k (k := Sum.inr (Str.ofString "late")) oa3 (by rw [sizeLine_eq, dk_len lu3]; omega), ?_⟩
  have na3 := fresh3 a3 (List.mem_of_getElem? ea3)
  have k10 : Same H8 (upd H9 a3 (.dK (putK (dk ns us3) (Sum.inr (Str.ofString "late")) (.int 1)))) := fun b o e => by rw [upd_ne (ne_of_none e na3)]; exact k9 _ _ e
  have d10 := d8.same k10
  generalize upd H9 a3 (.dK (putK (dk ns us3) (Sum.inr (Str.ofString "late")) (.int 1))) = H10 at d10
  obtain ⟨dx10, _, _, h10, _, _⟩ := id d10.tab.ex
  refine ⟨_, rfl, q, dx10, _, rfl, h10, rfl, q, ns, tbl, rfl, d10.tab, fun H11 m2 nm2 om2 k11 => ?_⟩
  refine ⟨.inl ⟨rfl, _, SqL.of om2⟩, m2, _, _, rfl, rfl, om2, (by rw [sizeLine_eq, List.length_map]; omega), ?_⟩
  have k12 : Same H10 (upd H11 m2 (.lst (ns.map V.str ++ [V.str (Str.ofString "late")]))) := fun b o e => by rw [upd_ne (ne_of_none e nm2)]; exact k11 _ _ e
  exact fin _ _ (d10.same k12)
end
end L2.TB
namespace L2.TB
open PySem PySem.Spec PyProof.Rows
/-! the law: answers -/
section
variable {P : Program} {w : World} {K : PySem.W.Frag} {mg : Str → Option Value} {base : Heap} {f C fIn : Addr} {fd : FuncData}
theorem turn_c (L : LawK P w K mg base C fIn) {cdv : Value} {A : Around} {outer : List Env} {s : Shared} {H : Hp} {E : XK} (hr : Room 7 (A.deeper (envOfC "law" (defScope sLaw) s.heap.objs.size f cdv))) {rest : List Stmt} {u : TS} (hrest : PSs (cxOf CX0 P w K mg base NLw "law" (defScope sLaw) f cdv A outer s H E).nox rest u) :
    ∃ t, PSs (cxOf CX0 P w K mg base NLw "law" (defScope sLaw) f cdv A outer s H E).nox ((bodyT.drop 10).take 1 ++ rest) t ∧ ∀ (D : Ends) (H0 : Hp) (s0 s2 s4 s5 s8 s9 s10 s11 s12 s13 s14 s15 : Option V) (l ls r q n : Addr) (as : List Addr) (ns : List Str) (tbl : List (List Int)) (N : Int), Dk H0 C l ls r q n as ns tbl N → N ≤ 500000 →
      (∀ H' s8 s9, Dk H' C l ls r q n as ns tbl (N + 5000) → u D [s0, some (.ref l), s2, some (.ref r), s4, s5, some (.ref q), some (.ref n), s8, s9, s10, s11, s12, s13, s14, s15] H') →
      t D [s0, some (.ref l), s2, some (.ref r), s4, s5, some (.ref q), some (.ref n), s8, s9, s10, s11, s12, s13, s14, s15] H0 := by
  obtain ⟨fU, fdU, gU, FU, GU⟩ := L.turned
  have bU := FU.binds (ps := ["stream", "rows"]) fun _ _ _ _ _ _ us hl => match us, hl with | [_, _], _ => rfl
  obtain ⟨fA, fdA, mA, FA, GA⟩ := L.answers
  have bA := FA.binds (ps := ["self", "world"]) fun _ _ _ _ _ _ us hl => match us, hl with | [_, _], _ => rfl
  have T := L.T
  have nd := scLaw.nd
  have hu := hu_of hr
  have hu64 := hr.units
  have hu1 : (A.deeper (envOfC "law" (defScope sLaw) s.heap.objs.size f cdv)).units < cLine := by omega
  refine ⟨_, pss_cons (ps_for PassesOwn.never rfl (pi_list (pv 3)) (pg_name (i := 8) nd rfl (Or.inl rfl))
      (pss_cons (ps_set (i := 9) nd rfl (Or.inl rfl) (pe_meth (pv 6) T.cl mA GA (hr.mono (by decide)) bA .nil pass0 (pa_cons (pe_ix ix_list (pe_call GU (hr.mono (by decide)) rfl gU FU.kp bU .nil pass0 (pa_cons (pv 1) (pa_cons (pe_lst (pa_cons (pv 8) (pa_cons (pv 8) pa_nil))) pa_nil))) pe_int (fun _ _ => rfl)) pa_nil)))
      (pss_cons (ps_if (PW.pt (pw_or (pt_cmpR (op_ne_dictA hu1) (pv 9) (pv 8) (nomark _)) (pw_or1 (pt_cmpR (op_neD hu64) (pe_callTy (call_listD rfl) rfl L.M.nL boot_list' (pa_cons (pv 9) pa_nil)) (pv 7) (nomark _))))) (pss_one ps_never) pss_nil)
      (pss_one (ps_dput hu (pv 9) pe_str pe_int rfl))))) hrest, ?_⟩
  intro D H0 s0 s2 s4 s5 s8 s9 s10 s11 s12 s13 s14 s15 l ls r q n as ns tbl N d hN fin
  have W := d.W
  have w1 := W.l1
  have few := d.few
  have nnd := W.nd
  have tok : ∀ x ∈ ns, PyData.strOk x = true := fun x hx => nm_strOk (W.ok x hx)
  have las : as.length = tbl.length := Paired.length d.D
  refine ⟨_, rfl, r, rfl, ⟨_, SqL.of d.orr⟩, for_list (xs := as.map V.ref) (fun i σ H' => Dk H' C l ls r q n as ns tbl (N + 250 * i) ∧ ∃ s8 s9, σ = [s0, some (.ref l), s2, some (.ref r), s4, s5, some (.ref q), some (.ref n), s8, s9, s10, s11, s12, s13, s14, s15])
    ⟨by simpa using d, _, _, rfl⟩ (fun i σ H' _ h => SqL.of h.1.orr) ?_ ?_⟩
  · rintro i v σ H1 ev ⟨d1, t8, t9, rfl⟩
    rw [List.getElem?_map] at ev
    obtain ⟨a, ea, rfl⟩ := Option.map_eq_some_iff.mp ev
    obtain ⟨us, eu, oa, lu, al, als⟩ := paired_get d1.R ea
    have hi : i < tbl.length := (List.getElem?_eq_some_iff.mp eu).1
    have hi2 : (i : Int) < 20 := by omega
    obtain ⟨dx1, _, _, h1, _, _⟩ := id d1.tab.ex
    refine ⟨_, rfl, q, dx1, _, rfl, h1, rfl, _, rfl, _, rfl, _, rfl, (by rw [sizeLine_eq]; show 2 ≤ _; omega), fun c nc => ?_⟩
    have kc := same_new (o := .lst [V.ref a, V.ref a]) nc
    have oc : upd H1 c (.lst [V.ref a, V.ref a]) c = some (.lst (([a, a] : List Addr).map V.ref)) := upd_same
    have d2 := d1.same kc
    have ac := d1.S.apart (Same.refl _) nc
    have oa2 := kc _ _ oa
    generalize upd H1 c (.lst [V.ref a, V.ref a]) = H2 at oc d2 oa2
    refine ⟨l, ls, c, [a, a], ns, [us, us], _, rfl, d2.S, by omega, oc, ac.1, ac.2, .cons ⟨oa2, lu, al, als⟩ (.cons ⟨oa2, lu, al, als⟩ .nil), ⟨nnd, W.ne, W.ok, W.l1, by show 2 ≤ 100; decide, by simp⟩, by show 2 ≤ 20; decide, fun H3 m hs nm ml mls om G3 _ _ S3 B3 => ?_⟩
    obtain ⟨x1, x2, rfl⟩ : ∃ x1 x2, hs = [x1, x2] := by
      have lh : hs.length = 2 := Paired.length G3
      match hs, lh with
      | [x1, x2], _ => exact ⟨x1, x2, rfl⟩
    obtain ⟨u2, eu2, ⟨kvs, ox, rd⟩, _⟩ := paired_get G3 (show ([x1, x2] : List Addr)[1]? = some x2 from rfl)
    cases (show u2 = us from (Option.some.inj eu2).symm)
    have d3 := d2.but S3 B3
    refine ⟨_, _, _, .ref x2, rfl, rfl, SqL.of om, rfl, ?_⟩
    refine ⟨q, x2, ns, tbl, kvs, us, rfl, d3.tab, nnd, by omega, ox, rd, List.mem_of_getElem? eu, fun H4 t nt ot k4 => ?_⟩
    have d4 := d3.same k4
    obtain ⟨us4, eu4, oa4, lu4, _⟩ := paired_get d4.R ea
    rw [eu] at eu4
    cases eu4
    refine ⟨_, rfl, _, rfl, t, a, _, _, rfl, rfl, ot, oa4, rfl, fun p hp => ⟨val_at _ _ _ (dk_nd lu.symm nnd) hp, flat_dk _ _ p hp⟩, _, rfl, iteF ?_⟩
    refine ⟨_, rfl, t, _, rfl, .inl ot, fun m2 nm2 => ?_⟩
    have ek : ((dk ns us).map fun kv => kV kv.1) = ns.map V.str := by
      have z := congrArg (List.map kV) (dk_keys lu.symm)
      rw [List.map_map, List.map_map] at z
      exact z
    rw [ek]
    have km := same_new (o := .lst (ns.map V.str)) nm2
    have om2 : upd H4 m2 (.lst (ns.map V.str)) m2 = some (.lst (ns.map V.str)) := upd_same
    have k34 := k4.trans km
    have d5 := d4.same km
    have ot5 := km _ _ ot
    generalize upd H4 m2 (.lst (ns.map V.str)) = H5 at om2 k34 d5 ot5
    refine ⟨_, rfl, _, _, dp_list om2, dp_list d5.on, strs_shaped _ tok, strs_shaped _ tok, _, rfl, ?_⟩
    rw [strs_eqv, decide_eq_true rfl]
    refine iteF ⟨_, rfl, t, _, rfl, DPut.k (k := Sum.inr (Str.ofString "late")) ot5 (by rw [sizeLine_eq, dk_len lu]; omega), ?_, _, _, rfl⟩
    have k36 : Same H3 (upd H5 t (.dK (putK (dk ns us) (Sum.inr (Str.ofString "late")) (.int 1)))) := fun b o e => by rw [upd_ne (ne_of_none e nt)]; exact k34 _ _ e
    have d6 := d3.same k36
    exact ⟨d6.S.mono (by omega), d6.orr, d6.rl, d6.rls, d6.R, d6.tab, d6.on, d6.nl, d6.nls, d6.W, d6.few, d6.nms⟩
  · rintro σ H1 ⟨d1, t8, t9, rfl⟩
    exact fin _ _ _ ⟨d1.S.mono (by rw [List.length_map]; omega), d1.orr, d1.rl, d1.rls, d1.R, d1.tab, d1.on, d1.nl, d1.nls, d1.W, d1.few, d1.nms⟩
end
end L2.TB
namespace L2.TB
open PySem PySem.Spec PyProof.Rows
/-! the law: what is left, fewer questions, more rows -/
section
variable {P : Program} {w : World} {K : PySem.W.Frag} {mg : Str → Option Value} {base : Heap} {f C fIn : Addr} {fd : FuncData}
theorem turn_d (L : LawK P w K mg base C fIn) {cdv : Value} {A : Around} {outer : List Env} {s : Shared} {H : Hp} {E : XK} (hr : Room 7 (A.deeper (envOfC "law" (defScope sLaw) s.heap.objs.size f cdv))) {rest : List Stmt} {u : TS} (hrest : PSs (cxOf CX0 P w K mg base NLw "law" (defScope sLaw) f cdv A outer s H E).nox rest u) :
    ∃ t, PSs (cxOf CX0 P w K mg base NLw "law" (defScope sLaw) f cdv A outer s H E).nox ((bodyT.drop 11).take 3 ++ rest) t ∧ ∀ (D : Ends) (H0 : Hp) (s0 s2 s4 s5 s8 s9 s10 s11 s12 s13 s14 s15 : Option V) (l ls r q n : Addr) (as : List Addr) (ns : List Str) (tbl : List (List Int)) (N : Int), Dk H0 C l ls r q n as ns tbl N → N ≤ 600000 →
      (∀ H' s10, Dk H' C l ls r q n as ns tbl (N + 1000) → u D [s0, some (.ref l), s2, some (.ref r), s4, s5, some (.ref q), some (.ref n), s8, s9, s10, s11, s12, s13, s14, s15] H') →
      t D [s0, some (.ref l), s2, some (.ref r), s4, s5, some (.ref q), some (.ref n), s8, s9, s10, s11, s12, s13, s14, s15] H0 := by
  obtain ⟨fE, fdE, gE, FE, GE⟩ := L.leftR
  have bE := FE.binds (ps := ["stream", "table", "rows"]) fun _ _ _ _ _ _ us hl => match us, hl with | [_, _, _], _ => rfl
  obtain ⟨fO, fdO, gO, FO, GO⟩ := L.sm
  have bO := FO.binds (ps := ["stream", "names"]) fun _ _ _ _ _ _ us hl => match us, hl with | [_, _], _ => rfl
  obtain ⟨fY, fdY, gY, FY, GY⟩ := L.onlyR
  have bY := FY.binds (ps := ["stream", "table", "rows", "some"]) fun _ _ _ _ _ _ us hl => match us, hl with | [_, _, _, _], _ => rfl
  have T := L.T
  have nd := scLaw.nd
  have hu := hu_of hr
  have hu64 := hr.units
  refine ⟨_, pss_cons (ps_if (PW.pt (pw_or (pt_not (pt_val (pe_call GE (hr.mono (by decide)) rfl gE FE.kp bE .nil pass0 (pa_cons (pv 1) (pa_cons (pv 6) (pa_cons (pv 3) pa_nil)))))) (pw_or1 (pt_not (pt_val (pe_call GE (hr.mono (by decide)) rfl gE FE.kp bE .nil pass0 (pa_cons (pv 1) (pa_cons (pv 6) (pa_cons (pv 3) pa_nil))))))))) (pss_one ps_never) pss_nil)
    (pss_cons (ps_set (i := 10) nd rfl (Or.inl rfl) (pe_call GO (hr.mono (by decide)) rfl gO FO.kp bO .nil pass0 (pa_cons (pv 1) (pa_cons (pv 7) pa_nil))))
    (pss_cons (ps_if (PW.pt (pw_and (pt_cmpR (op_neD hu64) (pv 10) (pe_lst pa_nil) (nomark _)) (pw_and1 (pt_not (pt_val (pe_call GY (hr.mono (by decide)) rfl gY FY.kp bY .nil pass0 (pa_cons (pv 1) (pa_cons (pv 6) (pa_cons (pv 3) (pa_cons (pv 10) pa_nil)))))))))) (pss_one ps_never) pss_nil) hrest)), ?_⟩
  intro D H0 s0 s2 s4 s5 s8 s9 s10 s11 s12 s13 s14 s15 l ls r q n as ns tbl N d hN fin
  have W := d.W
  have w1 := W.l1
  have few := d.few
  have nnd := W.nd
  have tok : ∀ x ∈ ns, PyData.strOk x = true := fun x hx => nm_strOk (W.ok x hx)
  have las : as.length = tbl.length := Paired.length d.D
  -- left, twice
  refine ⟨_, rfl, _, rfl, _, rfl, l, ls, q, r, as, ns, tbl, N, rfl, d.S, by omega, d.orr, d.rl, d.rls, d.R, d.tab, W, few, fun H1 S1 B1 => ⟨_, rfl, iteF ?_⟩⟩
  have d1 := d.but S1 B1
  refine ⟨_, rfl, _, rfl, _, rfl, l, ls, q, r, as, ns, tbl, _, rfl, d1.S, by omega, d1.orr, d1.rl, d1.rls, d1.R, d1.tab, W, few, fun H2 S2 B2 => ⟨_, rfl, iteF ?_⟩⟩
  have d2 := d1.but S2 B2
  -- some questions
  refine ⟨_, rfl, _, rfl, l, ls, n, ns.map V.str, _, rfl, d2.S, by omega, d2.on, d2.nl, d2.nls, by rw [List.length_map]; omega, fun H3 c ws vs pm nc oc S3 B3 => ?_⟩
  have ac := d2.S.apart (Same.refl _) nc
  have yin : ∀ y ∈ ws, ∃ x, y = V.str x := fun y hy => by
    have z : y ∈ ns.map V.str := pm.mem_iff.mp (List.mem_append_left _ hy)
    obtain ⟨x, _, rfl⟩ := List.mem_map.mp z
    exact ⟨x, rfl⟩
  obtain ⟨known, rfl⟩ := strs_of ws yin
  have ndall : (known.map V.str ++ vs).Nodup := pm.nodup_iff.mpr (List.Pairwise.map V.str (fun a b h e => h (V.str.inj e)) nnd)
  have knd : known.Nodup := by
    have z := (List.nodup_append.mp ndall).1
    exact (List.pairwise_map.mp z).imp fun h e => h (congrArg V.str e)
  have sub : ∀ x ∈ known, x ∈ ns := fun x hx => by
    have z : V.str x ∈ ns.map V.str := pm.mem_iff.mp (List.mem_append_left _ (List.mem_map_of_mem hx))
    obtain ⟨y, hy, e⟩ := List.mem_map.mp z
    exact V.str.inj e ▸ hy
  have d3 := d2.but S3 B3
  have tok2 : ∀ x ∈ known, PyData.strOk x = true := fun x hx => tok x (sub x hx)
  refine ⟨_, rfl, Nat.zero_le _, fun e0 ne0 => ?_⟩
  have ke := same_new (o := .lst []) ne0
  have oe : upd H3 e0 (.lst []) e0 = some (.lst (([] : List Str).map V.str)) := upd_same
  have d4 := d3.same ke
  have oc4 := ke _ _ oc
  generalize upd H3 e0 (.lst []) = H4 at oe d4 oc4
  refine ⟨_, _, dp_list oc4, dp_list oe, strs_shaped _ tok2, strs_shaped _ (fun x hx => by cases hx), _, rfl, ?_⟩
  rw [strs_eqv]
  by_cases kz : known = []
  · rw [decide_eq_true kz]
    exact iteF (iteF (fin _ _ (d4.but (d4.S.mono (by omega)) (But.refl _ _ _))))
  · rw [decide_eq_false kz]
    refine iteT ?_
    refine ⟨_, rfl, _, rfl, _, rfl, _, rfl, l, ls, q, r, c, as, ns, known, tbl, _, rfl, d4.S, by omega, d4.orr, d4.rl, d4.rls, d4.R, d4.tab, W, few, oc4, ac.1, ac.2, knd, sub, kz, fun H5 S5 B5 => ⟨_, rfl, iteF ?_⟩⟩
    exact fin _ _ (d4.but (S5.mono (by omega)) B5)
end
end L2.TB
namespace L2.TB
open PySem PySem.Spec PyProof.Rows
/-! the law: more rows -/
section
variable {P : Program} {w : World} {K : PySem.W.Frag} {mg : Str → Option Value} {base : Heap} {f C fIn : Addr} {fd : FuncData}
theorem turn_e (L : LawK P w K mg base C fIn) {cdv : Value} {A : Around} {outer : List Env} {s : Shared} {H : Hp} {E : XK} (hr : Room 7 (A.deeper (envOfC "law" (defScope sLaw) s.heap.objs.size f cdv))) {rest : List Stmt} {u : TS} (hrest : PSs (cxOf CX0 P w K mg base NLw "law" (defScope sLaw) f cdv A outer s H E).nox rest u) :
    ∃ t, PSs (cxOf CX0 P w K mg base NLw "law" (defScope sLaw) f cdv A outer s H E).nox ((bodyT.drop 14).take 3 ++ rest) t ∧ ∀ (D : Ends) (H0 : Hp) (s0 s2 s4 s5 s8 s9 s10 s11 s12 s13 s14 s15 : Option V) (l ls r q n : Addr) (as : List Addr) (ns : List Str) (tbl : List (List Int)) (N : Int), Dk H0 C l ls r q n as ns tbl N → N ≤ 600000 →
      (∀ H' s11 s12 s13, Dk H' C l ls r q n as ns tbl (N + 100) → u D [s0, some (.ref l), s2, some (.ref r), s4, s5, some (.ref q), some (.ref n), s8, s9, s10, s11, s12, s13, s14, s15] H') →
      t D [s0, some (.ref l), s2, some (.ref r), s4, s5, some (.ref q), some (.ref n), s8, s9, s10, s11, s12, s13, s14, s15] H0 := by
  obtain ⟨fD, fdD, gD, FD⟩ := L.draw
  have GD : FnOk P w K mg base CX0 1 fD fdD ["stream", "many"] spDraw := ok_draw FD L.M.nInt
  have bD := FD.binds (ps := ["stream", "many"]) fun _ _ _ _ _ _ us hl => match us, hl with | [_, _], _ => rfl
  obtain ⟨fdI, FI, GI⟩ := L.init
  have bI := FI.binds (ps := ["self", "rows"]) fun _ _ _ _ _ _ us hl => match us, hl with | [_, _], _ => rfl
  obtain ⟨fA, fdA, mA, FA, GA⟩ := L.add
  have bA := FA.binds (ps := ["self", "other"]) fun _ _ _ _ _ _ us hl => match us, hl with | [_, _], _ => rfl
  obtain ⟨fR, fdR, mR, FR, GR⟩ := L.rowsM
  have bR := FR.binds (ps := ["self"]) fun _ _ _ _ _ _ us hl => match us, hl with | [_], _ => rfl
  have T := L.T
  have nd := scLaw.nd
  have hu := hu_of hr
  have hu64 := hr.units
  refine ⟨_, pss_cons (ps_set (i := 11) nd rfl (Or.inl rfl) (pe_lst pa_nil))
    (pss_cons (ps_for PassesOwn.never rfl (pi_range1 rfl L.nR (pa_cons (pe_op op_add pe_int (pe_call GD (hr.mono (by decide)) rfl gD FD.kp bD .nil pass0 (pa_cons (pv 1) (pa_cons pe_int pa_nil)))) pa_nil)) (pg_name (i := 12) nd rfl (Or.inl rfl))
      (pss_one (ps_expr (pe_bm PySem.F.plainAttrs_list PySem.F.slot_list_append PySem.F.type_list_append mt_append (pv 11) (pa_cons (pe_callTy (call_dictP rfl) rfl L.nD (by decide +kernel) (pa_cons (pe_lc (own := [("name", 13)]) (tt := tYes) rfl nd (pi_list (pv 7)) (blkOk_by (N := NLw) (sc := defScope sLaw) (by decide +kernel))
        (fun _ _ _ _ _ => pg_name (i := 13) nd rfl (Or.inl rfl)) (fun _ _ _ _ _ => pts_nil) (fun _ _ _ _ _ => pe_tup (pa_cons (pv 13) (pa_cons (pe_call GD (hr.mono (by decide)) rfl gD FD.kp bD .nil pass0 (pa_cons (pv 1) (pa_cons pe_int pa_nil))) pa_nil)))) pa_nil)) pa_nil)))))
    (pss_cons (ps_if (pt_cmpR (op_neLD hu64) (pe_meth0 (pe_op (op_addI (E := E0) GA (hr.mono (by decide)) mA L.sf bA pass0) (pv 6) (pe_make L.made GI (hr.mono (by decide)) rfl L.gC bI .nil pass0 (pa_cons (pv 11) pa_nil))) T.cl mR GR (hr.mono (by decide)) bR .nil pass0) (pe_op op_cat (pv 3) (pv 11)) (nomark _)) (pss_one ps_never) pss_nil) hrest)), ?_⟩
  intro D H0 s0 s2 s4 s5 s8 s9 s10 s11 s12 s13 s14 s15 l ls r q n as ns tbl N d hN fin
  have W := d.W
  have w1 := W.l1
  have few := d.few
  have nnd := W.nd
  have las : as.length = tbl.length := Paired.length d.D
  refine ⟨Nat.zero_le _, fun mo nq => ?_⟩
  have aq := d.S.apart (Same.refl _) nq
  have k3 := same_new (o := .lst []) nq
  refine ⟨_, rfl, l, ls, 3, _, rfl, d.S.same k3, by omega, by decide, by decide, fun H3 r' r0' r1' S3 B3 => ?_⟩
  have B23 : But l ls H0 H3 := (But.of k3).trans B3
  have oq3 := B3 _ _ aq.1 aq.2 (upd_same (H := H0) (a := mo) (o := .lst []))
  refine ⟨_, _, rfl, rfl, 1 + r', rfl, by omega, by omega, for_range (n := (1 + r').toNat) (fun i σ H' => (∃ bs t2, H' mo = some (.lst ((bs : List Addr).map V.ref)) ∧ RowsAt H' l ls ns bs t2 ∧ t2.length = i) ∧ Strm H' l ls (N + 10 + 12 * i) ∧ But l ls H0 H' ∧
    ∃ s12 s13, σ = [s0, some (.ref l), s2, some (.ref r), s4, s5, some (.ref q), some (.ref n), s8, s9, s10, some (.ref mo), s12, s13, s14, s15]) ⟨⟨[], [], oq3, .nil, rfl⟩, S3.mono (by omega), B23, _, _, rfl⟩ ?_ ?_⟩
  · rintro i σ H4 hi ⟨⟨bs, t2, oq4, R4, lt4⟩, S4, B4, s6, s7, rfl⟩
    have hi2 : (i : Int) < 3 := by omega
    have oc4 := B4 _ _ d.nl d.nls d.on
    refine ⟨_, rfl, .inl ⟨rfl, _, SqL.of oq4⟩, _, rfl, n, rfl, ⟨_, SqL.of oc4⟩, fun D nD => ?_⟩
    have aD := S4.apart (Same.refl _) nD
    have Dq : D ≠ mo := fun z => by rw [z, oq4] at nD; cases nD
    refine lc_list (xs := ns.map V.str) (fun j H' => ∃ ps vs, H' D = some (.lst ((ps : List Addr).map V.ref)) ∧ Paired (fun p (kv : Str × Int) => H' p = some (.tup [.str kv.1, .int kv.2]) ∧ p ≠ l ∧ p ≠ ls) ps ((ns.take j).zip vs) ∧ vs.length = j ∧
      Strm H' l ls (N + 10 + 12 * i + j) ∧ But l ls H4 H') ⟨[], [], upd_same, .nil, rfl, by simpa using S4.same (same_new nD), But.of (same_new nD)⟩ (fun j H' _ h => SqL.of (h.choose_spec.choose_spec.2.2.2.2 _ _ d.nl d.nls oc4)) ?_ ?_
    · rintro j v H5 ev ⟨ps, vs, oD, pr, lv, S5, B5⟩
      rw [List.getElem?_map] at ev
      obtain ⟨x, ex, rfl⟩ := Option.map_eq_some_iff.mp ev
      have hj : j < ns.length := (List.getElem?_eq_some_iff.mp ex).1
      have et : ns.take (j + 1) = ns.take j ++ [x] := by rw [List.take_succ, ex]; rfl
      refine ⟨rfl, ?_⟩
      refine ⟨_, rfl, _, rfl, l, ls, 3, _, rfl, S5, by omega, by decide, by decide, fun H6 z z0 z1 S6 B6 => ?_⟩
      refine ⟨(by rw [sizeLine_eq]; show 2 ≤ _; omega), fun p np => ?_⟩
      have ap := S6.apart (Same.refl _) np
      have k6 := same_new (o := .tup [.str x, .int z]) np
      have oD6 := B6 _ _ aD.1 aD.2 oD
      have pD : p ≠ D := fun y => by rw [y, oD6] at np; cases np
      have lps : ps.length = j := by
        have e := Paired.length pr
        rw [List.length_zip, List.length_take] at e
        omega
      refine ⟨_, k6 _ _ oD6, (by rw [sizeLine_eq, List.length_map]; omega), ps ++ [p], vs ++ [z], by rw [upd_same]; simp, ?_, by simp [lv], ?_, ?_⟩
      · rw [et, List.zip_append (by rw [List.length_take]; omega)]
        refine paired_snoc ⟨by rw [upd_ne pD, upd_same], ap⟩ (Paired.mapP pr fun a kv h => ⟨?_, h.2⟩)
        have na : a ≠ D := fun y => by rw [y, oD] at h; cases h.1
        rw [upd_ne na]
        exact k6 _ _ (B6 _ _ h.2.1 h.2.2 h.1)
      · obtain ⟨cs', g, k, m, S⟩ := S6.same k6
        exact Strm.mono ⟨cs', g, k, m, by rw [upd_ne (Ne.symm aD.1)]; exact S.o, by rw [upd_ne (Ne.symm aD.2)]; exact S.c, S.ne, S.g0, S.k0, S.k1, S.m0, S.m1, S.sz⟩ (by omega)
      · intro b' o h1 h2 e
        have nb : b' ≠ D := ne_of_none e nD
        rw [upd_ne nb]
        exact k6 _ _ (B6 _ _ h1 h2 (B5 _ _ h1 h2 e))
    · rintro H5 ⟨ps, vs, oD, pr, lv, S5, B5⟩
      have etk : ns.take (ns.map V.str).length = ns := List.take_of_length_le (by rw [List.length_map]; omega)
      rw [etk] at pr
      have lv2 : vs.length = ns.length := by rw [lv, List.length_map]
      refine ⟨D, ps, dk ns vs, rfl, SqL.of oD, paired_map (Paired.mapP pr fun p kv h => SqT.of h.1), fun p np => ?_⟩
      rw [merge_nd (dk_nd lv2.symm nnd)]
      have ap := S5.apart (Same.refl _) np
      have k5 := same_new (o := .dK (dk ns vs)) np
      have oq5 := k5 _ _ (B5 _ _ aq.1 aq.2 oq4)
      have las : bs.length = i := by rw [Paired.length R4, lt4]
      have pq : p ≠ mo := fun y => by rw [y, B5 _ _ aq.1 aq.2 oq4] at np; cases np
      refine ⟨mo, bs.map V.ref, .ref p, rfl, rfl, oq5, (by rw [sizeLine_eq, List.length_map]; omega), ⟨bs ++ [p], t2 ++ [vs], by rw [upd_same]; simp, ?_, by simp [lt4]⟩, ?_, ?_, _, _, rfl⟩
      · refine paired_snoc ⟨by rw [upd_ne pq, upd_same], lv2, ap⟩ (Paired.mapP R4 fun a vs' h => ⟨?_, h.2⟩)
        have na : a ≠ mo := fun y => by rw [y, oq4] at h; cases h.1
        rw [upd_ne na]
        exact k5 _ _ (B5 _ _ h.2.2.1 h.2.2.2 h.1)
      · obtain ⟨cs', g, k, m, S⟩ := S5.same k5
        have lx : (ns.map V.str).length ≤ 10 := by rw [List.length_map]; omega
        exact Strm.mono ⟨cs', g, k, m, by rw [upd_ne (Ne.symm aq.1)]; exact S.o, by rw [upd_ne (Ne.symm aq.2)]; exact S.c, S.ne, S.g0, S.k0, S.k1, S.m0, S.m1, S.sz⟩ (by omega)
      · intro b' o h1 h2 e
        have nb : b' ≠ mo := ne_of_none e nq
        rw [upd_ne nb]
        exact k5 _ _ (B5 _ _ h1 h2 (B4 _ _ h1 h2 e))
  · rintro σ H4 ⟨⟨bs, t2, oq4, R4, lt4⟩, S4, B4, s6, s7, rfl⟩
    have mn : t2 ≠ [] := fun z => by
      rw [z] at lt4
      have e : (0 : Nat) = (1 + r').toNat := lt4
      omega
    have lt2 : t2.length ≤ 4 := by omega
    have d4 := d.but (S4.mono (by omega : _ ≤ N + 100)) B4
    have DM : DRows H4 ns bs t2 := Paired.mapP R4 fun a vs h => ⟨h.1, h.2.1⟩
    refine ⟨_, rfl, _, rfl, made_tab oq4 DM W.ne nnd W.ok (by omega) mn (by omega) fun H5 y ny Ty k5 => ?_⟩
    have d5 := d4.same k5
    obtain ⟨dx, _, _, hx, _, _⟩ := id d5.tab.ex
    obtain ⟨dy, _, _, hy, _, _⟩ := id Ty.ex
    refine ⟨q, y, dx, dy, _, _, rfl, rfl, hx, hy, q, y, ns, tbl, t2, rfl, d5.tab, Ty, W, by omega, fun H6 c nc Tc k6 => ⟨c, rfl, ?_⟩⟩
    obtain ⟨dc, _, _, hc, _, _⟩ := id Tc.ex
    refine ⟨c, dc, _, rfl, hc, rfl, c, ns, tbl ++ t2, rfl, Tc, nnd, by omega, by rw [List.length_append]; omega, fun H7 m ms nm om rows _ k7 => ?_⟩
    have k47 := (k5.trans k6).trans k7
    have d7 := d4.same k47
    refine ⟨_, rfl, _, rfl, r, mo, _, _, rfl, rfl, d7.orr, k47 _ _ oq4, (by rw [sizeLine_eq, List.length_map, List.length_map]; have := Paired.length R4; omega), fun p np => ?_⟩
    rw [← List.map_append]
    have kp := same_new (o := .lst ((as ++ bs).map V.ref)) np
    have d8 := d7.same kp
    have DM8 := DM.same (k47.trans kp)
    obtain ⟨len, alike⟩ := rows_alike nnd (rows.same kp) (d8.D.append DM8)
    exact ⟨m, p, ms, as ++ bs, rfl, rfl, kp _ _ om, upd_same, len, alike, _, rfl, iteF (fin _ _ _ _ d8)⟩
end
end L2.TB
namespace L2.TB
open PySem PySem.Spec PyProof.Rows
/-! the law: equal tables and others -/
theorem no_any (k : Nat) : (List.replicate k false).any id = false := by
  rw [List.any_eq_false]
  intro x hx
  rw [List.eq_of_mem_replicate hx]
  simp
theorem no_at {k i : Nat} {y : V} (h : ((List.replicate k false).map V.bl)[i]? = some y) : y = .bl false ∧ i < k := by
  rw [List.getElem?_map, List.getElem?_replicate] at h
  by_cases c : i < k
  · rw [if_pos c] at h
    exact ⟨(Option.some.inj h).symm, c⟩
  · rw [if_neg c] at h
    cases h
theorem no_len (k : Nat) : ((List.replicate k false).map V.bl).length = k := by rw [List.length_map, List.length_replicate]
theorem oth_eq {ns ns' : List Str} {tbl tbl' : List (List Int)} (h : ns' ≠ ns ∨ tbl' ≠ tbl) : (decide (ns = ns') && decide (tbl = tbl')) = false := by
  rcases h with h | h
  · rw [decide_eq_false (fun e => h e.symm)]; rfl
  · rw [decide_eq_false (fun e : tbl = tbl' => h e.symm), Bool.and_false]
section
variable {P : Program} {w : World} {K : PySem.W.Frag} {mg : Str → Option Value} {base : Heap} {f C fIn : Addr} {fd : FuncData}
theorem turn_f (L : LawK P w K mg base C fIn) {cdv : Value} {A : Around} {outer : List Env} {s : Shared} {H : Hp} {E : XK} (hr : Room 7 (A.deeper (envOfC "law" (defScope sLaw) s.heap.objs.size f cdv))) :
    ∃ t, PSs (cxOf CX0 P w K mg base NLw "law" (defScope sLaw) f cdv A outer s H E).nox (bodyT.drop 17) t ∧ ∀ (D : Ends) (H0 : Hp) (s0 s2 s4 s5 s8 s9 s10 s11 s12 s13 s14 s15 : Option V) (l ls r q n : Addr) (as : List Addr) (ns : List Str) (tbl : List (List Int)) (N : Int), Dk H0 C l ls r q n as ns tbl N →
      (∀ H', Dk H' C l ls r q n as ns tbl N → D.nx [s0, some (.ref l), s2, some (.ref r), s4, s5, some (.ref q), some (.ref n), s8, s9, s10, s11, s12, s13, s14, s15] H') →
      t D [s0, some (.ref l), s2, some (.ref r), s4, s5, some (.ref q), some (.ref n), s8, s9, s10, s11, s12, s13, s14, s15] H0 := by
  obtain ⟨fdI, FI, GI⟩ := L.init
  have bI := FI.binds (ps := ["self", "rows"]) fun _ _ _ _ _ _ us hl => match us, hl with | [_, _], _ => rfl
  obtain ⟨fE, fdE, mE, FE, GE, GO⟩ := L.eq
  have bE := FE.binds (ps := ["self", "other"]) fun _ _ _ _ _ _ us hl => match us, hl with | [_, _], _ => rfl
  obtain ⟨fX, fdX, gX, FX, GX⟩ := L.alike
  have bX := FX.binds (ps := ["stream", "rows"]) fun _ _ _ _ _ _ us hl => match us, hl with | [_, _], _ => rfl
  have T := L.T
  have nd := scLaw.nd
  refine ⟨_, pss_cons (ps_if (PW.pt (pw_or (pt_not (pt_cmpR (op_eqI (E := E0) GE (hr.mono (by decide)) mE bE pass0) (pv 6) (pe_make L.made GI (hr.mono (by decide)) rfl L.gC bI .nil pass0 (pa_cons (pv 3) pa_nil)) (nomark _)))
        (pw_or1 (pt_cmpR (op_neI (E := E0) GE (hr.mono (by decide)) mE L.ne L.ob bE pass0) (pv 6) (pe_make L.made GI (hr.mono (by decide)) rfl L.gC bI .nil pass0 (pa_cons (pv 3) pa_nil)) (nomark _))))) (pss_one ps_never) pss_nil)
    (pss_cons (ps_if (pt_val (pe_callB (cr_any rfl) rfl L.nY (by decide +kernel) (pa_cons (pe_lc (own := [("other", 14)]) (tt := tYes) (g := gName 14) rfl nd (pi_list (pe_call GX (hr.mono (by decide)) rfl gX FX.kp bX .nil pass0 (pa_cons (pv 1) (pa_cons (pv 3) pa_nil)))) (blkOk_by (N := NLw) (sc := defScope sLaw) (by decide +kernel)) (fun _ _ _ _ _ => pg_name (i := 14) nd rfl (Or.inl rfl)) (fun _ _ _ _ _ => pts_nil)
        (fun _ _ _ _ _ => pe_cmpR (op_eqI (E := E0) GE (hr.mono (by decide)) mE bE pass0) (pv 6) (pe_make L.made GI (hr.mono (by decide)) rfl L.gC bI .nil pass0 (pa_cons (pv 14) pa_nil)) (nomark _))) pa_nil))) (pss_one ps_never) pss_nil)
    (pss_one (ps_if (pt_val (pe_callB (cr_any rfl) rfl L.nY (by decide +kernel) (pa_cons (pe_lc (own := [("thing", 15)]) (tt := tYes) (g := gName 15) (te := tOp (rEqO K C (spEqO K C) E0) (tVar 6) (tVar 15)) rfl nd (pi_seq (pe_tup (pa_cons pe_non (pa_cons pe_int (pa_cons (pv 3) (pa_cons (pv 7) (pa_cons pe_str pa_nil))))))) (blkOk_by (N := NLw) (sc := defScope sLaw) (by decide +kernel)) (fun _ _ _ _ _ => pg_name (i := 15) nd rfl (Or.inl rfl)) (fun _ _ _ _ _ => pts_nil)
        (fun _ _ _ _ _ => pe_cmpR (r := rEqO K C (spEqO K C) E0) (op_eqO (k := 1) (E := E0) GO (hr.mono (by decide)) mE bE pass0) (pv 6) (pv 15) (nomark _))) pa_nil))) (pss_one ps_never) pss_nil))), ?_⟩
  intro D H0 s0 s2 s4 s5 s8 s9 s10 s11 s12 s13 s14 s15 l ls r q n as ns tbl N d fin
  have W := d.W
  have w1 := W.l1
  have few := d.few
  have nnd := W.nd
  -- equal
  refine ⟨_, rfl, _, rfl, made_tab d.orr d.D W.ne nnd W.ok (by omega) W.t (by omega) fun H1 y ny Ty k1 => ?_⟩
  have d1 := d.same k1
  obtain ⟨dx, _, _, hx, _, _⟩ := id d1.tab.ex
  obtain ⟨dy, _, _, hy, _, _⟩ := id Ty.ex
  refine ⟨q, y, dx, dy, _, _, rfl, rfl, hx, hy, q, y, ns, ns, tbl, tbl, rfl, d1.tab, Ty, W.ok, W.ok, _, rfl, _, rfl, ?_⟩
  rw [decide_eq_true rfl, decide_eq_true rfl]
  refine iteF ?_
  refine ⟨_, rfl, _, rfl, made_tab d1.orr d1.D W.ne nnd W.ok (by omega) W.t (by omega) fun H2 y2 ny2 Ty2 k2 => ?_⟩
  have d2 := d1.same k2
  obtain ⟨dx2, _, _, hx2, _, _⟩ := id d2.tab.ex
  obtain ⟨dy2, _, _, hy2, _, _⟩ := id Ty2.ex
  refine ⟨q, y2, dx2, dy2, _, _, rfl, rfl, hx2, hy2, q, y2, ns, ns, tbl, tbl, rfl, d2.tab, Ty2, W.ok, W.ok, _, rfl, _, rfl, ?_⟩
  rw [decide_eq_true rfl, decide_eq_true rfl]
  refine iteF ?_
  -- others
  refine ⟨_, rfl, _, rfl, l, r, as, ns, tbl, rfl, d2.orr, d2.D, nnd, W.ne, d2.nms, W.l1, W.t, few, fun H3 c ps nc oc oth lps k3 => ?_⟩
  have d3 := d2.same k3
  refine ⟨c, rfl, ⟨_, SqL.of oc⟩, lc_gen ((List.replicate ps.length false).map V.bl) (by rw [no_len]; omega) (fun i H' s lt => ⟨_, _, SqL.of (s _ _ oc), List.getElem?_eq_getElem (by rw [List.length_map]; rw [no_len] at lt; exact lt)⟩) (fun H' s => ⟨_, SqL.of (s _ _ oc), by rw [List.length_map, no_len]; exact Nat.le_refl _⟩) ?_ ?_⟩
  · rintro i x z H4 H5 Cn Nn ez s4 ⟨rfl, ex⟩ yes
    obtain ⟨rfl, lt⟩ := no_at ez
    have ex := ex _ (SqL.of (s4 _ _ oc))
    rw [List.getElem?_map] at ex
    obtain ⟨p, ep, rfl⟩ := Option.map_eq_some_iff.mp ex
    obtain ⟨as', ns', tbl', op, D', nd', ne', ok', len', t', tl', un⟩ := (oth p (List.mem_of_getElem? ep)).same s4
    have d4 := d3.same s4
    refine ⟨rfl, ?_⟩
    refine ⟨_, rfl, _, rfl, made_tab op D' ne' nd' ok' len' t' tl' fun H6 y6 ny6 Ty6 k6 => ?_⟩
    have d6 := d4.same k6
    obtain ⟨dx6, _, _, hx6, _, _⟩ := id d6.tab.ex
    obtain ⟨dy6, _, _, hy6, _, _⟩ := id Ty6.ex
    refine ⟨q, y6, dx6, dy6, _, _, rfl, rfl, hx6, hy6, q, y6, ns, ns', tbl, tbl', rfl, d6.tab, Ty6, W.ok, ok', _, rfl, ?_⟩
    rw [oth_eq un]
    exact yes _ k6
  intro H4 D4 nD4 oD4 k4
  refine ⟨D4, _, rfl, SqL.of oD4, _, rfl, ?_⟩
  rw [no_any]
  refine iteF ?_
  have d4 := d3.same k4
  -- other kinds
  refine ⟨_, rfl, _, rfl, (by rw [sizeLine_eq]; show 5 ≤ _; omega), fun t nt => ?_⟩
  have kt := same_new (o := .tup [V.non, V.int 5, V.ref r, V.ref n, V.str (Str.ofString "a")]) nt
  have ot : upd H4 t (.tup [V.non, V.int 5, V.ref r, V.ref n, V.str (Str.ofString "a")]) t = some (.tup [V.non, V.int 5, V.ref r, V.ref n, V.str (Str.ofString "a")]) := upd_same
  have d5 := d4.same kt
  generalize upd H4 t (.tup [V.non, V.int 5, V.ref r, V.ref n, V.str (Str.ofString "a")]) = H5 at ot d5
  refine ⟨t, _, rfl, .inr ⟨SqT.of ot, lc_gen ((List.replicate 5 false).map V.bl) (by rw [no_len]; omega) (fun i H' s lt => ⟨_, _, SqT.of (s _ _ ot), List.getElem?_eq_getElem (by rw [no_len] at lt; exact lt)⟩) (fun H' s => ⟨_, SqT.of (s _ _ ot), by rw [no_len]; exact Nat.le_refl _⟩) ?_ ?_⟩⟩
  · rintro i x z H6 H7 Cn Nn ez s6 ⟨rfl, ex⟩ yes
    obtain ⟨rfl, lt⟩ := no_at ez
    have ex := ex _ (SqT.of (s6 _ _ ot))
    have d6 := d5.same s6
    obtain ⟨dx6, _, _, hx6, _, _⟩ := id d6.tab.ex
    obtain ⟨k, hk, ty⟩ : ∃ k, k ∈ ["NoneType", "int", "list", "str"] ∧ TyX K H7 x (.type k) := by
      match i, lt, ex with
      | 0, _, ex => obtain rfl := Option.some.inj ex; exact ⟨_, by simp, .base .non⟩
      | 1, _, ex => obtain rfl := Option.some.inj ex; exact ⟨_, by simp, .base (.int 5)⟩
      | 2, _, ex => obtain rfl := Option.some.inj ex; exact ⟨_, by simp, .base (.lst d6.orr)⟩
      | 3, _, ex => obtain rfl := Option.some.inj ex; exact ⟨_, by simp, .base (.lst d6.on)⟩
      | 4, _, ex => obtain rfl := Option.some.inj ex; exact ⟨_, by simp, .base (.str _)⟩
      | i + 5, lt, _ => omega
    refine ⟨rfl, ?_⟩
    refine ⟨_, rfl, _, rfl, q, dx6, _, .type k, rfl, hx6, ty, (L.far k hk).1, q, x, .type k, rfl, ty, (L.far k hk).2, _, rfl, ?_⟩
    exact yes _ (Same.refl _)
  intro H6 D6 nD6 oD6 k6
  refine ⟨D6, _, rfl, SqL.of oD6, _, rfl, ?_⟩
  rw [no_any]
  exact iteF (fin _ (d5.same k6))
def spLaw (K : PySem.W.Frag) : Sp := fun vs H Q _ => ∃ (a : Addr) (ns : List Int), vs = [.ref a] ∧ SqL K H a (ns.map V.int) ∧ ns.length ≤ 63 ∧ ∀ H', Q (.bl true) H'
theorem ok_law (F : Fun K "law" "law" sLaw f fd) (L : LawK P w K mg base C fIn) : FnOk P w K mg base CX0 8 f fd ["script"] (spLaw K) := by
  obtain ⟨fS, fdS, gS, FS⟩ := L.start
  have GS : FnOk P w K mg base CX0 1 fS fdS ["script"] (spStart K) := ok_start FS L.M.nL
  have bS := FS.binds (ps := ["script"]) fun _ _ _ _ _ _ us hl => match us, hl with | [_], _ => rfl
  refine F.ok scLaw (fun vs H Q E h => by obtain ⟨a, ns, e, _⟩ := h; rw [e]; rfl) fun cdv A outer s H vs Q E hr hsp => ?_
  obtain ⟨a, cs, rfl, hS, hn, hq⟩ := hsp
  have nd := scLaw.nd
  obtain ⟨tF, pF, rF⟩ := turn_f L (outer := outer) (H := H) (E := E) hr
  obtain ⟨tE, pE, rE⟩ := turn_e L (outer := outer) (H := H) (E := E) hr pF
  obtain ⟨tD, pD, rD⟩ := turn_d L (outer := outer) (H := H) (E := E) hr pE
  obtain ⟨tC, pC, rC⟩ := turn_c L (outer := outer) (H := H) (E := E) hr pD
  obtain ⟨tB, pB, rB⟩ := turn_b L (outer := outer) (H := H) (E := E) hr pC
  obtain ⟨tA, pA, rA⟩ := turn_a L (outer := outer) (H := H) (E := E) hr pB
  refine ⟨_, pss_cons (ps_set (i := 1) nd rfl (Or.inr rfl) (pe_call GS (hr.mono (by decide)) rfl gS FS.kp bS .nil pass0 (pa_cons (pv 0) pa_nil)))
    (pss_cons (ps_for PassesOwn.never rfl (pi_range1 rfl L.nR (pa_cons pe_int pa_nil)) (pg_name (i := 2) nd rfl (Or.inl rfl)) pA)
    (pss_one (ps_ret pe_bl))), ?_⟩
  refine ⟨_, rfl, a, cs, rfl, hS, by omega, fun H1 l ls nl k1 S1 nls => ?_⟩
  refine ⟨5, rfl, by decide, by decide, for_range (n := 5) (fun i σ H' => Strm H' l ls (8000 * (i : Int)) ∧ ∃ s2 s3 s4 s5 s6 s7 s8 s9 s10 s11 s12 s13 s14 s15, σ = [some (.ref a), some (.ref l), s2, s3, s4, s5, s6, s7, s8, s9, s10, s11, s12, s13, s14, s15])
    ⟨by simpa using S1, _, _, _, _, _, _, _, _, _, _, _, _, _, _, rfl⟩ ?_ ?_⟩
  · rintro i σ H2 hi ⟨S2, s2, s3, s4, s5, s6, s7, s8, s9, s10, s11, s12, s13, s14, s15, rfl⟩
    refine rA _ H2 _ _ s3 s4 s5 s6 s7 s8 s9 s10 s11 s12 s13 s14 s15 l ls _ S2 (by omega) fun H3 r hd b q n t8 as ns tbl d3 => ?_
    refine rB _ H3 _ _ _ _ t8 s9 s10 s11 s12 s13 s14 s15 l ls r q n as ns tbl _ d3 fun H4 t9 d4 => ?_
    refine rC _ H4 _ _ _ _ t8 t9 s10 s11 s12 s13 s14 s15 l ls r q n as ns tbl _ d4 (by omega) fun H5 u8 u9 d5 => ?_
    refine rD _ H5 _ _ _ _ u8 u9 s10 s11 s12 s13 s14 s15 l ls r q n as ns tbl _ d5 (by omega) fun H6 u10 d6 => ?_
    refine rE _ H6 _ _ _ _ u8 u9 u10 s11 s12 s13 s14 s15 l ls r q n as ns tbl _ d6 (by omega) fun H7 u11 u12 u13 d7 => ?_
    refine rF _ H7 _ _ _ _ u8 u9 u10 u11 u12 u13 s14 s15 l ls r q n as ns tbl _ d7 fun H8 d8 => ?_
    exact ⟨d8.S.mono (by omega), _, _, _, _, _, _, _, _, _, _, _, _, _, _, rfl⟩
  · rintro σ H2 ⟨S2, s2, s3, s4, s5, s6, s7, s8, s9, s10, s11, s12, s13, s14, s15, rfl⟩
    exact hq H2
end
end L2.TB
namespace L2.TB
open PySem PySem.Spec PyProof.Rows
section
variable {K : PySem.W.Frag} {h : Heap} {mg : Str → Option Value}
theorem def_at (c : He.SaysE faT fnT K) (X : K.In h) (G : h.Ns mainGlobals mg) (i j k : Nat) {x : Str} {st : Stmt} (ei : faT[i]? = some (.glo x)) (ej : faT[j]? = some (.keep x)) (ek : fnT[k]? = some (dd (x, none) x x st)) :
    mg x = some (.ref (He.ga K x)) ∧ ∃ fd, Fun K x x st (He.ga K x) fd := by
  obtain ⟨oc, od, osl, kV, doc, pm, an, cdv, ct, lk, hc⟩ := c.def_ k ek
  exact ⟨He.glo_ok X G (c.fact i ei), _, ⟨⟨oc, od, kV, doc, pm, an, cdv, ct, osl, rfl, lk, hc⟩, He.keep_ok (c.fact j ej)⟩⟩
theorem meth_at (c : He.SaysE faT fnT K) (i k : Nat) {m q : Str} {st : Stmt} (ei : faT[i]? = some (.meth "Table" m)) (ek : fnT[k]? = some (dd ("Table", some m) m q st)) :
    Meth K (He.ga K "Table") m (He.ma K (He.ga K "Table") m) ∧ ∃ fd, Fun K m q st (He.ma K (He.ga K "Table") m) fd := by
  obtain ⟨oc, od, osl, kV, doc, pm, an, cdv, ct, lk, hc⟩ := c.def_ k ek
  have M := He.meth_ok (c.fact i ei)
  exact ⟨M, _, ⟨⟨oc, od, kV, doc, pm, an, cdv, ct, osl, rfl, lk, hc⟩, M.kp⟩⟩
end
theorem init_of {K : PySem.W.Frag} {C : Addr} : ∀ vs H Q E, spInit C vs H Q E → spInitG K C vs H Q E := fun vs H Q E h => by
  obtain ⟨p, dx, r, as, ns, tbl, e, hp, hr, D, tne, tsh, nne, nnd, nok, nsh, q⟩ := h
  exact ⟨p, dx, r, as, ns, tbl, e, hp, .inl hr, (drows_g nnd D).1, (drows_g nnd D).2, tne, tsh, nne, nnd, nok, nsh, q⟩
theorem facts {P : Program} {w : World} {K : PySem.W.Frag} {h : Heap} {mg : Str → Option Value} {f : Addr} (X : K.In h) (G : h.Ns mainGlobals mg) (hfa : mg ("law" : Str) = some (.ref f)) (c : He.SaysE faT fnT K) (more : moreB K = true) :
    ∃ fd : FuncData, (∀ (s : Shared) (v : Value), BindsTo s fd ⟨[v], []⟩ [("script", v)]) ∧ ∀ base : Heap, K.In base → base.Ns mainGlobals mg → FnOk P w K mg base CX0 8 f fd ["script"] (spLaw K) := by
  obtain ⟨gStart, dStart, FStart⟩ := def_at c X G 0 24 0 (x := "_law_start") (st := sStart) rfl rfl rfl
  obtain ⟨gDraw, dDraw, FDraw⟩ := def_at c X G 1 25 1 (x := "_law_draw") (st := sDraw) rfl rfl rfl
  obtain ⟨gPick, dPick, FPick⟩ := def_at c X G 2 26 2 (x := "_law_pick") (st := sPick) rfl rfl rfl
  obtain ⟨gMixed, dMixed, FMixed⟩ := def_at c X G 3 27 3 (x := "_law_mixed") (st := sMixed) rfl rfl rfl
  obtain ⟨gSome, dSome, FSome⟩ := def_at c X G 4 28 4 (x := "_law_t_some") (st := sSome) rfl rfl rfl
  obtain ⟨gNames, dNames, FNames⟩ := def_at c X G 5 29 5 (x := "_law_t_names") (st := sNames) rfl rfl rfl
  obtain ⟨gRows, dRows, FRows⟩ := def_at c X G 6 30 6 (x := "_law_t_rows") (st := sRows) rfl rfl rfl
  obtain ⟨gTurned, dTurned, FTurned⟩ := def_at c X G 7 31 7 (x := "_law_t_turned_rows") (st := sTurned) rfl rfl rfl
  obtain ⟨gSame, dSame, FSame⟩ := def_at c X G 8 32 8 (x := "_law_same") (st := sSame) rfl rfl rfl
  obtain ⟨gAlike, dAlike, FAlike⟩ := def_at c X G 9 33 9 (x := "_law_alike_ones") (st := sAlike) rfl rfl rfl
  obtain ⟨gLeftR, dLeftR, FLeftR⟩ := def_at c X G 10 34 10 (x := "_law_left_right") (st := sLeftR) rfl rfl rfl
  obtain ⟨gOnlyR, dOnlyR, FOnlyR⟩ := def_at c X G 11 35 11 (x := "_law_only_right") (st := sOnlyR) rfl rfl rfl
  obtain ⟨gLaw, dLaw, FLaw⟩ := def_at c X G 12 36 12 (x := "law") (st := sLaw) rfl rfl rfl
  obtain ⟨gIsInt, dIsInt, FIsInt⟩ := def_at c X G 13 37 13 (x := "is_integer") (st := sIsInt) rfl rfl rfl
  obtain ⟨gIsList, dIsList, FIsList⟩ := def_at c X G 14 38 14 (x := "is_list") (st := sIsList) rfl rfl rfl
  obtain ⟨gIsName, dIsName, FIsName⟩ := def_at c X G 15 39 15 (x := "is_name") (st := sIsName) rfl rfl rfl
  obtain ⟨gIsOne, dIsOne, FIsOne⟩ := def_at c X G 16 40 16 (x := "is_one_of") (st := sIsOne) rfl rfl rfl
  obtain ⟨gFirst, dFirst, FFirst⟩ := def_at c X G 17 41 17 (x := "first_bad") (st := sFirst) rfl rfl rfl
  obtain ⟨gCkK, dCkK, FCkK⟩ := def_at c X G 18 42 18 (x := "check_known") (st := sCkK) rfl rfl rfl
  obtain ⟨gCkA, dCkA, FCkA⟩ := def_at c X G 19 43 19 (x := "check_asked") (st := sCkA) rfl rfl rfl
  obtain ⟨gCkB, dCkB, FCkB⟩ := def_at c X G 20 44 20 (x := "check_both") (st := sCkB) rfl rfl rfl
  obtain ⟨gHasJust, dHasJust, FHasJust⟩ := def_at c X G 21 45 21 (x := "has_just") (st := sHasJust) rfl rfl rfl
  obtain ⟨gAreInts, dAreInts, FAreInts⟩ := def_at c X G 22 46 22 (x := "_are_integers") (st := sAreInts) rfl rfl rfl
  obtain ⟨gBadRow, dBadRow, FBadRow⟩ := def_at c X G 23 47 23 (x := "_first_bad_row") (st := sBadRow) rfl rfl rfl
  obtain ⟨mInit, dInit, FInit⟩ := meth_at c 82 24 (m := "__init__") (q := "Table.__init__") (st := sInit) rfl rfl
  obtain ⟨mQs, dQs, FQs⟩ := meth_at c 69 25 (m := "questions") (q := "Table.questions") (st := sQs) rfl rfl
  obtain ⟨mPlaces, dPlaces, FPlaces⟩ := meth_at c 70 26 (m := "_places") (q := "Table._places") (st := sPlaces) rfl rfl
  obtain ⟨mLen, dLen, FLen⟩ := meth_at c 71 27 (m := "__len__") (q := "Table.__len__") (st := sLen) rfl rfl
  obtain ⟨mEq, dEq, FEq⟩ := meth_at c 72 28 (m := "__eq__") (q := "Table.__eq__") (st := sEq) rfl rfl
  obtain ⟨mAdd, dAdd, FAdd⟩ := meth_at c 73 29 (m := "__add__") (q := "Table.__add__") (st := sAdd) rfl rfl
  obtain ⟨mAnswers, dAnswers, FAnswers⟩ := meth_at c 74 30 (m := "answers") (q := "Table.answers") (st := sAnswers) rfl rfl
  obtain ⟨mRowsM, dRowsM, FRowsM⟩ := meth_at c 75 31 (m := "rows") (q := "Table.rows") (st := sRowsM) rfl rfl
  obtain ⟨mLeft, dLeft, FLeft⟩ := meth_at c 76 32 (m := "left") (q := "Table.left") (st := sLeft) rfl rfl
  obtain ⟨mMayBe, dMayBe, FMayBe⟩ := meth_at c 77 33 (m := "may_be") (q := "Table.may_be") (st := sMayBe) rfl rfl
  obtain ⟨mOnly, dOnly, FOnly⟩ := meth_at c 78 34 (m := "only") (q := "Table.only") (st := sOnly) rfl rfl
  obtain ⟨mDictOf, dDictOf, FDictOf⟩ := meth_at c 79 35 (m := "_dict_of") (q := "Table._dict_of") (st := sDictOf) rfl rfl
  obtain ⟨mIsWorld, dIsWorld, FIsWorld⟩ := meth_at c 80 36 (m := "_is_world") (q := "Table._is_world") (st := sIsWorld) rfl rfl
  obtain ⟨mCkAns, dCkAns, FCkAns⟩ := meth_at c 81 37 (m := "_check_answers") (q := "Table._check_answers") (st := sCkAns) rfl rfl
  have n_list : mg "list" = none := He.free_ok X G (c.fact 49 rfl)
  have n_len : mg "len" = none := He.free_ok X G (c.fact 50 rfl)
  have n_int : mg "int" = none := He.free_ok X G (c.fact 51 rfl)
  have n_range : mg "range" = none := He.free_ok X G (c.fact 52 rfl)
  have n_dict : mg "dict" = none := He.free_ok X G (c.fact 53 rfl)
  have n_tuple : mg "tuple" = none := He.free_ok X G (c.fact 54 rfl)
  have n_str : mg "str" = none := He.free_ok X G (c.fact 55 rfl)
  have n_bool : mg "bool" = none := He.free_ok X G (c.fact 56 rfl)
  have n_isinstance : mg "isinstance" = none := He.free_ok X G (c.fact 57 rfl)
  have n_all : mg "all" = none := He.free_ok X G (c.fact 58 rfl)
  have n_enumerate : mg "enumerate" = none := He.free_ok X G (c.fact 59 rfl)
  have n_zip : mg "zip" = none := He.free_ok X G (c.fact 60 rfl)
  have n_sorted : mg "sorted" = none := He.free_ok X G (c.fact 61 rfl)
  have n_set : mg "set" = none := He.free_ok X G (c.fact 62 rfl)
  have n_any : mg "any" = none := He.free_ok X G (c.fact 63 rfl)
  have gC : mg "Table" = some (.ref (He.ga K "Table")) := He.glo_ok X G (c.fact 48 rfl)
  have gLo := He.int_ok X G (c.fact (f := .int "LONGEST" 40) 64 rfl)
  have gSg := He.str_ok X G (c.fact (f := .str "SIGNS" "abcdefghijklmnopqrstuvwxyz0123456789.") 65 rfl)
  have T0 : TabC K (He.ga K "Table") := ⟨He.cls_ok (c.fact 66 rfl), He.noat_ok (c.fact 67 rfl), He.noat_ok (c.fact 68 rfl)⟩
  have Ck : Chk K mg _ _ _ _ _ _ := ⟨⟨_, FFirst⟩, ⟨_, FIsList⟩, ⟨_, FIsOne⟩, ⟨_, FCkK⟩, ⟨_, FCkA⟩, ⟨_, FCkB⟩, gFirst, gIsList, gIsOne, gCkK, gCkA, gCkB, n_isinstance, n_list, n_tuple, n_str, n_enumerate⟩
  have M : Sm mg := ⟨n_isinstance, n_list, n_tuple, n_int, n_bool, n_len, n_all, n_zip⟩
  have Mk := He.mkr_ok (c.fact (f := .mkr "Table") 83 rfl)
  obtain ⟨more, m6⟩ := He.ba more
  obtain ⟨m6, m7⟩ := He.ba m6
  obtain ⟨m1, more⟩ := He.ba more
  obtain ⟨m2, more⟩ := He.ba more
  obtain ⟨m3, more⟩ := He.ba more
  obtain ⟨m4, m5⟩ := He.ba more
  have far : ∀ t ∈ ["NoneType", "int", "list", "str"], PySem.W.notFirst K (He.ga K "Table") (.type t) = true ∧ PySem.W.kitOne K (.type t) (.ref (He.ga K "Table")) = some false := fun t ht => by
    obtain ⟨q1, q2⟩ := He.ba (List.all_eq_true.mp m7 t ht)
    exact ⟨q1, of_decide_eq_true q2⟩
  have IC : C8.InsC K (He.ga K "Table") := ⟨T0.cl, He.eqO_ok m2, He.eqO_ok m3, of_decide_eq_true m4, of_decide_eq_true m5, by unfold PySem.W.kitOne; rw [if_pos (by simp)]⟩
  have U : ∀ base : Heap, LawK P w K mg base (He.ga K "Table") (He.ma K (He.ga K "Table") "__init__") := by
   intro base
   have GR := ok_rowsM (P := P) (w := w) (mg := mg) (base := base) FRowsM T0 FDictOf mDictOf n_zip
   have GB := ok_badRowG (P := P) (w := w) (base := base) FBadRow FIsList gIsList FIsInt gIsInt FIsName gIsName FHasJust gHasJust n_isinstance n_list n_tuple n_str n_enumerate n_len n_all n_dict n_int n_bool gLo gSg
   have GG := ok_initG (P := P) (w := w) (base := base) FInit T0 GB FBadRow gBadRow n_list n_tuple
   have GI : FnOk P w K mg base CX0 3 _ _ ["self", "rows"] (spInit (He.ga K "Table")) := GG.imp init_of
   have GA := ok_ckAns (P := P) (w := w) (base := base) FCkAns T0 FIsOne gIsOne FIsInt gIsInt n_isinstance n_dict n_all n_str n_int n_bool
   have GL := ok_left (P := P) (w := w) (base := base) FLeft T0 GR FRowsM mRowsM GA FCkAns mCkAns n_enumerate n_all
   have GM := ok_mayBe (P := P) (w := w) (base := base) FMayBe T0 GR FRowsM mRowsM GA FCkAns mCkAns GL FLeft mLeft Ck n_sorted
   have GQ := ok_qs (P := P) (w := w) (mg := mg) (base := base) FQs T0 n_list
   have GD := ok_draw (P := P) (w := w) (mg := mg) (base := base) FDraw n_int
   have GP := ok_pick (P := P) (w := w) (mg := mg) (base := base) FPick FDraw gDraw n_int n_len
   have GMi := ok_mixed (P := P) (w := w) (mg := mg) (base := base) FMixed FDraw gDraw n_int n_len n_list n_range
   have GSo := ok_some (P := P) (w := w) (base := base) FSome FMixed gMixed FDraw gDraw n_int n_len n_list n_range
   have GOn := ok_onlyA (P := P) (w := w) (base := base) FOnly T0 GR FRowsM mRowsM Mk GI FInit gC Ck n_len
   have GJ := ok_hasJustG (P := P) (w := w) (base := base) FHasJust n_isinstance n_dict n_len n_all
   have GW := ok_isWorld (P := P) (w := w) (base := base) FIsWorld T0 GJ FHasJust gHasJust (ok_areInts FAreInts FIsInt gIsInt n_isinstance n_tuple n_all n_int n_bool) FAreInts gAreInts n_tuple
   exact ⟨T0,
     ⟨_, _, gStart, FStart⟩,
     ⟨_, _, gDraw, FDraw⟩,
     ⟨_, _, gPick, FPick, GP⟩,
     ⟨_, _, gRows, FRows, ok_rows FRows FNames gNames FPick gPick FDraw gDraw n_int n_len n_range n_dict⟩,
     ⟨_, _, gTurned, FTurned, ok_turned FTurned GMi FMixed gMixed n_dict n_list⟩,
     ⟨_, _, gSome, FSome, GSo⟩,
     ⟨_, _, gSame, FSame, ok_sameT FSame gSame M 2⟩,
     ⟨_, _, gLeftR, FLeftR, ok_leftR FLeftR T0 GSo FSome gSome GP FPick gPick GD FDraw gDraw GL FLeft mLeft GM FMayBe mMayBe (ok_sameT FSame gSame M 1) FSame gSame n_list n_enumerate n_all n_sorted n_set⟩,
     ⟨_, _, gOnlyR, FOnlyR, ok_onlyR FOnlyR T0 GP FPick gPick GOn FOnly mOnly GR FRowsM mRowsM GQ FQs mQs n_tuple n_dict⟩,
     ⟨_, _, gAlike, FAlike, ok_alike FAlike n_dict n_list n_len n_int⟩,
     ⟨_, _, mAdd, FAdd, ok_add FAdd T0 IC FQs mQs GR FRowsM mRowsM Mk GI FInit gC n_isinstance n_list⟩,
     ⟨_, _, mLen, FLen, ok_len FLen T0 n_len⟩,
     ⟨_, _, mEq, FEq, ok_eqT FEq T0 IC gC n_isinstance, ok_eqO FEq gC n_isinstance⟩,
     ⟨_, _, mQs, FQs, GQ⟩,
     ⟨_, _, mRowsM, FRowsM, GR⟩,
     ⟨_, _, mAnswers, FAnswers, ok_answers FAnswers T0 GW FIsWorld mIsWorld⟩,
     He.eqO_ok m6,
     of_decide_eq_true m5,
     Mk,
     ⟨_, FInit, GG⟩,
     gC,
     m1,
     n_range,
     n_dict,
     n_any,
     far,
     M⟩
  have e := hfa.symm.trans gLaw
  cases e
  obtain ⟨oc, od, kV, doc, pm, an, cdv, ct, osl, rfl, lk, hcd⟩ := FLaw.ex
  exact ⟨_, fun s v => .of_eq rfl, fun base _ _ => ok_law (C := He.ga K "Table") FLaw (U base)⟩
end L2.TB
open PySem PySem.W PySem.Calls PyProof.Rows
set_option maxHeartbeats 0 in
theorem PySem.Challenge.cw_twoworlds_k00_tables_told_holds : PySem.Challenge.rw_twoworlds_k00_tables_told.Holds := by
  w_on; o_law
  refine HandSHeadRun.head_any (r := L2.TB.HdR.R) (q := L2.TB.HdR.qv) (H := L2.TB.hookK) (ob := L2.TB.obT) (M := 16000) (loose := L2.TB.HdR.names)
    (d := HandSHeadRun.topDef L2.TB.HdR.R.prog 40) (kwd := []) L2.TB.obT_eq
    (by kernel_rfl) (fun s => by kernel_rfl) L2.TB.HdR.run (by kernel_rfl) (by kernel_rfl) (by kernel_rfl) (by rfl)
    (by first | assumption | decide +kernel) (by decide +kernel) ⟨rfl, rfl, rfl, rfl, rfl, by decide +kernel⟩ ?hw ?hc
  case hw => w_witness2
  case hc =>
    refine L2.walk_ofE (l := PySem.Challenge.rw_twoworlds_k00_tables_told) (n := 63) (k := 8) (x := "script") (CX := L2.CX0)
      rfl (by decide) (by kernel_rfl) ⟨rfl, by decide, by decide⟩ ?F (fun _ _ _ _ z => z)
    intro w mg fa h Y G hmg0
    obtain ⟨K, KX, c, c2⟩ := Y
    have hmg : mg ("law" : PySem.Str) = some (.ref fa) := by
      have e : (HandSHeadRun.topDef L2.TB.HdR.R.prog 40).name = ("law" : PySem.Str) := by kernel_rfl
      rw [← e]; exact hmg0
    obtain ⟨fd, hb, hF⟩ := L2.TB.facts (P := PySem.Challenge.rw_twoworlds_k00_tables_told.prog) (w := w) KX G hmg c c2
    exact ⟨K, fd, L2.TB.spLaw K, KX, hb, fun H a ns hl _ hS => ⟨a, ns, rfl, hS, by omega, fun _ => rfl⟩, hF⟩
