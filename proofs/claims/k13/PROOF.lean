import PyProof.Rows.All
import Wide.All
import OpenK.AllK
import Wide.FinOn
import HandS.ForMost
import HandS.Exc
import HandS.ExcInit
import HandS.IsInst
import HandS.Defaults
import HandS.Wide
import HandS.Conv
import HandS.Dict
import HandS.DictTup
import HandS.DictComp
import HandS.Flow
import HandS.Style
import HandS.TupSets
import HandS.NoneIn
import HandS.Head0
import HandS.Head1
import HandS.Head2
import HandS.HeadEnd
import HandS.HeadHook1
import HandS.Iter
import KE.GoesEnum
import HandS.More
import HandS.Zip
import KE.GoesZip
import KE.GoesMore
import HandS.List
import HandS.Codes
import HandS.SetBool
import HandS.Strs
import KE.KEqNest
import HandS.OwnEq
import PySem.Challenge.RW_twoworlds_k13_whole_rows_fewer_and_more
set_option Elab.async false
set_option linter.all false
set_option maxRecDepth 100000
set_option maxHeartbeats 40000000
namespace L2.TB
open PySem PySem.Spec PyProof.Rows
def topS (i : Nat) : Stmt := PySem.Challenge.pw_twoworlds_k13_whole_rows_fewer_and_more.main.body.getD i (.Pass ⟨0, 0, 0, 0⟩)
abbrev sStart : Stmt := topS 33
abbrev sDraw : Stmt := topS 34
abbrev sPick : Stmt := topS 35
abbrev sMixed : Stmt := topS 36
abbrev sSome : Stmt := topS 32
abbrev sNames : Stmt := topS 30
abbrev sRows : Stmt := topS 31
abbrev sSame : Stmt := topS 37
abbrev sAtHand : Stmt := topS 38
abbrev sLeftR : Stmt := topS 39
abbrev sLaw : Stmt := topS 40
abbrev sIsInt : Stmt := topS 13
abbrev sIsList : Stmt := topS 14
abbrev sIsName : Stmt := topS 15
abbrev sIsOne : Stmt := topS 16
abbrev sFirst : Stmt := topS 18
abbrev sCkK : Stmt := topS 19
abbrev sCkA : Stmt := topS 20
abbrev sCkB : Stmt := topS 21
abbrev sTold : Stmt := topS 28
abbrev sHasJust : Stmt := topS 17
abbrev sBadRow : Stmt := topS 26
abbrev sTable : Stmt := topS 24
abbrev sInit : Stmt := inClass sTable 0
abbrev sQs : Stmt := inClass sTable 4
abbrev sIsTold : Stmt := inClass sTable 7
abbrev sPlaces : Stmt := inClass sTable 18
abbrev sParting : Stmt := inClass sTable 21
abbrev sLen : Stmt := inClass sTable 1
abbrev sAdd : Stmt := inClass sTable 3
abbrev sRowsM : Stmt := inClass sTable 13
abbrev sLeft : Stmt := inClass sTable 14
abbrev sMayBe : Stmt := inClass sTable 15
abbrev sOnly : Stmt := inClass sTable 16
abbrev sDictOf : Stmt := inClass sTable 17
abbrev sCkAns : Stmt := inClass sTable 20
end L2.TB
namespace L2.TB
open PySem PySem.Spec PyProof.Rows
/-! ### what the top leaves, by addresses -/
def asK : List Nat := ([3, 6, 4, 21, 31, 51, 70, 89, 108, 127, 146, 158, 167, 174, 179, 186, 191, 198, 205, 212, 219, 224, 367, 376, 381, 386, 391, 396, 403, 410, 417, 424, 429, 434, 439, 444, 449, 20, 30, 50] : List Nat) ++
  ([69, 88, 107, 126, 145, 157, 166, 173, 178, 185, 190, 197, 204, 211, 218, 223, 366, 375, 380, 385, 390, 395, 402, 409, 416, 423, 428, 433, 438, 443, 448, 15, 16, 17, 18, 19, 29, 32, 48, 49] : List Nat) ++
  ([67, 68, 86, 87, 105, 106, 124, 125, 143, 144, 156, 161, 162, 163, 164, 165, 168, 169, 170, 171, 172, 175, 176, 177, 180, 181, 182, 183, 184, 187, 188, 189, 192, 193, 194, 195, 196, 199, 200, 201] : List Nat) ++
  ([202, 203, 206, 207, 208, 209, 210, 213, 214, 215, 216, 217, 220, 221, 222, 236, 243, 250, 257, 264, 271, 276, 283, 290, 295, 300, 307, 314, 319, 324, 329, 334, 339, 344, 349, 354, 359, 364, 365, 368] : List Nat) ++
  ([369, 372, 373, 374, 377, 378, 379, 382, 383, 384, 387, 388, 389, 392, 393, 394, 397, 398, 399, 400, 401, 404, 405, 406, 407, 408, 411, 412, 413, 414, 415, 418, 419, 420, 421, 422, 425, 426, 427, 430] : List Nat) ++
  ([431, 432, 435, 436, 437, 440, 441, 442, 445, 446, 447, 47, 66, 85, 104, 123, 142, 235, 242, 249, 256, 263, 270, 275, 282, 289, 294, 299, 306, 313, 318, 323, 328, 333, 338, 343, 348, 353, 358, 363] : List Nat) ++
  ([42, 43, 44, 45, 46, 61, 62, 63, 64, 65, 80, 81, 82, 83, 84, 99, 100, 101, 102, 103, 118, 119, 120, 121, 122, 137, 138, 139, 140, 141, 232, 233, 234, 237, 238, 239, 240, 241, 244, 245] : List Nat) ++
  ([246, 247, 248, 251, 252, 253, 254, 255, 258, 259, 260, 261, 262, 265, 266, 267, 268, 269, 272, 273, 274, 277, 278, 279, 280, 281, 284, 285, 286, 287, 288, 291, 292, 293, 296, 297, 298, 301, 302, 303] : List Nat) ++
  ([304, 305, 308, 309, 310, 311, 312, 315, 316, 317, 320, 321, 322, 325, 326, 327, 330, 331, 332, 335, 336, 337, 340, 341, 342, 345, 346, 347, 350, 351, 352, 355, 356, 357, 360, 361, 362] : List Nat)
def dd (p : Str × Option Str) (x q : Str) (st : Stmt) : He.FnD := ⟨p, x, q, defArgs st, defBody st, defScope st⟩
def fnT : List He.FnD := ([dd ("_law_start", none) "_law_start" "_law_start" sStart, dd ("_law_draw", none) "_law_draw" "_law_draw" sDraw, dd ("_law_pick", none) "_law_pick" "_law_pick" sPick, dd ("_law_mixed", none) "_law_mixed" "_law_mixed" sMixed, dd ("_law_t_some", none) "_law_t_some" "_law_t_some" sSome, dd ("_law_t_names", none) "_law_t_names" "_law_t_names" sNames, dd ("_law_t_rows", none) "_law_t_rows" "_law_t_rows" sRows, dd ("_law_same", none) "_law_same" "_law_same" sSame] : List He.FnD) ++
  ([dd ("_law_at_hand", none) "_law_at_hand" "_law_at_hand" sAtHand, dd ("_law_left_right", none) "_law_left_right" "_law_left_right" sLeftR, dd ("law", none) "law" "law" sLaw, dd ("is_integer", none) "is_integer" "is_integer" sIsInt, dd ("is_list", none) "is_list" "is_list" sIsList, dd ("is_name", none) "is_name" "is_name" sIsName, dd ("is_one_of", none) "is_one_of" "is_one_of" sIsOne, dd ("first_bad", none) "first_bad" "first_bad" sFirst] : List He.FnD) ++
  ([dd ("check_known", none) "check_known" "check_known" sCkK, dd ("check_asked", none) "check_asked" "check_asked" sCkA, dd ("check_both", none) "check_both" "check_both" sCkB, dd ("told_by", none) "told_by" "told_by" sTold, dd ("has_just", none) "has_just" "has_just" sHasJust, dd ("_first_bad_row", none) "_first_bad_row" "_first_bad_row" sBadRow, dd ("Table", some "__init__") "__init__" "Table.__init__" sInit, dd ("Table", some "questions") "questions" "Table.questions" sQs] : List He.FnD) ++
  ([dd ("Table", some "is_told") "is_told" "Table.is_told" sIsTold, dd ("Table", some "_places") "_places" "Table._places" sPlaces, dd ("Table", some "_parting_rows") "_parting_rows" "Table._parting_rows" sParting, dd ("Table", some "__len__") "__len__" "Table.__len__" sLen, dd ("Table", some "__add__") "__add__" "Table.__add__" sAdd, dd ("Table", some "rows") "rows" "Table.rows" sRowsM, dd ("Table", some "left") "left" "Table.left" sLeft, dd ("Table", some "may_be") "may_be" "Table.may_be" sMayBe] : List He.FnD) ++
  ([dd ("Table", some "only") "only" "Table.only" sOnly, dd ("Table", some "_dict_of") "_dict_of" "Table._dict_of" sDictOf, dd ("Table", some "_check_answers") "_check_answers" "Table._check_answers" sCkAns] : List He.FnD)
def faT : List He.Fa := ([.glo "_law_start", .glo "_law_draw", .glo "_law_pick", .glo "_law_mixed", .glo "_law_t_some", .glo "_law_t_names", .glo "_law_t_rows", .glo "_law_same", .glo "_law_at_hand", .glo "_law_left_right", .glo "law", .glo "is_integer", .glo "is_list", .glo "is_name", .glo "is_one_of", .glo "first_bad"] : List He.Fa) ++
  ([.glo "check_known", .glo "check_asked", .glo "check_both", .glo "told_by", .glo "has_just", .glo "_first_bad_row", .keep "_law_start", .keep "_law_draw", .keep "_law_pick", .keep "_law_mixed", .keep "_law_t_some", .keep "_law_t_names", .keep "_law_t_rows", .keep "_law_same", .keep "_law_at_hand", .keep "_law_left_right"] : List He.Fa) ++
  ([.keep "law", .keep "is_integer", .keep "is_list", .keep "is_name", .keep "is_one_of", .keep "first_bad", .keep "check_known", .keep "check_asked", .keep "check_both", .keep "told_by", .keep "has_just", .keep "_first_bad_row", .glo "Table", .free "list", .free "len", .free "int"] : List He.Fa) ++
  ([.free "range", .free "dict", .free "tuple", .free "str", .free "bool", .free "isinstance", .free "all", .free "enumerate", .free "zip", .free "sorted", .int "LONGEST" 40, .str "SIGNS" "abcdefghijklmnopqrstuvwxyz0123456789.", .cls "Table", .noat "Table" "_questions", .noat "Table" "_rows", .meth "Table" "questions"] : List He.Fa) ++
  ([.meth "Table" "is_told", .meth "Table" "_places", .meth "Table" "_parting_rows", .meth "Table" "__len__", .meth "Table" "__add__", .meth "Table" "rows", .meth "Table" "left", .meth "Table" "may_be", .meth "Table" "only", .meth "Table" "_dict_of", .meth "Table" "_check_answers", .meth "Table" "__init__", .mkr "Table"] : List He.Fa)
/-- of the class besides -/
def moreB (K : PySem.W.Frag) : Bool := PySem.W.selfFirst K (He.ga K "Table") && (He.eqO (PySem.W.findIn K (.ref (He.ga K "Table")) "__class__") (some (some (.builtin "object.__class__"))) && (He.eqO (PySem.W.specialIn K (.builtin "object.__class__") "__get__") (some (some (.builtin "getset_descriptor.__get__"))) &&
  (decide (PySem.W.takesIn K (.builtin "object.__class__") = some true) && decide (PySem.W.mroIn K (He.ga K "Table") (.type "object") = some true))))
def obsU (K : PySem.W.Frag) : Bool × He.Al := (moreB K, He.obsE faT fnT K)
def hookK : PySem.W.Hook where
  α := Bool × He.Al
  obs := fun s => obsU (He.frG s.heap.get? asK)
  val := fun _ => (true, He.valE fnT)
  says := fun _ h => ∃ K : PySem.W.Frag, K.In h ∧ He.SaysE faT fnT K ∧ moreB K = true
  of := fun _ _ e => ⟨_, He.frG_in, congrArg (fun z : Bool × He.Al => z.2) e, congrArg (fun z : Bool × He.Al => z.1) e⟩
  keeps := fun _ _ _ ⟨K, hK, c⟩ k => ⟨K, PySem.W.Frag.In.keeps hK k, c⟩
def obT (s : PySem.W.SharedT) : Bool × He.Al := obsU (He.frG (HandSHeadRun.getT s) asK)
theorem obT_eq (s : PySem.W.SharedT) : obT s = hookK.obs s.abs := by
  have e : HandSHeadRun.getT s = s.abs.heap.get? := funext fun a => HandSHeadRun.getT_eq s a
  unfold obT
  rw [e] <;> rfl
namespace HdR
open PySem PySem.W PySem.Calls PyProof.Rows
abbrev R : OpenRow := OpenLaw.row PySem.Challenge.rw_twoworlds_k13_whole_rows_fewer_and_more
abbrev qv : Program := view R.prog [40]
def names : List PySem.Str := (["_wall", "WorldError", "BadWorld", "BadKnown", "NoQuestion", "BadPlan", "BadAnswers", "BadRow", "UnlikeQuestions", "is_integer", "is_list", "is_name", "is_one_of", "has_just", "first_bad", "check_known", "check_asked", "check_both", "check_lacking", "Table", "_are_integers", "_first_bad_row", "told_by", "_law_t_names", "_law_t_rows", "_law_t_some", "_law_start", "_law_draw", "_law_pick", "_law_mixed"] : List PySem.Str) ++
  (["_law_same", "_law_at_hand", "_law_left_right", "SIGNS", "LONGEST"] : List PySem.Str)
set_option maxHeartbeats 0 in
theorem run (w : World) : HandSHeadRun.RunEq R qv L2.TB.hookK L2.TB.obT 16000 names w := by
  intro os
  kernel_rfl
end HdR
end L2.TB
namespace L2.TB
open PySem PySem.Spec PyProof.Rows
/-! ### the spring of draws -/
structure StrmAt (H : Hp) (l ls : Addr) (cs : List Int) (g k m N : Int) : Prop where
  o : H l = some (.lst [.ref ls, .int g, .int k, .int m])
  c : H ls = some (.lst (cs.map V.int))
  ne : ls ≠ l
  g0 : 0 ≤ g
  k0 : 0 ≤ k
  k1 : k ≤ N
  m0 : 0 ≤ m
  m1 : m < 2147483647
  sz : cs.length ≤ 100
def Strm (H : Hp) (l ls : Addr) (N : Int) : Prop := ∃ cs g k m, StrmAt H l ls cs g k m N
/-- all but the spring is as it was -/
def But (l ls : Addr) (H H' : Hp) : Prop := ∀ b o, b ≠ l → b ≠ ls → H b = some o → H' b = some o
theorem But.refl (l ls : Addr) (H : Hp) : But l ls H H := fun _ _ _ _ e => e
theorem But.trans {l ls : Addr} {H H1 H2 : Hp} (a : But l ls H H1) (b : But l ls H1 H2) : But l ls H H2 := fun c o h1 h2 e => b c o h1 h2 (a c o h1 h2 e)
theorem But.of {l ls : Addr} {H H' : Hp} (a : Same H H') : But l ls H H' := fun c o _ _ e => a c o e
theorem But.upd {l ls a : Addr} {H : Hp} {o : HO} (h : a = l ∨ a = ls) : But l ls H (upd H a o) := fun b u h1 h2 e => by
  have ne : b ≠ a := by rcases h with h | h <;> (subst h; assumption)
  rw [upd_ne ne]; exact e
theorem dp_ints {K : PySem.W.Frag} {H : Hp} : ∀ cs : List Int, DpAll K H (cs.map V.int) (cs.map PyData.int)
  | [] => .nil
  | c :: cs => .cons (.int c) (dp_ints cs)
def spDraw : Sp := fun vs H Q _ => ∃ (l ls : Addr) (many N : Int), vs = [.ref l, .int many] ∧ Strm H l ls N ∧ N ≤ 1000000 ∧ 0 < many ∧ many < 1000 ∧
  ∀ H' r, 0 ≤ r → r < many → Strm H' l ls (N + 1) → But l ls H H' → Q (.int r) H'
theorem scDraw : FnScope ["stream", "many", "cell", "digit", "mixed"] ["stream", "many"] (defScope sDraw) := ⟨rfl, rfl, rfl, by decide +kernel, rfl, by decide +kernel, by decide +kernel⟩
theorem pow_nn (a : Int) (h : 0 ≤ a) : 0 ≤ a ^ (Int.toNat 5) := Int.pow_nonneg h
theorem at0 {a b c d : V} : atI [a, b, c, d] 0 = some a := rfl
theorem at1 {a b c d : V} : atI [a, b, c, d] 1 = some b := rfl
theorem at2 {a b c d : V} : atI [a, b, c, d] 2 = some c := rfl
theorem at3 {a b c d : V} : atI [a, b, c, d] 3 = some d := rfl
theorem draw_end {A B C many : Int} (h : 0 < many) : 0 ≤ A % B % many ∧ A % B % many < many :=
  ⟨Int.emod_nonneg _ (by omega), Int.emod_lt_of_pos _ h⟩
section
variable {P : Program} {w : World} {K : PySem.W.Frag} {mg : Str → Option Value} {base : Heap} {f : Addr} {fd : FuncData}
theorem ok_draw (F : Fun K "_law_draw" "_law_draw" sDraw f fd) (gI : mg "int" = none) : FnOk P w K mg base CX0 1 f fd ["stream", "many"] spDraw := by
  refine F.ok scDraw (fun vs H Q E h => by obtain ⟨l, ls, many, N, e, _⟩ := h; rw [e]; rfl) fun cdv A outer s H vs Q E hr hsp => ?_
  obtain ⟨l, ls, many, N, rfl, ⟨cs, g, k, m, S⟩, hN, h0, h1, hq⟩ := hsp
  have nd := scDraw.nd
  have hu := hu_of hr
  have hu64 := hr.units
  obtain ⟨tl, ptl, htl⟩ : ∃ t, PSs (cxOf CX0 P w K mg base ["stream", "many", "cell", "digit", "mixed"] "_law_draw" (defScope sDraw) f cdv A outer s H E).nox ((defBody sDraw).drop 2) t ∧
      ∀ (H1 : Hp) (c : Option V) (cs : List Int) (g k m : Int), StrmAt H1 l ls cs g k m (N + 1) → But l ls H H1 →
        t { nx := fun _ H' => Q .non H', rt := Q } [some (.ref l), some (.int many), c, none, none] H1 := by
    refine ⟨_, pss_cons (ps_if (pt_cmpR op_gt (pe_ix ix_list (pv 0) pe_int (fun _ _ => rfl)) pe_int (nomark _))
      (pss_cons (ps_set (i := 3) nd rfl (Or.inl rfl) (pe_op op_mod (pe_callTy call_int1 rfl gI boot_int (pa_cons (pe_ix ix_list (pv 0) pe_int (fun _ _ => rfl)) pa_nil)) (pv 1)))
      (pss_cons (ps_asg (pe_op op_fdiv (pe_ix ix_list (pv 0) pe_int (fun _ _ => rfl)) (pv 1)) (pg_sub (pv 0) pe_int set_list))
      (pss_one (ps_ret (pv 3)))))
      pss_nil)
    (pss_cons (ps_set (i := 4) nd rfl (Or.inl rfl) (pe_op op_mod (pe_callTy call_int1 rfl gI boot_int (pa_cons (pe_op op_pow (pe_op op_add (pe_op op_add (pe_ix ix_list (pv 0) pe_int (fun _ _ => rfl)) (pe_op op_mul pe_int (pe_ix ix_list (pv 0) pe_int (fun _ _ => rfl)))) pe_int) pe_int) pa_nil)) pe_int))
    (pss_one (ps_ret (pe_op op_mod (pe_op op_mod (pe_callTy call_int1 rfl gI boot_int (pa_cons (pe_op op_pow (pe_op op_add (pe_op op_add (pe_op op_mul (pv 4) pe_int) (pe_op op_mul pe_int (pe_ix ix_list (pv 0) pe_int (fun _ _ => rfl)))) pe_int) pe_int) pa_nil)) pe_int) (pv 1))))), fun H1 c cs g k m S hB => ?_⟩
    refine ⟨_, rfl, _, _, _, _, rfl, rfl, SqL.of S.o, at1, _, _, rfl, rfl, _, rfl, ite2 (fun e => ?_) (fun e => ?_)⟩
    · refine ⟨_, rfl, _, _, _, _, rfl, rfl, SqL.of S.o, at1, .inl ⟨_, rfl, ?_⟩⟩
      refine ⟨_, rfl, _, _, rfl, rfl, h0, ?_⟩
      refine ⟨_, rfl, _, _, _, _, rfl, rfl, SqL.of S.o, at1, _, rfl, _, _, rfl, rfl, ⟨h0, by omega⟩, ?_⟩
      refine ⟨_, rfl, _, _, _, _, rfl, rfl, S.o, rfl, ?_⟩
      refine ⟨_, rfl, ?_⟩
      refine hq _ _ (Int.emod_nonneg _ (by omega)) (Int.emod_lt_of_pos _ h0) ⟨cs, g / many, k, m, ⟨upd_same, ?_, S.ne, Int.ediv_nonneg S.g0 (by omega), S.k0, S.k1, S.m0, S.m1, S.sz⟩⟩ (hB.trans (But.upd (.inl rfl)))
      rw [upd_ne S.ne]; exact S.c
    · have hk := S.k1
      have hk0 := S.k0
      have hm := S.m0
      have hm1 := S.m1
      refine ⟨_, rfl, _, _, _, _, rfl, rfl, SqL.of S.o, at3, _, rfl, _, _, _, _, rfl, rfl, SqL.of S.o, at2, _, _, rfl, rfl, .inl ⟨by decide, by decide⟩, _, _, rfl, rfl, _, _, rfl, rfl, _, _, rfl, rfl, ⟨by decide, by decide, ?_⟩, ?_⟩
      · omega
      refine .inl ⟨_, rfl, _, _, rfl, rfl, (by show (0 : Int) < 2147483629; decide), ?_⟩
      have e1 := Int.emod_nonneg ((m + 7919 * k + 104729) ^ Int.toNat 5) (show (2147483629 : Int) ≠ 0 by decide)
      have e2 := Int.emod_lt_of_pos ((m + 7919 * k + 104729) ^ Int.toNat 5) (show (0 : Int) < 2147483629 by decide)
      generalize (m + 7919 * k + 104729) ^ Int.toNat 5 % 2147483629 = z at e1 e2 ⊢
      refine ⟨_, rfl, _, _, rfl, rfl, .inr ⟨by decide, by decide⟩, _, rfl, _, _, _, _, rfl, rfl, SqL.of S.o, at2, _, _, rfl, rfl, .inl ⟨by decide, by decide⟩, _, _, rfl, rfl, _, _, rfl, rfl, _, _, rfl, rfl, ⟨by decide, by decide, ?_⟩, ?_⟩
      · omega
      refine .inl ⟨_, rfl, _, _, rfl, rfl, (by show (0 : Int) < 1000000007; decide), _, rfl, _, _, rfl, rfl, h0, ?_⟩
      exact hq _ _ (Int.emod_nonneg _ (by omega)) (Int.emod_lt_of_pos _ h0) ⟨cs, g, k, m, S⟩ hB
  refine ⟨_, pss_cons (ps_asg (pe_op op_add (pe_ix ix_list (pv 0) pe_int (fun _ _ => rfl)) pe_int) (pg_sub (pv 0) pe_int set_list))
    (pss_cons (ps_if (PW.pt (pw_and (pt_cmpR op_eq (pe_ix ix_list (pv 0) pe_int (fun _ _ => rfl)) pe_int (nomark _))
        (pw_and1 (pt_cmpR (op_neD hu64) (pe_ix ix_list (pv 0) pe_int (fun _ _ => rfl)) (pe_lst pa_nil) (nomark _)))))
      (pss_cons (ps_set (i := 2) nd rfl (Or.inl rfl) (pe_bm PySem.F.plainAttrs_list PySem.F.slot_list_pop PySem.F.type_list_pop mt_popAt (pe_ix ix_list (pv 0) pe_int (fun _ _ => rfl)) (pa_cons pe_int pa_nil)))
      (pss_cons (ps_asg (pe_op op_mod (pe_callTy call_int1 rfl gI boot_int (pa_cons (pe_op op_add (pe_op op_add (pe_op op_mul (pe_ix ix_list (pv 0) pe_int (fun _ _ => rfl)) pe_int) (pv 2)) pe_int) pa_nil)) pe_int) (pg_sub (pv 0) pe_int set_list))
      (pss_one (ps_asg (pe_ifExp (pt_cmpR op_ge (pv 2) (pe_op op_pow pe_int pe_int) (nomark _)) (pv 2) pe_int) (pg_sub (pv 0) pe_int set_list)))))
      pss_nil) ptl), ?_⟩
  refine ⟨_, rfl, _, _, _, _, rfl, rfl, SqL.of S.o, at2, _, _, rfl, rfl, _, rfl, _, _, _, _, rfl, rfl, S.o, rfl, ?_⟩
  have S1 : StrmAt (upd H l (.lst [.ref ls, .int g, .int (k + 1), .int m])) l ls cs g (k + 1) m (N + 1) :=
    ⟨upd_same, by rw [upd_ne S.ne]; exact S.c, S.ne, S.g0, by have := S.k0; omega, by have := S.k1; omega, S.m0, S.m1, S.sz⟩
  have B1 : But l ls H (upd H l (.lst [.ref ls, .int g, .int (k + 1), .int m])) := But.upd (.inl rfl)
  refine ⟨_, rfl, _, _, _, _, rfl, rfl, SqL.of S1.o, at1, rfl, _, rfl, ite2 (fun e => ?_) (fun e => ?_)⟩
  · refine ⟨_, rfl, _, _, _, _, rfl, rfl, SqL.of S1.o, at0, Nat.zero_le _, fun q nq => ?_⟩
    have ql : q ≠ l := by
      intro z; rw [z, upd_same] at nq; cases nq
    have qs : q ≠ ls := by
      intro z; rw [z, upd_ne S.ne] at nq; rw [S.c] at nq; cases nq
    have S2 : StrmAt (upd (upd H l (.lst [.ref ls, .int g, .int (k + 1), .int m])) q (.lst [])) l ls cs g (k + 1) m (N + 1) :=
      ⟨by rw [upd_ne (Ne.symm ql)]; exact S1.o, by rw [upd_ne (Ne.symm qs)]; exact S1.c, S.ne, S1.g0, S1.k0, S1.k1, S1.m0, S1.m1, S1.sz⟩
    have B2 : But l ls H (upd (upd H l (.lst [.ref ls, .int g, .int (k + 1), .int m])) q (.lst [])) := B1.trans (But.of fun b o eb => by
      rw [upd_ne (ne_of_none eb nq)]; exact eb)
    refine ⟨.list (cs.map .int), .list [], .lst (SqL.of S2.c) (dp_ints cs), .lst (SqL.of upd_same) .nil, PySem.W.shaped_ints cs, by decide, ?_⟩
    cases cs with
    | nil =>
      refine ⟨_, rfl, iteF ?_⟩
      exact htl _ none [] g (k + 1) m S2 B2
    | cons c cs =>
      refine ⟨_, rfl, iteT ?_⟩
      refine ⟨_, rfl, _, _, _, _, rfl, rfl, SqL.of S2.o, at0, .inl ⟨rfl, _, SqL.of S2.c⟩, ?_⟩
      have ix0 : ixN ((c :: cs).map V.int).length 0 = some 0 := by
        simp [ixN]
      refine ⟨ls, _, 0, 0, .int c, rfl, rfl, S2.c, by decide, by decide, (ixN_seq ix0).1, rfl, ?_⟩
      have S3 : StrmAt (upd (upd (upd H l (.lst [.ref ls, .int g, .int (k + 1), .int m])) q (.lst [])) ls (.lst (cs.map V.int))) l ls cs g (k + 1) m (N + 1) :=
        ⟨by rw [upd_ne (Ne.symm S.ne)]; exact S2.o, upd_same, S.ne, S2.g0, S2.k0, S2.k1, S2.m0, S2.m1, by have := S2.sz; simp only [List.length_cons] at this; omega⟩
      have B3 := B2.trans (But.upd (l := l) (ls := ls) (a := ls) (H := upd (upd H l (.lst [.ref ls, .int g, .int (k + 1), .int m])) q (.lst [])) (o := .lst (cs.map V.int)) (.inr rfl))
      have hm0 := S.m0
      have hm1 := S.m1
      refine ⟨_, rfl, _, _, _, _, rfl, rfl, SqL.of S3.o, at3, _, _, rfl, rfl, .inl ⟨by omega, by omega⟩, _, rfl, _, _, rfl, rfl, _, _, rfl, rfl, .inl ⟨_, rfl, _, _, rfl, rfl, (by show (0 : Int) < 2147483647; decide), ?_⟩⟩
      refine ⟨_, rfl, _, _, _, _, rfl, rfl, S3.o, rfl, ?_⟩
      have S4 : StrmAt (upd (upd (upd (upd H l (.lst [.ref ls, .int g, .int (k + 1), .int m])) q (.lst [])) ls (.lst (cs.map V.int))) l (.lst [.ref ls, .int g, .int (k + 1), .int ((m * 8191 + c + 3) % 2147483647)])) l ls cs g (k + 1) ((m * 8191 + c + 3) % 2147483647) (N + 1) :=
        ⟨upd_same, by rw [upd_ne S.ne]; exact S3.c, S.ne, S3.g0, S3.k0, S3.k1, Int.emod_nonneg _ (by decide), Int.emod_lt_of_pos _ (by decide), S3.sz⟩
      have B4 := B3.trans (But.upd (l := l) (ls := ls) (a := l) (o := .lst [.ref ls, .int g, .int (k + 1), .int ((m * 8191 + c + 3) % 2147483647)]) (.inl rfl))
      refine ⟨_, rfl, _, _, rfl, rfl, ⟨by decide, by decide, by decide⟩, _, _, rfl, rfl, _, rfl, ite2 (fun e4 => ?_) (fun e4 => ?_)⟩
      · refine ⟨_, rfl, _, rfl, _, _, _, _, rfl, rfl, S4.o, rfl, ?_⟩
        have hc : (0 : Int) ≤ c := by
          have z := of_decide_eq_true e4
          have z2 : (0 : Int) ≤ 10 ^ (Int.toNat 18) := Int.pow_nonneg (by decide)
          omega
        exact htl _ (some (.int c)) cs c (k + 1) ((m * 8191 + c + 3) % 2147483647)
          ⟨upd_same, by rw [upd_ne S.ne]; exact S4.c, S.ne, hc, S4.k0, S4.k1, S4.m0, S4.m1, S4.sz⟩ (B4.trans (But.upd (.inl rfl)))
      · refine ⟨_, rfl, _, _, _, _, rfl, rfl, S4.o, rfl, ?_⟩
        exact htl _ (some (.int c)) cs 0 (k + 1) ((m * 8191 + c + 3) % 2147483647)
          ⟨upd_same, by rw [upd_ne S.ne]; exact S4.c, S.ne, by decide, S4.k0, S4.k1, S4.m0, S4.m1, S4.sz⟩ (B4.trans (But.upd (.inl rfl)))
  · refine iteF ?_
    exact htl _ none cs g (k + 1) m S1 B1
def spStart (K : PySem.W.Frag) : Sp := fun vs H Q _ => ∃ (a : Addr) (ns : List Int), vs = [.ref a] ∧ SqL K H a (ns.map V.int) ∧ ns.length ≤ 100 ∧
  ∀ H' l ls, H l = none → Same H H' → Strm H' l ls 0 → H ls = none → Q (.ref l) H'
theorem scStart : FnScope ["script"] ["script"] (defScope sStart) := ⟨rfl, rfl, rfl, by decide +kernel, rfl, by decide +kernel, by decide +kernel⟩
theorem ok_start (F : Fun K "_law_start" "_law_start" sStart f fd) (gL : mg "list" = none) : FnOk P w K mg base CX0 1 f fd ["script"] (spStart K) := by
  refine F.ok scStart (fun vs H Q E h => by obtain ⟨a, ns, e, _⟩ := h; rw [e]; rfl) fun cdv A outer s H vs Q E hr hsp => ?_
  obtain ⟨a, ns, rfl, hS, hn, hq⟩ := hsp
  refine ⟨_, pss_one (ps_ret (pe_lst (pa_cons (pe_callTy call_list_of rfl gL (by decide +kernel) (pa_cons (pv 0) pa_nil)) (pa_cons pe_int (pa_cons pe_int (pa_cons pe_int pa_nil)))))), ?_⟩
  refine ⟨_, rfl, _, _, rfl, .inl hS, fun ls hls => ⟨by rw [sizeLine_eq]; show 4 ≤ _; omega, fun l hl => ?_⟩⟩
  have ne : ls ≠ l := by
    intro z; rw [← z, upd_same] at hl; cases hl
  have hl2 : H l = none := by rw [upd_ne (Ne.symm ne)] at hl; exact hl
  exact hq _ l ls hl2 (fun b o e => by rw [upd_ne (ne_of_none e hl2), upd_ne (ne_of_none e hls)]; exact e)
    ⟨ns, 0, 0, 11, ⟨upd_same, by rw [upd_ne ne, upd_same], ne, by decide, by decide, by decide, by decide, by decide, hn⟩⟩ hls
def spPick (K : PySem.W.Frag) : Sp := fun vs H Q _ => ∃ (l ls c : Addr) (xs : List V) (N : Int), vs = [.ref l, .ref c] ∧ Strm H l ls N ∧ N ≤ 1000000 ∧
  c ≠ l ∧ c ≠ ls ∧ H c = some (.lst xs) ∧ 0 < xs.length ∧ xs.length < 1000 ∧
  ∀ H' x, x ∈ xs → Strm H' l ls (N + 1) → But l ls H H' → Q x H'
theorem scPick : FnScope ["stream", "some"] ["stream", "some"] (defScope sPick) := ⟨rfl, rfl, rfl, by decide +kernel, rfl, by decide +kernel, by decide +kernel⟩
theorem ok_pick {fD : Addr} {fdD : FuncData} (F : Fun K "_law_pick" "_law_pick" sPick f fd) (FD : Fun K "_law_draw" "_law_draw" sDraw fD fdD)
    (gD : mg "_law_draw" = some (.ref fD)) (gI : mg "int" = none) (gN : mg "len" = none) : FnOk P w K mg base CX0 2 f fd ["stream", "some"] (spPick K) := by
  have G : FnOk P w K mg base CX0 1 fD fdD ["stream", "many"] spDraw := ok_draw FD gI
  have b := FD.binds (ps := ["stream", "many"]) fun _ _ _ _ _ _ us hl => match us, hl with | [_, _], _ => rfl
  refine F.ok scPick (fun vs H Q E h => by obtain ⟨l, ls, c, xs, N, e, _⟩ := h; rw [e]; rfl) fun cdv A outer s H vs Q E hr hsp => ?_
  obtain ⟨l, ls, c, xs, N, rfl, hS, hN, n1, n2, hc, h0, h1, hq⟩ := hsp
  refine ⟨_, pss_one (ps_ret (pe_ix ix_list (pv 1) (pe_call G hr rfl gD FD.kp b .nil pass0 (pa_cons (pv 0) (pa_cons (pe_callB call_len rfl gN boot_len (pa_cons (pv 1) pa_nil)) pa_nil))) (fun _ _ => rfl))), ?_⟩
  refine ⟨_, rfl, _, rfl, _, rfl, _, xs.length, rfl, .inl ⟨_, SqL.of hc, rfl⟩, ?_⟩
  refine ⟨l, ls, _, N, rfl, hS, hN, by omega, by omega, fun H' r r0 r1 S' B' => ?_⟩
  have hr2 : r.toNat < xs.length := by omega
  refine ⟨_, _, _, xs[r.toNat], rfl, rfl, SqL.of (B' c _ n1 n2 hc), ?_, hq H' _ (List.getElem_mem _) S' B'⟩
  have e : ((r.toNat : Nat) : Int) = r := by omega
  have z := atI_nat (xs := xs) (j := r.toNat) (v := xs[r.toNat]) (by simp)
  rw [e] at z
  exact z
end
end L2.TB
namespace L2.TB
open PySem PySem.Spec PyProof.Rows
theorem same_new {H : Hp} {p : Addr} {o : HO} (n : H p = none) : Same H (upd H p o) := fun c u z => by rw [upd_ne (ne_of_none z n)]; exact z
theorem Strm.same {H H' : Hp} {l ls : Addr} {N : Int} (h : Strm H l ls N) (s : Same H H') : Strm H' l ls N := by
  obtain ⟨cs, g, k, m, S⟩ := h
  exact ⟨cs, g, k, m, s _ _ S.o, s _ _ S.c, S.ne, S.g0, S.k0, S.k1, S.m0, S.m1, S.sz⟩
theorem Strm.some {H : Hp} {l ls : Addr} {N : Int} (h : Strm H l ls N) : (∃ o, H l = some o) ∧ ∃ o, H ls = some o := by
  obtain ⟨cs, g, k, m, S⟩ := h
  exact ⟨⟨_, S.o⟩, ⟨_, S.c⟩⟩
/-- what was not there is not the spring -/
theorem Strm.apart {H H' : Hp} {l ls p : Addr} {N : Int} (h : Strm H l ls N) (s : Same H H') (n : H' p = none) : p ≠ l ∧ p ≠ ls := by
  obtain ⟨⟨o, e⟩, ⟨o', e'⟩⟩ := h.some
  exact ⟨(fun z => by rw [z, s _ _ e] at n; cases n), (fun z => by rw [z, s _ _ e'] at n; cases n)⟩
def spPickS : Sp := fun vs H Q _ => ∃ (l ls : Addr) (x : Str) (N : Int), vs = [.ref l, .str x] ∧ Strm H l ls N ∧ N ≤ 1000000 ∧ 0 < x.cps.size ∧ x.cps.size < 1000 ∧
  ∀ H' c, c ∈ x.cps.toList → Strm H' l ls (N + 1) → But l ls H H' → Q (.str ⟨#[c]⟩) H'
/-- a mixed list: what was in it, in some order -/
def spMixed (K : PySem.W.Frag) : Sp := fun vs H Q _ => ∃ (l ls c : Addr) (xs : List V) (N : Int), vs = [.ref l, .ref c] ∧ Strm H l ls N ∧ N ≤ 900000 ∧ SqL K H c xs ∧ xs.length < 1000 ∧
  ∀ H' q ys, ys.Perm xs → H q = none → H' q = some (.lst ys) → Strm H' l ls (N + xs.length) → But l ls H H' → Q (.ref q) H'
theorem scMixed : FnScope ["stream", "some", "left", "k"] ["stream", "some"] (defScope sMixed) := ⟨rfl, rfl, rfl, by decide +kernel, rfl, by decide +kernel, by decide +kernel⟩
theorem pop_perm : ∀ (l : List V) (k : Nat) (y : V), l[k]? = some y → (y :: l.eraseIdx k).Perm l
  | [], k, y, h => by simp at h
  | a :: l, 0, y, h => by
    obtain rfl : a = y := by simpa using h
    exact List.Perm.refl _
  | a :: l, k + 1, y, h => by
    have z := pop_perm l k y (by simpa using h)
    exact (List.Perm.swap a y _).trans (z.cons a)
section
variable {P : Program} {w : World} {K : PySem.W.Frag} {mg : Str → Option Value} {base : Heap} {f fD fP fM : Addr} {fd fdD fdP fdM : FuncData}
theorem ok_pickS (F : Fun K "_law_pick" "_law_pick" sPick f fd) (FD : Fun K "_law_draw" "_law_draw" sDraw fD fdD)
    (gD : mg "_law_draw" = some (.ref fD)) (gI : mg "int" = none) (gN : mg "len" = none) : FnOk P w K mg base CX0 2 f fd ["stream", "some"] spPickS := by
  have G : FnOk P w K mg base CX0 1 fD fdD ["stream", "many"] spDraw := ok_draw FD gI
  have b := FD.binds (ps := ["stream", "many"]) fun _ _ _ _ _ _ us hl => match us, hl with | [_, _], _ => rfl
  refine F.ok scPick (fun vs H Q E h => by obtain ⟨l, ls, x, N, e, _⟩ := h; rw [e]; rfl) fun cdv A outer s H vs Q E hr hsp => ?_
  obtain ⟨l, ls, x, N, rfl, hS, hN, h0, h1, hq⟩ := hsp
  refine ⟨_, pss_one (ps_ret (pe_ix ix_str (pv 1) (pe_call G hr rfl gD FD.kp b .nil pass0 (pa_cons (pv 0) (pa_cons (pe_callB call_len rfl gN boot_len (pa_cons (pv 1) pa_nil)) pa_nil))) (fun _ _ => rfl))), ?_⟩
  have hz : x.length ≤ sizeLine := by rw [sizeLine_eq]; show x.cps.size ≤ _; omega
  have hl : ((x.length : Nat) : Int) = (x.cps.size : Int) := rfl
  refine ⟨_, rfl, _, rfl, _, rfl, _, x.length, rfl, ⟨hz, rfl⟩, ?_⟩
  refine ⟨l, ls, _, N, rfl, hS, hN, by omega, by omega, fun H' r r0 r1 S' B' => ?_⟩
  have hr2 : r.toNat < x.cps.toList.length := by rw [Array.length_toList]; omega
  refine ⟨x, r, x.cps.toList[r.toNat], rfl, rfl, hz, ?_, hq H' _ (List.getElem_mem _) S' B'⟩
  have e : ((r.toNat : Nat) : Int) = r := by omega
  have z := atI_nat (xs := x.cps.toList) (j := r.toNat) (v := x.cps.toList[r.toNat]) (by simp)
  rw [e] at z
  exact z
theorem ok_mixed (F : Fun K "_law_mixed" "_law_mixed" sMixed f fd) (FD : Fun K "_law_draw" "_law_draw" sDraw fD fdD)
    (gD : mg "_law_draw" = some (.ref fD)) (gI : mg "int" = none) (gN : mg "len" = none) (gL : mg "list" = none) (gR : mg "range" = none) : FnOk P w K mg base CX0 2 f fd ["stream", "some"] (spMixed K) := by
  have G : FnOk P w K mg base CX0 1 fD fdD ["stream", "many"] spDraw := ok_draw FD gI
  have b := FD.binds (ps := ["stream", "many"]) fun _ _ _ _ _ _ us hl => match us, hl with | [_, _], _ => rfl
  refine F.ok scMixed (fun vs H Q E h => by obtain ⟨l, ls, c, xs, N, e, _⟩ := h; rw [e]; rfl) fun cdv A outer s H vs Q E hr hsp => ?_
  obtain ⟨l, ls, c, xs, N, rfl, hS, hN, hc, h1, hq⟩ := hsp
  have nd := scMixed.nd
  refine ⟨_, pss_cons (ps_set (i := 2) nd rfl (Or.inr rfl) (pe_callTy call_list_of rfl gL (by decide +kernel) (pa_cons (pv 1) pa_nil)))
    (pss_one (ps_ret (pe_lc (own := [("k", 3)]) (tt := tYes) (te := tBM K "list" rPopAt (tVar 2) (tCons (tCall spDraw [] E0 (tCons (tVar 0) (tCons (tCB (rLen K) (tCons (tVar 2) tNil)) tNil))) tNil)) rfl nd (pi_range1 rfl gR (pa_cons (pe_callB call_len rfl gN boot_len (pa_cons (pv 2) pa_nil)) pa_nil)) (blkOk_by (N := ["stream", "some", "left", "k"]) (sc := defScope sMixed) (by decide +kernel))
      (fun _ _ _ _ _ => pg_name (i := 3) nd rfl (Or.inl rfl)) (fun _ _ _ _ _ => pts_nil)
      (fun _ _ _ _ _ => pe_bm PySem.F.plainAttrs_list PySem.F.slot_list_pop PySem.F.type_list_pop mt_popAt (pv 2) (pa_cons (pe_call G hr rfl gD FD.kp b .nil pass0 (pa_cons (pv 0) (pa_cons (pe_callB call_len rfl gN boot_len (pa_cons (pv 2) pa_nil)) pa_nil))) pa_nil))))), ?_⟩
  refine ⟨_, rfl, c, xs, rfl, .inl hc, fun p np => ?_⟩
  have kp := same_new (o := .lst xs) np
  have ap := hS.apart (Same.refl _) np
  refine ⟨_, rfl, .ref p, xs.length, rfl, .inl ⟨_, SqL.of upd_same, rfl⟩, _, rfl, by omega, by omega, fun q nq => ?_⟩
  have aq := hS.apart kp nq
  have pq : p ≠ q := fun z => by rw [← z, upd_same] at nq; cases nq
  have nq0 : H q = none := Same.free kp nq
  refine lc_range (n := xs.length) (fun i H' => ∃ done rest, H' q = some (.lst done) ∧ H' p = some (.lst rest) ∧ done.length = i ∧ (done ++ rest).Perm xs ∧ Strm H' l ls (N + i) ∧ But l ls H H')
    ⟨[], xs, upd_same, by rw [upd_ne pq]; exact upd_same, rfl, List.Perm.refl _, by simpa using ((hS.same kp).same (same_new nq)), But.of (kp.trans (same_new nq))⟩ ?_ ?_
  · rintro i H3 hi ⟨done, rest, oq, op, ln, pm, S3, B3⟩
    have hlen : done.length + rest.length = xs.length := by rw [← pm.length_eq, List.length_append]
    refine ⟨rfl, ?_⟩
    refine ⟨_, rfl, .inl ⟨rfl, _, SqL.of op⟩, _, rfl, _, rfl, .ref p, rest.length, rfl, .inl ⟨_, SqL.of op, rfl⟩, ?_⟩
    refine ⟨l, ls, _, _, rfl, S3, by omega, by omega, by omega, fun H4 r r0 r1 S4 B4 => ?_⟩
    have hr2 : r.toNat < rest.length := by omega
    have er : ((r.toNat : Nat) : Int) = r := by omega
    have ix0 : ixN rest.length r = some r.toNat := by
      unfold ixN
      rw [if_pos r0, if_pos r1]
    refine ⟨p, rest, r, r.toNat, rest[r.toNat], rfl, rfl, B4 _ _ ap.1 ap.2 op, by omega, by omega, (ixN_seq ix0).1, by simp, done, ?_, (by rw [sizeLine_eq]; omega), done ++ [rest[r.toNat]], rest.eraseIdx r.toNat, upd_same, ?_, by simp [ln], ?_, ?_, ?_⟩
    · rw [upd_ne (Ne.symm pq)]; exact B4 _ _ aq.1 aq.2 oq
    · rw [upd_ne pq, upd_same]
    · have z := pop_perm rest r.toNat rest[r.toNat] (by simp)
      rw [List.append_assoc]
      exact (List.Perm.append_left done z).trans pm
    · obtain ⟨cs, g, k, m, S⟩ := S4
      have e1 : N + ((i + 1 : Nat) : Int) = N + (i : Int) + 1 := by omega
      rw [e1]
      exact ⟨cs, g, k, m, by rw [upd_ne (Ne.symm aq.1), upd_ne (Ne.symm ap.1)]; exact S.o, by rw [upd_ne (Ne.symm aq.2), upd_ne (Ne.symm ap.2)]; exact S.c, S.ne, S.g0, S.k0, S.k1, S.m0, S.m1, S.sz⟩
    · intro b o h1 h2 e
      have nb : b ≠ q := ne_of_none e nq0
      have nb2 : b ≠ p := ne_of_none e np
      rw [upd_ne nb, upd_ne nb2]
      exact B4 _ _ h1 h2 (B3 _ _ h1 h2 e)
  · rintro H3 ⟨done, rest, oq, op, ln, pm, S3, B3⟩
    have hlen : done.length + rest.length = xs.length := by rw [← pm.length_eq, List.length_append]
    have er : rest = [] := List.eq_nil_of_length_eq_zero (by omega)
    subst er
    rw [List.append_nil] at pm
    exact hq H3 q done pm nq0 oq S3 B3
end
end L2.TB
namespace L2.TB
open PySem PySem.Spec PyProof.Rows
theorem Strm.mono {H : Hp} {l ls : Addr} {N M : Int} (h : Strm H l ls N) (le : N ≤ M) : Strm H l ls M := by
  obtain ⟨cs, g, k, m, S⟩ := h
  exact ⟨cs, g, k, m, S.o, S.c, S.ne, S.g0, S.k0, by have := S.k1; omega, S.m0, S.m1, S.sz⟩
/-- some of a mixed list -/
def spSome (K : PySem.W.Frag) : Sp := fun vs H Q _ => ∃ (l ls c : Addr) (xs : List V) (N : Int), vs = [.ref l, .ref c] ∧ Strm H l ls N ∧ N ≤ 800000 ∧ H c = some (.lst xs) ∧ c ≠ l ∧ c ≠ ls ∧ xs.length < 100 ∧
  ∀ H' q ys zs, (ys ++ zs).Perm xs → H q = none → H' q = some (.lst ys) → Strm H' l ls (N + 200) → But l ls H H' → Q (.ref q) H'
theorem scSome : FnScope ["stream", "names"] ["stream", "names"] (defScope sSome) := ⟨rfl, rfl, rfl, by decide +kernel, rfl, by decide +kernel, by decide +kernel⟩
theorem cut_to (xs : List V) (r : Int) (h0 : 0 ≤ r) (h1 : r < xs.length + 1) : cutV xs none (some r) = xs.take r.toNat := by
  have e1 : HT.sIx xs.length 0 none = 0 := rfl
  have e2 : HT.sIx xs.length xs.length (some r) = r.toNat := by
    unfold HT.sIx
    simp only []
    rw [if_neg (show ¬ r < 0 by omega)]
    omega
  unfold cutV
  rw [e1, e2]; simp
section
variable {P : Program} {w : World} {K : PySem.W.Frag} {mg : Str → Option Value} {base : Heap} {f fD fP fM : Addr} {fd fdD fdP fdM : FuncData}
theorem ok_some (F : Fun K "_law_t_some" "_law_t_some" sSome f fd) (FM : Fun K "_law_mixed" "_law_mixed" sMixed fM fdM) (gM : mg "_law_mixed" = some (.ref fM)) (FD : Fun K "_law_draw" "_law_draw" sDraw fD fdD)
    (gD : mg "_law_draw" = some (.ref fD)) (gI : mg "int" = none) (gN : mg "len" = none) (gL : mg "list" = none) (gR : mg "range" = none) : FnOk P w K mg base CX0 3 f fd ["stream", "names"] (spSome K) := by
  have G : FnOk P w K mg base CX0 1 fD fdD ["stream", "many"] spDraw := ok_draw FD gI
  have b := FD.binds (ps := ["stream", "many"]) fun _ _ _ _ _ _ us hl => match us, hl with | [_, _], _ => rfl
  have GM : FnOk P w K mg base CX0 2 fM fdM ["stream", "some"] (spMixed K) := ok_mixed FM FD gD gI gN gL gR
  have bM := FM.binds (ps := ["stream", "some"]) fun _ _ _ _ _ _ us hl => match us, hl with | [_, _], _ => rfl
  refine F.ok scSome (fun vs H Q E h => by obtain ⟨l, ls, c, xs, N, e, _⟩ := h; rw [e]; rfl) fun cdv A outer s H vs Q E hr hsp => ?_
  obtain ⟨l, ls, c, xs, N, rfl, hS, hN, hc, cl, cls, h1, hq⟩ := hsp
  refine ⟨_, pss_one (ps_ret (pe_slice sl_list (pe_call GM hr rfl gM FM.kp bM .nil pass0 (pa_cons (pv 0) (pa_cons (pv 1) pa_nil))) po_none (po_some (pe_call G (hr.mono (by decide)) rfl gD FD.kp b .nil pass0 (pa_cons (pv 0) (pa_cons (pe_op op_add (pe_callB call_len rfl gN boot_len (pa_cons (pv 1) pa_nil)) pe_int) pa_nil)))))), ?_⟩
  refine ⟨_, rfl, _, rfl, l, ls, c, xs, N, rfl, hS, by omega, SqL.of hc, by omega, fun H1 q ys pm nq oq S1 B1 => ?_⟩
  have aq := hS.apart (Same.refl _) nq
  have hcl := B1 _ _ cl cls hc
  refine ⟨_, rfl, _, rfl, .ref c, xs.length, rfl, .inl ⟨_, SqL.of hcl, rfl⟩, _, _, rfl, rfl, ?_⟩
  refine ⟨l, ls, _, _, rfl, S1, by omega, by omega, by omega, fun H2 r r0 r1 S2 B2 => ?_⟩
  refine ⟨r, rfl, q, ys, rfl, SqL.of (B2 _ _ aq.1 aq.2 oq), fun p np => ?_⟩
  have ly : ys.length = xs.length := pm.length_eq
  rw [cut_to ys r r0 (by rw [ly]; exact r1)]
  refine hq _ p (ys.take r.toNat) (ys.drop r.toNat) (by rw [List.take_append_drop]; exact pm) ?_ upd_same ((S2.same (same_new np)).mono (by omega)) ((B1.trans B2).trans (But.of (same_new np)))
  have ap := S2.apart (Same.refl _) np
  cases e : H p with
  | none => rfl
  | some o => have z := (B1.trans B2) _ _ ap.1 ap.2 e; rw [z] at np; cases np
end
end L2.TB
namespace L2.TB
open PySem PySem.Spec PyProof.Rows
def signsL : List Nat := (Str.ofString "abcdefghijklmnopqrstuvwxyz0123456789.").cps.toList
/-- a name that is_name lets pass -/
def NmOk (x : Str) : Prop := 1 ≤ x.cps.toList.length ∧ x.cps.toList.length ≤ 40 ∧ ∀ c ∈ x.cps.toList, c ∈ signsL
def wordL : List Nat := (Str.ofString "abcxyz019").cps.toList
def letL : List Nat := (Str.ofString "abcdefghijklmnopqrstuvwxyz").cps.toList
theorem word_sub : ∀ c ∈ wordL, c ∈ signsL := by decide +kernel
theorem let_sub : ∀ c ∈ letL, c ∈ signsL := by decide +kernel
theorem join_flat : ∀ cs : List Nat, TL.joinL [] (cs.map fun c => [c]) = cs
  | [] => rfl
  | [c] => rfl
  | c :: d :: r => by
    show [c] ++ ([] ++ TL.joinL [] ((d :: r).map fun c => [c])) = _
    rw [join_flat (d :: r)]; rfl
theorem join_cps (cs : List Nat) : (Txt.join (Str.ofString "") (cs.map fun c => (⟨#[c]⟩ : Str))).cps.toList = cs := by
  rw [TL.join_eq]
  have e := TL.tl_join (Str.ofString "") (cs.map fun c => (⟨#[c]⟩ : Str))
  have e2 : (cs.map fun c => (⟨#[c]⟩ : Str)).map TL.tl = cs.map fun c => [c] := by rw [List.map_map]; rfl
  have e3 : TL.tl (Str.ofString "") = [] := by decide +kernel
  rw [e2, e3, join_flat] at e
  exact e
/-- the spare names: a letter and q -/
def spare (c : Nat) : Str := (⟨#[c]⟩ : Str) ++ Str.ofString "q"
theorem spare_ok : ∀ c ∈ letL, NmOk (spare c) := by
  unfold NmOk
  decide +kernel
theorem spare_nd : (letL.map spare).Nodup := by decide +kernel
theorem str_inj (a b : Str) : eqV (.str a) (.str b) = decide (a = b) := by
  show (a == b) = _
  by_cases h : a = b
  · subst h; simp
  · rw [decide_eq_false h]; simpa using h
theorem inV_strs (x : Str) : ∀ xs : List Str, inV (.str x) (xs.map V.str) = decide (x ∈ xs)
  | [] => by simp [inV]
  | a :: xs => by
    have e := inV_strs x xs
    unfold inV at e ⊢
    rw [List.map_cons, List.any_cons, e, str_inj]
    by_cases h : a = x
    · subst h; simp
    · by_cases h2 : x ∈ xs
      · simp [h2]
      · simp [h, h2, Ne.symm h]
theorem flat_strs (xs : List Str) : (xs.map V.str).all flatV = true := by
  rw [List.all_map]; exact List.all_eq_true.mpr fun _ _ => rfl
/-- some spare name is not among the found ones -/
theorem spare_left (w : Str) (found : List Str) (h : found.length < 26) : ((w :: letL.map spare).filter fun x => decide (x ∉ found)) ≠ [] := by
  intro e
  have sub : ∀ x ∈ letL.map spare, x ∈ found := fun x hx => by
    by_cases h2 : x ∈ found
    · exact h2
    · have z : x ∈ (w :: letL.map spare).filter fun x => decide (x ∉ found) := List.mem_filter.mpr ⟨List.mem_cons_of_mem _ hx, by simp [h2]⟩
      rw [e] at z; cases z
  have le := List.Nodup.length_le_of_subset spare_nd (fun x hx => sub x hx)
  have e26 : (letL.map spare).length = 26 := by decide +kernel
  omega
def spNames : Sp := fun vs H Q _ => ∃ (l ls : Addr) (many N : Int), vs = [.ref l, .int many] ∧ Strm H l ls N ∧ N ≤ 900000 ∧ 0 ≤ many ∧ many ≤ 20 ∧
  ∀ H' q (ns : List Str), (ns.length : Int) = many → ns.Nodup → (∀ x ∈ ns, NmOk x) → H q = none → H' q = some (.lst (ns.map V.str)) → Strm H' l ls (N + 5 * many) → But l ls H H' → Q (.ref q) H'
abbrev NN : List Str := ["stream", "many", "found", "k", "word", "spares", "sign", "letter", "one"]
theorem scNames : FnScope NN ["stream", "many"] (defScope sNames) := ⟨rfl, rfl, rfl, by decide +kernel, rfl, by decide +kernel, by decide +kernel⟩
section
variable {P : Program} {w : World} {K : PySem.W.Frag} {mg : Str → Option Value} {base : Heap} {f fD fP fM : Addr} {fd fdD fdP fdM : FuncData}
theorem ok_names (F : Fun K "_law_t_names" "_law_t_names" sNames f fd) (FP : Fun K "_law_pick" "_law_pick" sPick fP fdP) (gP : mg "_law_pick" = some (.ref fP)) (FD : Fun K "_law_draw" "_law_draw" sDraw fD fdD)
    (gD : mg "_law_draw" = some (.ref fD)) (gI : mg "int" = none) (gN : mg "len" = none) (gR : mg "range" = none) : FnOk P w K mg base CX0 3 f fd ["stream", "many"] spNames := by
  have G : FnOk P w K mg base CX0 1 fD fdD ["stream", "many"] spDraw := ok_draw FD gI
  have b := FD.binds (ps := ["stream", "many"]) fun _ _ _ _ _ _ us hl => match us, hl with | [_, _], _ => rfl
  have GP : FnOk P w K mg base CX0 2 fP fdP ["stream", "some"] spPickS := ok_pickS FP FD gD gI gN
  have bP := FP.binds (ps := ["stream", "some"]) fun _ _ _ _ _ _ us hl => match us, hl with | [_, _], _ => rfl
  refine F.ok scNames (fun vs H Q E h => by obtain ⟨l, ls, many, N, e, _⟩ := h; rw [e]; rfl) fun cdv A outer s H vs Q E hr hsp => ?_
  obtain ⟨l, ls, many, N, rfl, hS, hN, h0, h1, hq⟩ := hsp
  have nd := scNames.nd
  refine ⟨_, pss_cons (ps_set (i := 2) nd rfl (Or.inr rfl) (pe_lst pa_nil))
    (pss_cons (ps_for PassesOwn.never rfl (pi_range1 rfl gR (pa_cons (pv 1) pa_nil)) (pg_name (i := 3) nd rfl (Or.inl rfl))
      (pss_cons (ps_set (i := 4) nd rfl (Or.inl rfl) (pe_join pe_str (pe_lc (own := [("sign", 6)]) (tt := tYes) rfl nd (pi_range1 rfl gR (pa_cons (pe_op op_add pe_int (pe_call G (hr.mono (by decide)) rfl gD FD.kp b .nil pass0 (pa_cons (pv 0) (pa_cons pe_int pa_nil)))) pa_nil))
          (blkOk_by (N := NN) (sc := defScope sNames) (by decide +kernel)) (fun _ _ _ _ _ => pg_name (i := 6) nd rfl (Or.inl rfl)) (fun _ _ _ _ _ => pts_nil) (fun _ _ _ _ _ => pe_call GP hr rfl gP FP.kp bP .nil pass0 (pa_cons (pv 0) (pa_cons pe_str pa_nil))))))
      (pss_cons (ps_set (i := 5) nd rfl (Or.inl rfl) (pe_op op_cat (pe_lst (pa_cons (pv 4) pa_nil)) (pe_lc (own := [("letter", 7)]) (tt := tYes) rfl nd (pi_str pe_str) (blkOk_by (N := NN) (sc := defScope sNames) (by decide +kernel))
          (fun _ _ _ _ _ => pg_name (i := 7) nd rfl (Or.inl rfl)) (fun _ _ _ _ _ => pts_nil) (fun _ _ _ _ _ => pe_op op_add_str (pv 7) pe_str))))
      (pss_one (ps_expr (pe_bm PySem.F.plainAttrs_list PySem.F.slot_list_append PySem.F.type_list_append mt_append (pv 2) (pa_cons (pe_ix ix_list (pe_lc (own := [("one", 8)]) (tt := tTest (tOp (rIn K true) (tVar 8) (tVar 2))) rfl nd (pi_list (pv 5)) (blkOk_by (N := NN) (sc := defScope sNames) (by decide +kernel))
          (fun _ _ _ _ _ => pg_name (i := 8) nd rfl (Or.inl rfl)) (fun _ _ _ _ _ => pts_one (pt_cmpR op_notIn_seq (pv 8) (pv 2) rfl)) (fun _ _ _ _ _ => pv 8)) pe_int (fun _ _ => rfl)) pa_nil)))))))
    (pss_one (ps_ret (pv 2)))), ?_⟩
  refine ⟨Nat.zero_le _, fun q nq => ?_⟩
  have aq := hS.apart (Same.refl _) nq
  refine ⟨_, rfl, many, rfl, by omega, by omega, for_range (n := many.toNat) (fun i σ H' => ∃ ns : List Str, H' q = some (.lst (ns.map V.str)) ∧ ns.length = i ∧ ns.Nodup ∧ (∀ x ∈ ns, NmOk x) ∧ Strm H' l ls (N + 5 * i) ∧ But l ls H H' ∧
    ∃ s3 s4 s5 s6 s7 s8, σ = [some (.ref l), some (.int many), some (.ref q), s3, s4, s5, s6, s7, s8])
    ⟨[], upd_same, rfl, .nil, fun x hx => by simp at hx, by simpa using hS.same (same_new nq), But.of (same_new nq), _, _, _, _, _, _, rfl⟩ ?_ ?_⟩
  · rintro i σ H1 hi ⟨ns, oq, ln, nn, nok, S1, B1, s3, s4, s5, s6, s7, s8, rfl⟩
    have hi2 : (i : Int) < 20 := by omega
    -- the word
    refine ⟨⟨_, rfl⟩, _, rfl, l, ls, 3, _, rfl, S1, by omega, by decide, by decide, fun H2 r r0 r1 S2 B2 => ?_⟩
    refine ⟨_, _, rfl, rfl, 1 + r, rfl, by omega, by omega, fun D nD => ?_⟩
    have aD := S2.apart (Same.refl _) nD
    refine lc_range (n := (1 + r).toNat) (fun j H' => ∃ cs : List Nat, H' D = some (.lst (cs.map fun c => V.str ⟨#[c]⟩)) ∧ cs.length = j ∧ (∀ c ∈ cs, c ∈ wordL) ∧ Strm H' l ls (N + 5 * i + 1 + j) ∧ But l ls H2 H')
      ⟨[], upd_same, rfl, fun c hc => by simp at hc, by simpa using S2.same (same_new nD), But.of (same_new nD)⟩ ?_ ?_
    · rintro j H3 hj ⟨cs, oD, lc, cok, S3, B3⟩
      refine ⟨rfl, ?_⟩
      refine ⟨_, rfl, l, ls, _, _, rfl, S3, by omega, by decide +kernel, by decide +kernel, fun H4 c hc S4 B4 => ?_⟩
      have oD4 := B4 _ _ aD.1 aD.2 oD
      refine ⟨_, oD4, (by rw [sizeLine_eq, List.length_map]; omega), cs ++ [c], by rw [upd_same]; simp, by simp [lc], ?_, ?_, ?_⟩
      · intro d hd
        rcases List.mem_append.mp hd with h | h
        · exact cok d h
        · obtain rfl : d = c := by simpa using h
          exact hc
      · obtain ⟨cs', g, k, m, S⟩ := S4
        exact Strm.mono ⟨cs', g, k, m, by rw [upd_ne (Ne.symm aD.1)]; exact S.o, by rw [upd_ne (Ne.symm aD.2)]; exact S.c, S.ne, S.g0, S.k0, S.k1, S.m0, S.m1, S.sz⟩ (by omega)
      · intro b o h1 h2 e
        have nb : b ≠ D := ne_of_none e nD
        rw [upd_ne nb]
        exact B4 _ _ h1 h2 (B3 _ _ h1 h2 e)
    · rintro H3 ⟨cs, oD, lc, cok, S3, B3⟩
      have lc3 : 1 ≤ cs.length ∧ cs.length ≤ 3 := by omega
      have em : (cs.map fun c => V.str ⟨#[c]⟩) = (cs.map fun c => (⟨#[c]⟩ : Str)).map V.str := by rw [List.map_map]; rfl
      rw [em] at oD
      have sums : ∀ l : List Nat, ((l.map fun c => (⟨#[c]⟩ : Str)).map (·.length)).sum = l.length := fun l => by
        induction l with
        | nil => rfl
        | cons a l ih => rw [List.map_cons, List.map_cons, List.sum_cons, ih, List.length_cons]; show 1 + _ = _; omega
      refine ⟨_, D, _, rfl, rfl, .inl (SqL.of oD), ?_, ?_⟩
      · rw [sums, List.length_map]; show cs.length + cs.length * 0 ≤ _; omega
      have hw : (Txt.join (Str.ofString "") (cs.map fun c => (⟨#[c]⟩ : Str))).cps.toList = cs := join_cps cs
      generalize Txt.join (Str.ofString "") (cs.map fun c => (⟨#[c]⟩ : Str)) = wd at hw
      have wok : NmOk wd := by
        unfold NmOk
        rw [hw]
        exact ⟨lc3.1, by omega, fun c hc => word_sub c (cok c hc)⟩
      have B13 := B2.trans B3
      have oq3 := B13 _ _ aq.1 aq.2 oq
      -- the spare names
      refine ⟨_, rfl, (by rw [sizeLine_eq]; show 1 ≤ _; omega), fun a1 n1 => ?_⟩
      have k1 := same_new (o := .lst [.str wd]) n1
      have e26 : (Str.ofString "abcdefghijklmnopqrstuvwxyz").cps.size = 26 := by decide +kernel
      have l26 : letL.length = 26 := by decide +kernel
      refine ⟨_, rfl, fun D2 nD2 => ⟨fun j m H' => m = 26 - j ∧ j ≤ 26 ∧ H' D2 = some (.lst ((letL.take j).map fun c => V.str (spare c))) ∧ Same (upd H3 a1 (.lst [.str wd])) H',
        ⟨26, rfl, by decide, upd_same, same_new nD2⟩, ?_⟩⟩
      rintro j m H4 ⟨rfl, hj, oD2, sm4⟩
      by_cases lt : j < 26
      · refine .inr ⟨(by show j < _; rw [e26]; exact lt), fun H' => H' D2 = some (.lst ((letL.take (j + 1)).map fun c => V.str (spare c))) ∧ Same (upd H3 a1 (.lst [.str wd])) H', fun H' h => ⟨26 - (j + 1), by omega, rfl, lt, h⟩, ?_⟩
        rintro v H' ⟨rfl, c, hc, rfl⟩
        have hc2 : letL[j]? = some c := by
          unfold letL
          rw [Array.getElem?_toList]; exact hc
        refine ⟨rfl, ?_⟩
        refine ⟨_, rfl, _, _, rfl, rfl, (by rw [sizeLine_eq]; show 1 + 1 ≤ _; omega), _, oD2, (by rw [sizeLine_eq, List.length_map, List.length_take]; omega), ?_, fun b o e => by rw [upd_ne (ne_of_none e nD2)]; exact sm4 b o e⟩
        rw [upd_same, List.take_succ, hc2]
        simp [spare]
      · have j26 : j = 26 := by omega
        refine .inl ⟨(by show _ ≤ j; rw [e26]; omega), ?_⟩
        have et : letL.take j = letL := List.take_of_length_le (by omega)
        rw [et] at oD2
        refine ⟨a1, D2, _, _, rfl, rfl, sm4 _ _ upd_same, oD2, (by rw [sizeLine_eq, List.length_map, l26]; show 1 + 26 ≤ _; omega), fun p np => ?_⟩
        have esp : [V.str wd] ++ letL.map (fun c => V.str (spare c)) = (wd :: letL.map spare).map V.str := by simp [List.map_map]
        rw [esp]
        have spl : (wd :: letL.map spare).length = 27 := by rw [List.length_cons, List.length_map, l26]
        have spok : ∀ x ∈ (wd :: letL.map spare), NmOk x := fun x hx => by
          rcases List.mem_cons.mp hx with h | h
          · rw [h]; exact wok
          · obtain ⟨c, hc, rfl⟩ := List.mem_map.mp h
            exact spare_ok c hc
        have hne := spare_left wd ns (by omega)
        generalize wd :: letL.map spare = sp at spl spok hne
        have k5 := same_new (o := .lst (sp.map V.str)) np
        have k35 := (k1.trans sm4).trans k5
        refine ⟨_, rfl, .inl ⟨rfl, _, SqL.of (k35 _ _ oq3)⟩, _, rfl, p, rfl, ⟨_, SqL.of upd_same⟩, fun D3 nD3 => ?_⟩
        refine lc_list (xs := sp.map V.str) (fun j H' => H' D3 = some (.lst (((sp.take j).filter fun x => decide (x ∉ ns)).map V.str)) ∧ Same (upd H4 p (.lst (sp.map V.str))) H')
          ⟨by rw [upd_same]; rfl, same_new nD3⟩ (fun j H' _ h => SqL.of (h.2 _ _ upd_same)) ?_ ?_
        · rintro j v H6 ev ⟨oD3, sm6⟩
          rw [List.getElem?_map] at ev
          obtain ⟨x, ex, rfl⟩ := Option.map_eq_some_iff.mp ev
          have et2 : sp.take (j + 1) = sp.take j ++ [x] := by rw [List.take_succ, ex]; rfl
          refine ⟨rfl, ?_⟩
          refine ⟨_, rfl, _, rfl, q, ns.map V.str, rfl, .inl (SqL.of (sm6 _ _ (k35 _ _ oq3))), rfl, flat_strs ns, _, rfl, ?_⟩
          rw [inV_strs]
          by_cases hx : x ∈ ns
          · rw [decide_eq_true hx]
            refine iteF ?_
            refine ⟨?_, sm6⟩
            rw [et2, List.filter_append]
            simpa [hx] using oD3
          · rw [decide_eq_false hx]
            refine iteT ?_
            refine ⟨_, rfl, _, oD3, ?_, ?_, fun b o e => by rw [upd_ne (ne_of_none e nD3)]; exact sm6 b o e⟩
            · have z := List.length_filter_le (fun x => decide (x ∉ ns)) (sp.take j)
              rw [List.length_take] at z
              rw [sizeLine_eq, List.length_map]; omega
            · rw [upd_same, et2, List.filter_append]
              simp [hx]
        · rintro H6 ⟨oD3, sm6⟩
          have ef : sp.take (sp.map V.str).length = sp := List.take_of_length_le (by rw [List.length_map]; omega)
          rw [ef] at oD3
          have oq6 := sm6 _ _ (k35 _ _ oq3)
          cases efl : sp.filter fun x => decide (x ∉ ns) with
          | nil => exact absurd efl hne
          | cons y rest =>
            rw [efl] at oD3
            have hy : y ∈ sp.filter fun x => decide (x ∉ ns) := by rw [efl]; exact List.mem_cons_self
            obtain ⟨hy1, hy2⟩ := List.mem_filter.mp hy
            have hy3 : y ∉ ns := by simpa using hy2
            refine ⟨D3, _, 0, .str y, rfl, rfl, SqL.of oD3, atI_nat (j := 0) (by simp), ?_⟩
            refine ⟨q, ns.map V.str, .str y, rfl, rfl, oq6, (by rw [sizeLine_eq, List.length_map]; omega), ns ++ [y], by rw [upd_same]; simp, by simp [ln], ?_, ?_, ?_, ?_, _, _, _, _, _, _, rfl⟩
            · rw [List.nodup_append]
              exact ⟨nn, by simp, fun a ha b hb => by
                obtain rfl : b = y := by simpa using hb
                exact fun z => hy3 (z ▸ ha)⟩
            · intro x hx
              rcases List.mem_append.mp hx with h | h
              · exact nok x h
              · obtain rfl : x = y := by simpa using h
                exact spok _ hy1
            · obtain ⟨cs', g, k, m, S⟩ := (S3.same k35).same sm6
              exact Strm.mono ⟨cs', g, k, m, by rw [upd_ne (Ne.symm aq.1)]; exact S.o, by rw [upd_ne (Ne.symm aq.2)]; exact S.c, S.ne, S.g0, S.k0, S.k1, S.m0, S.m1, S.sz⟩ (by omega)
            · intro b o h1 h2 e
              have nb : b ≠ q := ne_of_none e nq
              rw [upd_ne nb]
              exact sm6 _ _ (k35 _ _ (B13 _ _ h1 h2 (B1 _ _ h1 h2 e)))
  · rintro σ H1 ⟨ns, oq, ln, nn, nok, S1, B1, s3, s4, s5, s6, s7, s8, rfl⟩
    have em : ((many.toNat : Nat) : Int) = many := by omega
    rw [em] at S1
    exact ⟨_, rfl, hq H1 q ns (by omega) nn nok nq oq S1 B1⟩
end
end L2.TB
namespace L2.TB
open PySem PySem.Spec PyProof.Rows
theorem paired_snoc {α β : Type} {F : α → β → Prop} {x : α} {y : β} (h : F x y) : ∀ {xs : List α} {ys : List β}, Paired F xs ys → Paired F (xs ++ [x]) (ys ++ [y])
  | _, _, .nil => .cons h .nil
  | _, _, .cons r t => .cons r (paired_snoc h t)
theorem paired_map {α β γ : Type} {F : α → γ → Prop} {g : β → γ} : ∀ {xs : List α} {ys : List β}, Paired (fun x y => F x (g y)) xs ys → Paired F xs (ys.map g)
  | _, _, .nil => .nil
  | _, _, .cons r t => .cons r (paired_map t)
/-- the pairs of a row: names and ints -/
def dk (ns : List Str) (vs : List Int) : List (Key × V) := (ns.zip vs).map fun p => (Sum.inr p.1, V.int p.2)
theorem merge_new : ∀ (more acc : List (Key × V)), ((acc ++ more).map (·.1)).Nodup → mergeK acc more = acc ++ more
  | [], acc, _ => by simp [mergeK]
  | p :: more, acc, h => by
    have hn : valV acc p.1 = none := by
      cases e : valV acc p.1 with
      | none => rfl
      | some v =>
        exfalso
        have z : (valV acc p.1).isSome = true := by rw [e]; rfl
        rw [← valV_any, List.any_eq_true] at z
        obtain ⟨q, hq, hq2⟩ := z
        have hq3 : q.1 = p.1 := of_decide_eq_true hq2
        rw [List.map_append, List.nodup_append] at h
        exact h.2.2 q.1 (List.mem_map_of_mem hq) p.1 (List.mem_map_of_mem List.mem_cons_self) hq3
    show mergeK (putK acc p.1 p.2) more = _
    rw [putK_new p.2 hn, merge_new more _ (by rw [List.append_assoc]; exact h), List.append_assoc]
    rfl
theorem merge_nd {kvs : List (Key × V)} (h : (kvs.map (·.1)).Nodup) : mergeK [] kvs = kvs := by
  rw [merge_new kvs [] (by simpa using h), List.nil_append]
theorem dk_keys {ns : List Str} {vs : List Int} (h : ns.length = vs.length) : (dk ns vs).map (·.1) = ns.map Sum.inr := by
  unfold dk
  rw [List.map_map]
  have e : ((fun x => x.1) ∘ fun p : Str × Int => ((Sum.inr p.1 : Key), V.int p.2)) = (fun p : Str × Int => (Sum.inr p.1 : Key)) := rfl
  rw [e]
  have e2 : (ns.zip vs).map (fun p : Str × Int => (Sum.inr p.1 : Key)) = ((ns.zip vs).map Prod.fst).map Sum.inr := by rw [List.map_map]; rfl
  rw [e2, List.map_fst_zip (by omega)]
theorem dk_nd {ns : List Str} {vs : List Int} (h : ns.length = vs.length) (nd : ns.Nodup) : ((dk ns vs).map (·.1)).Nodup := by
  rw [dk_keys h]
  exact List.Pairwise.map Sum.inr (fun a b h e => h (Sum.inr.inj e)) nd
/-- rows as they are drawn: at as dicts with the names ns and the ints of tbl -/
def RowsAt (H : Hp) (l ls : Addr) (ns : List Str) : List Addr → List (List Int) → Prop :=
  Paired fun a vs => H a = some (.dK (dk ns vs)) ∧ vs.length = ns.length ∧ a ≠ l ∧ a ≠ ls
theorem RowsAt.but {H H' : Hp} {l ls : Addr} {ns : List Str} {as : List Addr} {tbl : List (List Int)} (r : RowsAt H l ls ns as tbl) (b : But l ls H H') : RowsAt H' l ls ns as tbl :=
  Paired.mapP r fun a vs h => ⟨b _ _ h.2.2.1 h.2.2.2 h.1, h.2⟩
def spRows : Sp := fun vs H Q _ => ∃ (l ls : Addr) (many rows values N : Int), vs = [.ref l, .int many, .int rows, .int values] ∧ Strm H l ls N ∧ N ≤ 500000 ∧ 0 < many ∧ many ≤ 10 ∧ 0 < rows ∧ rows ≤ 20 ∧ 0 < values ∧ values ≤ 100 ∧
  ∀ H' q as ns tbl, (ns : List Str).length ≤ 10 → ns ≠ [] → ns.Nodup → (∀ x ∈ ns, NmOk x) → (tbl : List (List Int)).length ≤ 20 → tbl ≠ [] → H q = none → q ≠ l → q ≠ ls → H' q = some (.lst (as.map V.ref)) → RowsAt H' l ls ns as tbl →
    Strm H' l ls (N + 1000) → But l ls H H' → Q (.ref q) H'
abbrev NR : List Str := ["stream", "many", "rows", "values", "names", "found", "k", "name"]
theorem scRows : FnScope NR ["stream", "many", "rows", "values"] (defScope sRows) := ⟨rfl, rfl, rfl, by decide +kernel, rfl, by decide +kernel, by decide +kernel⟩
section
variable {P : Program} {w : World} {K : PySem.W.Frag} {mg : Str → Option Value} {base : Heap} {f fD fP fN : Addr} {fd fdD fdP fdN : FuncData}
theorem ok_rows (F : Fun K "_law_t_rows" "_law_t_rows" sRows f fd) (FN : Fun K "_law_t_names" "_law_t_names" sNames fN fdN) (gNm : mg "_law_t_names" = some (.ref fN)) (FP : Fun K "_law_pick" "_law_pick" sPick fP fdP) (gP : mg "_law_pick" = some (.ref fP)) (FD : Fun K "_law_draw" "_law_draw" sDraw fD fdD)
    (gD : mg "_law_draw" = some (.ref fD)) (gI : mg "int" = none) (gN : mg "len" = none) (gR : mg "range" = none) (gDi : mg "dict" = none) : FnOk P w K mg base CX0 4 f fd ["stream", "many", "rows", "values"] spRows := by
  have G : FnOk P w K mg base CX0 1 fD fdD ["stream", "many"] spDraw := ok_draw FD gI
  have b := FD.binds (ps := ["stream", "many"]) fun _ _ _ _ _ _ us hl => match us, hl with | [_, _], _ => rfl
  have GN : FnOk P w K mg base CX0 3 fN fdN ["stream", "many"] spNames := ok_names FN FP gP FD gD gI gN gR
  have bN := FN.binds (ps := ["stream", "many"]) fun _ _ _ _ _ _ us hl => match us, hl with | [_, _], _ => rfl
  refine F.ok scRows (fun vs H Q E h => by obtain ⟨l, ls, a, b, c, N, e, _⟩ := h; rw [e]; rfl) fun cdv A outer s H vs Q E hr hsp => ?_
  obtain ⟨l, ls, many, rws, vals, N, rfl, hS, hN, m0, m1, w0, w1, v0, v1, hq⟩ := hsp
  have nd := scRows.nd
  refine ⟨_, pss_cons (ps_par (i := 4) (j := 5) rfl nd rfl rfl (by decide) rfl rfl (pa_cons (pe_call GN hr rfl gNm FN.kp bN .nil pass0 (pa_cons (pv 0) (pa_cons (pe_op op_add pe_int (pe_call G (hr.mono (by decide)) rfl gD FD.kp b .nil pass0 (pa_cons (pv 0) (pa_cons (pv 1) pa_nil)))) pa_nil))) (pa_cons (pe_lst pa_nil) pa_nil)) (by rfl))
    (pss_cons (ps_for PassesOwn.never rfl (pi_range1 rfl gR (pa_cons (pe_op op_add pe_int (pe_call G (hr.mono (by decide)) rfl gD FD.kp b .nil pass0 (pa_cons (pv 0) (pa_cons (pv 2) pa_nil)))) pa_nil)) (pg_name (i := 6) nd rfl (Or.inl rfl))
      (pss_one (ps_expr (pe_bm PySem.F.plainAttrs_list PySem.F.slot_list_append PySem.F.type_list_append mt_append (pv 5) (pa_cons (pe_callTy (call_dictP rfl) rfl gDi (by decide +kernel) (pa_cons (pe_lc (own := [("name", 7)]) (tt := tYes) rfl nd (pi_list (pv 4)) (blkOk_by (N := NR) (sc := defScope sRows) (by decide +kernel))
        (fun _ _ _ _ _ => pg_name (i := 7) nd rfl (Or.inl rfl)) (fun _ _ _ _ _ => pts_nil) (fun _ _ _ _ _ => pe_tup (pa_cons (pv 7) (pa_cons (pe_op op_sub (pe_call G (hr.mono (by decide)) rfl gD FD.kp b .nil pass0 (pa_cons (pv 0) (pa_cons (pv 3) pa_nil))) pe_int) pa_nil)))) pa_nil)) pa_nil)))))
    (pss_one (ps_ret (pv 5)))), ?_⟩
  refine ⟨_, rfl, _, rfl, _, rfl, l, ls, many, N, rfl, hS, by omega, by omega, by omega, fun H1 r r0 r1 S1 B1 => ?_⟩
  refine ⟨_, _, rfl, rfl, l, ls, 1 + r, N + 1, rfl, S1, by omega, by omega, by omega, fun H2 c ns lns nds oks nc oc S2 B2 => ?_⟩
  have ac := S1.apart (Same.refl _) nc
  have nl : 1 ≤ ns.length ∧ ns.length ≤ 10 := by omega
  refine ⟨Nat.zero_le _, fun q nq => ?_⟩
  have aq := S2.apart (Same.refl _) nq
  have S2' : Strm H2 l ls (N + 60) := S2.mono (by omega)
  have B12 := B1.trans B2
  have cq : c ≠ q := fun z => by rw [z, nq] at oc; cases oc
  refine ⟨_, _, rfl, ?_⟩
  refine ⟨_, rfl, _, rfl, l, ls, rws, _, rfl, S2'.same (same_new nq), by omega, w0, by omega, fun H3 r' r0' r1' S3 B3 => ?_⟩
  have oc3 := B3 _ _ ac.1 ac.2 (same_new nq _ _ oc)
  have oq3 := B3 _ _ aq.1 aq.2 (upd_same (H := H2) (a := q) (o := .lst []))
  have B03 : But l ls H H3 := (B12.trans (But.of (same_new nq))).trans B3
  refine ⟨_, _, rfl, rfl, 1 + r', rfl, by omega, by omega, for_range (n := (1 + r').toNat) (fun i σ H' => (∃ as tbl, H' q = some (.lst ((as : List Addr).map V.ref)) ∧ RowsAt H' l ls ns as tbl ∧ tbl.length = i) ∧ H' c = some (.lst (ns.map V.str)) ∧ Strm H' l ls (N + 70 + 12 * i) ∧ But l ls H H' ∧
    ∃ s6 s7, σ = [some (.ref l), some (.int many), some (.int rws), some (.int vals), some (.ref c), some (.ref q), s6, s7]) ⟨⟨[], [], oq3, .nil, rfl⟩, oc3, S3.mono (by omega), B03, _, _, rfl⟩ ?_ ?_⟩
  · rintro i σ H4 hi ⟨⟨as, tbl, oq4, R4, lt4⟩, oc4, S4, B4, s6, s7, rfl⟩
    have hi2 : (i : Int) < 20 := by omega
    refine ⟨_, rfl, .inl ⟨rfl, _, SqL.of oq4⟩, _, rfl, c, rfl, ⟨_, SqL.of oc4⟩, fun D nD => ?_⟩
    have aD := S4.apart (Same.refl _) nD
    have Dq : D ≠ q := fun z => by rw [z, oq4] at nD; cases nD
    refine lc_list (xs := ns.map V.str) (fun j H' => ∃ ps vs, H' D = some (.lst ((ps : List Addr).map V.ref)) ∧ Paired (fun p (kv : Str × Int) => H' p = some (.tup [.str kv.1, .int kv.2]) ∧ p ≠ l ∧ p ≠ ls) ps ((ns.take j).zip vs) ∧ vs.length = j ∧
      Strm H' l ls (N + 70 + 12 * i + j) ∧ But l ls H4 H') ⟨[], [], upd_same, .nil, rfl, by simpa using S4.same (same_new nD), But.of (same_new nD)⟩ (fun j H' _ h => SqL.of (h.choose_spec.choose_spec.2.2.2.2 _ _ ac.1 ac.2 oc4)) ?_ ?_
    · rintro j v H5 ev ⟨ps, vs, oD, pr, lv, S5, B5⟩
      rw [List.getElem?_map] at ev
      obtain ⟨x, ex, rfl⟩ := Option.map_eq_some_iff.mp ev
      have hj : j < ns.length := (List.getElem?_eq_some_iff.mp ex).1
      have et : ns.take (j + 1) = ns.take j ++ [x] := by rw [List.take_succ, ex]; rfl
      refine ⟨rfl, ?_⟩
      refine ⟨_, rfl, _, rfl, _, rfl, l, ls, vals, _, rfl, S5, by omega, v0, by omega, fun H6 z z0 z1 S6 B6 => ?_⟩
      refine ⟨_, _, rfl, rfl, (by rw [sizeLine_eq]; show 2 ≤ _; omega), fun p np => ?_⟩
      have ap := S6.apart (Same.refl _) np
      have k6 := same_new (o := .tup [.str x, .int (z - 1)]) np
      have oD6 := B6 _ _ aD.1 aD.2 oD
      have pD : p ≠ D := fun y => by rw [y, oD6] at np; cases np
      have lps : ps.length = j := by
        have e := Paired.length pr
        rw [List.length_zip, List.length_take] at e
        omega
      refine ⟨_, k6 _ _ oD6, (by rw [sizeLine_eq, List.length_map]; omega), ps ++ [p], vs ++ [z - 1], by rw [upd_same]; simp, ?_, by simp [lv], ?_, ?_⟩
      · rw [et, List.zip_append (by rw [List.length_take]; omega)]
        refine paired_snoc ⟨by rw [upd_ne pD, upd_same], ap⟩ (Paired.mapP pr fun a kv h => ⟨?_, h.2⟩)
        have na : a ≠ D := fun y => by rw [y, oD] at h; cases h.1
        rw [upd_ne na]
        exact k6 _ _ (B6 _ _ h.2.1 h.2.2 h.1)
      · obtain ⟨cs', g, k, m, S⟩ := S6.same k6
        exact Strm.mono ⟨cs', g, k, m, by rw [upd_ne (Ne.symm aD.1)]; exact S.o, by rw [upd_ne (Ne.symm aD.2)]; exact S.c, S.ne, S.g0, S.k0, S.k1, S.m0, S.m1, S.sz⟩ (by omega)
      · intro b' o h1 h2 e
        have nb : b' ≠ D := ne_of_none e nD
        rw [upd_ne nb]
        exact k6 _ _ (B6 _ _ h1 h2 (B5 _ _ h1 h2 e))
    · rintro H5 ⟨ps, vs, oD, pr, lv, S5, B5⟩
      have etk : ns.take (ns.map V.str).length = ns := List.take_of_length_le (by rw [List.length_map]; omega)
      rw [etk] at pr
      have lv2 : vs.length = ns.length := by rw [lv, List.length_map]
      refine ⟨D, ps, dk ns vs, rfl, SqL.of oD, paired_map (Paired.mapP pr fun p kv h => SqT.of h.1), fun p np => ?_⟩
      rw [merge_nd (dk_nd lv2.symm nds)]
      have ap := S5.apart (Same.refl _) np
      have k5 := same_new (o := .dK (dk ns vs)) np
      have oq5 := k5 _ _ (B5 _ _ aq.1 aq.2 oq4)
      have las : as.length = i := by rw [Paired.length R4, lt4]
      have pq : p ≠ q := fun y => by rw [y, B5 _ _ aq.1 aq.2 oq4] at np; cases np
      have B6 : But l ls (upd H5 p (.dK (dk ns vs))) (upd (upd H5 p (.dK (dk ns vs))) q (.lst (as.map V.ref ++ [.ref p]))) → True := fun _ => trivial
      refine ⟨q, as.map V.ref, .ref p, rfl, rfl, oq5, (by rw [sizeLine_eq, List.length_map]; omega), ⟨as ++ [p], tbl ++ [vs], by rw [upd_same]; simp, ?_, by simp [lt4]⟩, ?_, ?_, ?_, _, _, rfl⟩
      · refine paired_snoc ⟨by rw [upd_ne pq, upd_same], lv2, ap⟩ (Paired.mapP R4 fun a vs' h => ⟨?_, h.2⟩)
        have na : a ≠ q := fun y => by rw [y, oq4] at h; cases h.1
        rw [upd_ne na]
        exact k5 _ _ (B5 _ _ h.2.2.1 h.2.2.2 h.1)
      · rw [upd_ne cq]
        exact k5 _ _ (B5 _ _ ac.1 ac.2 oc4)
      · obtain ⟨cs', g, k, m, S⟩ := S5.same k5
        have lx : (ns.map V.str).length ≤ 10 := by rw [List.length_map]; omega
        exact Strm.mono ⟨cs', g, k, m, by rw [upd_ne (Ne.symm aq.1)]; exact S.o, by rw [upd_ne (Ne.symm aq.2)]; exact S.c, S.ne, S.g0, S.k0, S.k1, S.m0, S.m1, S.sz⟩ (by omega)
      · intro b' o h1 h2 e
        have nb : b' ≠ q := fun y => by
          have z := B12 _ _ h1 h2 e
          rw [y, nq] at z; cases z
        rw [upd_ne nb]
        exact k5 _ _ (B5 _ _ h1 h2 (B4 _ _ h1 h2 e))
  · rintro σ H4 ⟨⟨as, tbl, oq4, R4, lt4⟩, oc4, S4, B4, s6, s7, rfl⟩
    have nq0 : H q = none := by
      cases e : H q with
      | none => rfl
      | some o => have z := B12 _ _ aq.1 aq.2 e; rw [nq] at z; cases z
    have nn : ns ≠ [] := fun z => by rw [z] at nl; simp at nl
    have tn : tbl ≠ [] := fun z => by rw [z] at lt4; simp at lt4; omega
    exact ⟨_, rfl, hq H4 q as ns tbl nl.2 nn nds oks (by omega) tn nq0 aq.1 aq.2 oq4 R4 (S4.mono (by omega)) B4⟩
end
end L2.TB
namespace L2.TB
open PySem
open PySem.Spec PyProof.Rows
/-! for i, x in enumerate(thing), thing a list or a tuple -/
abbrev tupIter (t : Addr) : Obj := { cls := .type "tuple_iterator", data := .fields #[.ref t, .int 0 0] }
abbrev enumRec (q : Addr) : Obj := { cls := .type "enumerate", data := .fields #[.none, .bool false, .ref q, rawInt 0, .none, .none] }
section
variable {P : Program} {w : World}
/-- what enumerate's maker does with a tuple -/
theorem made_enum (t : Addr) (ys : Array Value) : Meets (Builtin.«enumerate.__new__» ⟨[.type "enumerate", .ref t], []⟩) fun _ done z =>
    z.heap.IsTuple t ys ∧ done (.ok (.ret (.ref (z.heap.push (tupIter t)).objs.size))) { z with heap := (z.heap.push (tupIter t)).push (enumRec z.heap.objs.size) } :=
  .of_wp fun _ _ _ _ z hz => by
    obtain ⟨h0, gs, ds, tk, os⟩ := z
    obtain ⟨isT, fin⟩ := hz
    have sub := sub_enumerate
    have step : ∀ {A' : Around} {E' : Value → Shared → Prop} {Q' : Value → Shared → Prop} {P' : Program} {w' : World}, Q' (.ref h0.objs.size) ⟨h0.push (tupIter t), gs, ds, tk, os⟩ → wpAny (model P' w') A' (pyIter (.ref t)) Q' E' ⟨h0, gs, ds, tk, os⟩ :=
      fun more => wpAny_pyIter_tuple (s := ⟨h0, gs, ds, tk, os⟩) isT more
    wp_walk using step
    refine wpAny_stack_any (fun _ => wpAny_pure ?_)
    split
    · rename_i c _ _ _ _ _
      rcases (c == Value.type "enumerate") with _ | _ <;> (wp_walk using step; exact ⟨_, rfl, fin⟩)
    · wp_walk using step
      exact ⟨_, rfl, fin⟩
/-- the call -/
theorem enum_of_tuple {A : Around} {z : Shared} {E Q : Value → Shared → Prop} {t : Addr} {ys : Array Value} (isT : z.heap.IsTuple t ys)
    (more : IsEnum ((z.heap.push (tupIter t)).push (enumRec z.heap.objs.size)) (z.heap.objs.size + 1) z.heap.objs.size 0 .none →
      Q (.ref (z.heap.objs.size + 1)) { z with heap := (z.heap.push (tupIter t)).push (enumRec z.heap.objs.size) }) : wpAny (model P w) A (call (.type "enumerate") [.ref t]) Q E z := by
  refine callType_new F.called_enumerate (by decide) (F.typeCall_enumerate_1 _) (F.newCall_enumerate_1 _) (fun b => F.args_object_init_2 b _) F.entry_enumerate_new (made_enum t ys) ⟨isT, ?_⟩
  have size1 : (z.heap.push (tupIter t)).objs.size = z.heap.objs.size + 1 := Heap.size_push ..
  have rec1 := Heap.get?_push_size (z.heap.push (tupIter t)) (o := enumRec z.heap.objs.size) rfl
  rw [size1] at rec1
  show _ ∧ _
  rw [size1]
  exact ⟨⟨_, rec1, rfl⟩, more rec1⟩
end
/-- the items of the tuple at t, each in a new pair with its number -/
def IteT (K : PySem.W.Frag) (t : Addr) : It where
  go i H := ∃ (ys : List V) (y : V), SqT K H t ys ∧ ys[i]? = some y
  yld i H v H' := ∃ T y, v = .ref T ∧ H T = none ∧ H' = upd H T (.tup [.int (i : Nat), y]) ∧ ∀ ys, SqT K H t ys → ys[i]? = some y
  stop i H := ∃ ys : List V, SqT K H t ys ∧ ys.length ≤ i
/-- three records of three classes stand at three places -/
theorem three {h : Heap} {t q r : Addr} {ys : Array Value} {i : Nat} {c : Int} {old : Value} (isT : h.IsTuple t ys) (isQ : h.IsTupleIter q t i) (isR : IsEnum h r q c old) : t ≠ q ∧ r ≠ t := by
  obtain ⟨ot, gt, ct, _⟩ := isT
  obtain ⟨oq, gq, cq, _⟩ := isQ
  have ct : ot.cls = Value.type "tuple" := ct
  have cq : oq.cls = Value.type "tuple_iterator" := cq
  constructor
  · rintro rfl
    rw [gt] at gq
    injection gq with same
    rw [← same, ct] at cq
    exact absurd cq (by decide)
  · rintro rfl
    have gr := isR
    unfold IsEnum at gr
    rw [gt] at gr
    injection gr with same
    rw [same] at ct
    exact absurd (show Value.type "enumerate" = Value.type "tuple" from ct) (by decide)
theorem two_of {b r q : Addr} {p : Addr → Prop} (hr : p r) (hq : p q) (hb : b ∈ [r, q]) : p b := by
  rcases List.mem_cons.mp hb with rfl | hb
  · exact hr
  · obtain rfl := List.mem_singleton.mp hb
    exact hq
theorem turn_enumT {P : Program} {w : World} {K : PySem.W.Frag} {elts : List Expr} {kk : Nat} {tpos : Pos} (t r q : Addr) :
    Turn P w K (.Tuple elts kk tpos) (IteT K t) [r, q] r (fun i h => r ≠ q ∧ h.IsTupleIter q t i ∧ ∃ old, IsEnum h r q ((i : Nat) : Int) old) := by
  refine ⟨List.mem_cons_self, fun i h st b hb => ?_, fun i h h' st same => ?_, ?_, ?_, fun A i z Q E st more => ?_⟩
  · obtain ⟨_, ⟨oq, gq, _, dq⟩, old, gr⟩ := st
    exact two_of (p := fun b => ∃ o, h.get? b = some o ∧ ∀ v, o.data ≠ .cell v) ⟨_, gr, fun _ e => nomatch e⟩ ⟨oq, gq, fun _ e => by rw [dq] at e; exact nomatch e⟩ hb
  · obtain ⟨ne, gq, old, gr⟩ := st
    exact ⟨ne, gq.at fun o e => same q (List.mem_cons_of_mem _ List.mem_cons_self) o e, old, same r List.mem_cons_self _ gr⟩
  · rintro X rfl rfl rfl calm i pins z σ H E I room ⟨ne, gq, old, gr⟩ ⟨ys, y, isY, nth⟩
    obtain ⟨vs, rel, isT, _⟩ := I.tuple isY
    obtain ⟨v, nthV, relV⟩ := rel.get nth
    have isT : z.heap.IsTuple t vs.toArray := isT
    obtain ⟨tq, rt⟩ := three isT gq gr
    have lr : r < z.heap.objs.size := Heap.lt_size gr
    have lq : q < z.heap.objs.size := gq.elim fun _ e => Heap.lt_size e.1
    have inside : i < vs.toArray.size := by
      have := (List.getElem?_eq_some_iff.mp nthV).1
      simpa using this
    have draws := Draws.tuple (prog := X.prog) (w := X.w) (A := X.A.in1) (I.ok.hd calm) q t tq vs.toArray
    refine wpAny_pyNext_enum_itemC draws gr ⟨gq, isT⟩ inside ne (fun m => two_of (p := fun b => r = b → False) ne rt m rfl) fun v' h1 tk hv out stQ newT _ kept1 => ?_
    obtain rfl : v' = v := by
      have hv : vs.toArray[i]? = some v' := hv
      rw [List.getElem?_toArray, nthV] at hv
      exact (Option.some.inj hv).symm
    refine ⟨_, rfl, wpAny_letOwnedTupleGo_enum (s := { z with heap := h1, toks := tk + 1 }) out fun h2 back same2 => ?_⟩
    have at2 : ∀ b o, b ∉ [r, q] → z.heap.get? b = some o → h2.get? b = some o := fun b o away e =>
      (same2.2 b fun k => away (k ▸ List.mem_cons_self)).trans (kept1 b o (fun k => away (k ▸ List.mem_cons_self)) (fun k => away (k ▸ List.mem_cons_of_mem _ List.mem_cons_self)) e)
    have pair : ObjOk X.prog X.w (upd H z.heap.objs.size (.tup [.int (i : Nat), y])) h2 z.heap.objs.size (.tup [.int (i : Nat), y]) :=
      ⟨show 2 ≤ sizeLine by decide, [.int i tk, v'], .cons ⟨tk, rfl⟩ (.cons relV .nil), _, (same2.2 _ (Nat.ne_of_gt lr)).trans newT, rfl, _, rfl⟩
    refine ⟨.ref z.heap.objs.size, _, I.turnedNew (t' := tk + 1) at2 room (Nat.le_refl _) pair, rfl, ⟨_, y, rfl, I.hok.fresh (Nat.le_refl _), rfl, fun ys' is' => ?_⟩, ⟨ne, ?_, v', ?_⟩, fun b hb => ?_⟩
    · rw [I.tuple_inj is' isY]; exact nth
    · exact stQ.1.at fun o e => (same2.2 q ne.symm).trans e
    · rw [show ((i + 1 : Nat) : Int) = (i : Int) + 1 from by omega]; exact back
    · have lb : b < z.heap.objs.size := two_of (p := fun b => b < z.heap.objs.size) lr lq hb
      rw [upd_ne (Nat.ne_of_lt lb)]
      exact (room b hb).1
  · rintro X rfl rfl rfl calm i pins z σ H E I room ⟨ne, gq, old, gr⟩ ⟨ys, isY, past⟩
    obtain ⟨vs, rel, isT, _⟩ := I.tuple isY
    have isT : z.heap.IsTuple t vs.toArray := isT
    obtain ⟨k0, k1, k2, k3, k4, k5⟩ := room q (List.mem_cons_of_mem _ List.mem_cons_self)
    have isE : z.TypeIs (.ref r) "enumerate" := ⟨_, gr, rfl⟩
    have len := rel.length
    have past : vs.toArray[i]? = none := by rw [List.getElem?_toArray, List.getElem?_eq_none_iff]; omega
    unfold pyNext
    refine wpAny_bind (wpAny_attempt (wpAny_callSpecial?_slot (name := Str.ofString "__next__") isE F.slot_enumerate_next (wpAny_call_entry F.slot_enumerate_next isE F.entry_enumerate_next ?_ (F.args_enumerate_next_1 _))))
    show wpAny _ _ (field (.ref r) 2 >>= _) _ _ z
    refine wpAny_bind (wpAny_field gr rfl (x := .ref q) rfl (wpAny_bind (wpAny_nextOf_tuple_end (I.ok.hd calm) gq isT past fun h1 x but ⟨ox, gx, cx⟩ => ?_)))
    exact wpAny_bind (wpAny_isInstance (T := "StopIteration") (b := true) ⟨ox, gx, cx⟩ isSubtype_stop (wpAny_pure ⟨rfl, I.turned (t' := z.toks) (fun b o away e => but b o away e) k0 k1 k3 k4 k5⟩))
  · obtain ⟨_, _, old, gr⟩ := st
    exact wpAny_pyIter_enum gr more
/-- the reading of enumerate over a list or over a tuple -/
def iEnumS (K : PySem.W.Frag) (ta : TA) : TI := fun σ H R => ta σ H fun vs H1 => ∃ a xs, vs = [.ref a] ∧ ((SqL K H1 a xs ∧ R (Ite K a) H1) ∨ (SqT K H1 a xs ∧ R (IteT K a) H1))
theorem pi_enumS {X : Cx} {e : Expr} {ta : TA} {p pos tpos : Pos} {elts : List Expr} {kk : Nat} (hg : Gl X "enumerate") (hm : X.mg "enumerate" = none) (ha : PA X [e] ta) (hs : starEach [e] X.env = [(false, eval e X.env)] := by rfl) :
    PI X (.Tuple elts kk tpos) (.Call (.Name "enumerate" p) [e] [] pos) (iEnumS X.K ta) := by
  refine PI.mk fun pins z σ H R I reading => Call_ (ld_blt I hg hm boot_enumerate (PyProof.Rows.callWith_type1 (thn (ha.run pos pins z σ H _ I reading) fun us z1 hu => ?_) hs rfl))
  obtain ⟨vs, H1, I1, rel, a, xs, rfl, cases2⟩ := hu
  match us, rel with
  | [u], .cons ru .nil =>
    obtain rfl : u = Value.ref a := ru
    have fresh : ∀ b ∈ [z1.heap.objs.size + 1, z1.heap.objs.size], FpOk X pins H1 b := fun b hb =>
      have far : z1.heap.objs.size ≤ b := two_of (p := fun b => z1.heap.objs.size ≤ b) (Nat.le_succ _) (Nat.le_refl _) hb
      I1.fpOk far (I1.hok.fresh far)
    rcases cases2 with ⟨sq, q⟩ | ⟨sq, q⟩
    · obtain ⟨its, rv, isL, _⟩ := I1.list sq
      exact call_enumerate_list isL.isList fun h' gE gI _ kept => wpAny_pyIter_enum gE ⟨_, _, _, _, H1, rfl, I1.kept (t' := z1.toks) kept, turn_enum a _ _, ⟨⟨.none, gE⟩, gI, Nat.succ_ne_self _⟩, fresh, q⟩
    · obtain ⟨its, rv, isT, _⟩ := I1.tuple sq
      have isT : z1.heap.IsTuple a its.toArray := isT
      refine enum_of_tuple isT fun gE => wpAny_pyIter_enum gE ⟨_, _, _, _, H1, rfl, I1.kept (t' := z1.toks) fun b o e => ?_, turn_enumT a _ _, ⟨Nat.succ_ne_self _, ?_, .none, gE⟩, fresh, q⟩
      · exact Heap.get?_push_of_some _ (Heap.get?_push_of_some _ e)
      · exact ⟨_, Heap.get?_push_of_some _ (Heap.get?_push_size _ rfl), rfl, rfl⟩
end L2.TB
namespace L2.TB
open PySem PySem.Spec PyProof.Rows
/-! the program's looks at what it is passed -/
theorem boot_int' : bootBuiltins "int" = some (.type "int") := by decide +kernel
theorem boot_bool' : bootBuiltins "bool" = some (.type "bool") := by decide +kernel
theorem boot_str' : bootBuiltins "str" = some (.type "str") := by decide +kernel
theorem boot_list' : bootBuiltins "list" = some (.type "list") := by decide +kernel
theorem boot_tuple' : bootBuiltins "tuple" = some (.type "tuple") := by decide +kernel
theorem boot_dict' : bootBuiltins "dict" = some (.type "dict") := by decide +kernel
theorem boot_isi : bootBuiltins "isinstance" = some (.builtin "isinstance") := by decide +kernel
/-- the list or the tuple at a -/
def SqA (K : PySem.W.Frag) (H : Hp) (a : Addr) (xs : List V) : Prop := H a = some (.lst xs) ∨ H a = some (.tup xs)
theorem SqA.seq {K : PySem.W.Frag} {H : Hp} {a : Addr} {xs : List V} (h : SqA K H a xs) : SqL K H a xs ∨ SqT K H a xs := h.imp SqL.of SqT.of
theorem SqA.same {K : PySem.W.Frag} {H H' : Hp} {a : Addr} {xs : List V} (h : SqA K H a xs) (s : Same H H') : SqA K H' a xs := h.imp (s _ _) (s _ _)
theorem kit_two_l {K : PySem.W.Frag} : PySem.W.kitAny K (.type "list") [.type "list", .type "tuple"] = some true := by
  unfold PySem.W.kitAny
  rw [kit_ty (K := K) (a := "list") (b := "list") (r := true) (by decide +kernel)]
theorem kit_two_t {K : PySem.W.Frag} : PySem.W.kitAny K (.type "tuple") [.type "list", .type "tuple"] = some true := by
  unfold PySem.W.kitAny
  rw [kit_ty (K := K) (a := "tuple") (b := "list") (r := false) (by decide +kernel)]
  dsimp only
  unfold PySem.W.kitAny
  rw [kit_ty (K := K) (a := "tuple") (b := "tuple") (r := true) (by decide +kernel)]
def spIsInt : Sp := fun vs H Q _ => ∃ k : Int, vs = [.int k] ∧ Q (.bl true) H
def spIsList (K : PySem.W.Frag) : Sp := fun vs H Q _ => ∃ (a : Addr) (xs : List V), vs = [.ref a] ∧ SqA K H a xs ∧ ∀ H', Same H H' → Q (.bl true) H'
def spIsOne (K : PySem.W.Frag) : Sp := fun vs H Q _ => ∃ (c : Addr) (ns : List Str) (x : Str), vs = [.ref c, .str x] ∧ SqL K H c (ns.map V.str) ∧ Q (.bl (decide (x ∈ ns))) H
/-- no bad one -/
def spFirst (K : PySem.W.Frag) : Sp := fun vs H Q _ => ∃ (c a : Addr) (ns known : List Str), vs = [.ref c, .ref a] ∧ H c = some (.lst (ns.map V.str)) ∧ SqA K H a (known.map V.str) ∧ known.Nodup ∧ (∀ x ∈ known, x ∈ ns) ∧ known.length < 1000 ∧ ∀ H', Same H H' → Q .non H'
theorem scIsInt : FnScope ["thing"] ["thing"] (defScope sIsInt) := ⟨rfl, rfl, rfl, by decide +kernel, rfl, by decide +kernel, by decide +kernel⟩
theorem scIsList : FnScope ["thing"] ["thing"] (defScope sIsList) := ⟨rfl, rfl, rfl, by decide +kernel, rfl, by decide +kernel, by decide +kernel⟩
theorem scIsOne : FnScope ["names", "thing"] ["names", "thing"] (defScope sIsOne) := ⟨rfl, rfl, rfl, by decide +kernel, rfl, by decide +kernel, by decide +kernel⟩
abbrev NF : List Str := ["names", "things", "seen", "index", "thing"]
theorem scFirst : FnScope NF ["names", "things"] (defScope sFirst) := ⟨rfl, rfl, rfl, by decide +kernel, rfl, by decide +kernel, by decide +kernel⟩
section
variable {P : Program} {w : World} {K : PySem.W.Frag} {mg : Str → Option Value} {base : Heap} {f fL fO : Addr} {fd fdL fdO : FuncData}
theorem ok_isInt (F : Fun K "is_integer" "is_integer" sIsInt f fd) (gI : mg "isinstance" = none) (gInt : mg "int" = none) (gB : mg "bool" = none) : FnOk P w K mg base CX0 1 f fd ["thing"] spIsInt := by
  refine F.ok scIsInt (fun vs H Q E h => by obtain ⟨k, e, _⟩ := h; rw [e]; rfl) fun cdv A outer s H vs Q E hr hsp => ?_
  obtain ⟨k, rfl, hq⟩ := hsp
  refine ⟨_, pss_one (ps_ret (pe_and (pe_callB (r := rIsi K) call_isi rfl gI boot_isi (pa_cons (pv 0) (pa_cons (pe_bltn (v := .ty "int") rfl gInt boot_int' rfl) pa_nil)))
    (pe_one (pe_not (pe_callB (r := rIsi K) call_isi rfl gI boot_isi (pa_cons (pv 0) (pa_cons (pe_bltn (v := .ty "bool") rfl gB boot_bool' rfl) pa_nil))))))), ?_⟩
  exact ⟨_, rfl, _, _, _, _, true, rfl, .ty _, .base (.int k), kit_ty (by decide +kernel), true, rfl, _, rfl, _, _, _, _, false, rfl, .ty _, .base (.int k), kit_ty (by decide +kernel), false, rfl, hq⟩
theorem ok_isList (F : Fun K "is_list" "is_list" sIsList f fd) (gI : mg "isinstance" = none) (gL : mg "list" = none) (gT : mg "tuple" = none) : FnOk P w K mg base CX0 1 f fd ["thing"] (spIsList K) := by
  refine F.ok scIsList (fun vs H Q E h => by obtain ⟨a, xs, e, _⟩ := h; rw [e]; rfl) fun cdv A outer s H vs Q E hr hsp => ?_
  obtain ⟨a, xs, rfl, hS, hq⟩ := hsp
  refine ⟨_, pss_one (ps_ret (pe_callB (r := rIsiT K) call_isiT rfl gI boot_isi (pa_cons (pv 0) (pa_cons (pe_tup (pa_cons (pe_bltn (v := .ty "list") rfl gL boot_list' rfl) (pa_cons (pe_bltn (v := .ty "tuple") rfl gT boot_tuple' rfl) pa_nil))) pa_nil)))), ?_⟩
  refine ⟨_, rfl, (by show 2 ≤ sizeLine; decide), fun t nt => ?_⟩
  have kt := same_new (o := .tup [.ty "list", .ty "tuple"]) nt
  rcases hS.same kt with e | e
  · exact ⟨_, _, _, _, _, true, rfl, upd_same, .cons (.ty _) (.cons (.ty _) .nil), .base (.lst e), kit_two_l, hq _ kt⟩
  · exact ⟨_, _, _, _, _, true, rfl, upd_same, .cons (.ty _) (.cons (.ty _) .nil), .base (.tup e), kit_two_t, hq _ kt⟩
theorem ok_isOne (F : Fun K "is_one_of" "is_one_of" sIsOne f fd) (gI : mg "isinstance" = none) (gS : mg "str" = none) : FnOk P w K mg base CX0 1 f fd ["names", "thing"] (spIsOne K) := by
  refine F.ok scIsOne (fun vs H Q E h => by obtain ⟨c, ns, x, e, _⟩ := h; rw [e]; rfl) fun cdv A outer s H vs Q E hr hsp => ?_
  obtain ⟨c, ns, x, rfl, hS, hq⟩ := hsp
  refine ⟨_, pss_one (ps_ret (pe_and (pe_callB (r := rIsi K) call_isi rfl gI boot_isi (pa_cons (pv 1) (pa_cons (pe_bltn (v := .ty "str") rfl gS boot_str' rfl) pa_nil)))
    (pe_one (pe_cmpR op_in_seq (pv 1) (pv 0) rfl)))), ?_⟩
  refine ⟨_, rfl, _, _, _, _, true, rfl, .ty _, .base (.str x), kit_ty (by decide +kernel), true, rfl, _, rfl, _, rfl, c, _, rfl, .inl hS, rfl, flat_strs ns, ?_⟩
  rw [inV_strs]
  exact hq
/-- the dict of what was seen -/
def seenD (xs : List Str) : List (Key × V) := xs.map fun x => (Sum.inr x, V.bl true)
theorem seen_none {xs : List Str} {x : Str} (h : x ∉ xs) : valV (seenD xs) (Sum.inr x) = none := by
  cases e : valV (seenD xs) (Sum.inr x) with
  | none => rfl
  | some v =>
    exfalso
    have z : (valV (seenD xs) (Sum.inr x)).isSome = true := by rw [e]; rfl
    rw [← valV_any, List.any_eq_true] at z
    obtain ⟨q, hq, hq2⟩ := z
    obtain ⟨y, hy, rfl⟩ := List.mem_map.mp hq
    have hq3 : (Sum.inr y : Key) = Sum.inr x := of_decide_eq_true hq2
    exact h (Sum.inr.inj hq3 ▸ hy)
theorem seen_put {xs : List Str} {x : Str} (h : x ∉ xs) : putK (seenD xs) (Sum.inr x) (.bl true) = seenD (xs ++ [x]) := by
  rw [putK_new (.bl true) (seen_none h)]
  simp [seenD]
/-- what the for loop asks of its turns -/
def ForW (J : It) (g : TG) (tb : TS) (D : Ends) (σ : St) (H : Hp) : Prop := ∃ W : Nat → Nat → St → Hp → Prop, (∃ m, W 0 m σ H) ∧ ∀ i m σ H, W i m σ H →
  (J.stop i H ∧ D.nx σ H) ∨ (J.go i H ∧ ∃ N : St → Hp → Prop, (∀ σ' H', N σ' H' → ∃ m', m' < m ∧ W (i + 1) m' σ' H') ∧ ∀ x H', J.yld i H x H' → g x σ H' fun σ2 H2 => tb { D with nx := N, ct := N, bk := D.nx } σ2 H2)
theorem enum_seq {K : PySem.W.Frag} {a : Addr} {xs : List V} {o : HO} {g : TG} {tb : TS} {D : Ends} {σ : St} {H : Hp} (ko : o = .lst xs ∨ o = .tup xs) (Pv : Nat → St → Hp → Prop) (h0 : Pv 0 σ H) (hl : ∀ i σ H, i ≤ xs.length → Pv i σ H → H a = some o)
    (hs : ∀ i x σ H T, xs[i]? = some x → Pv i σ H → H T = none → g (.ref T) σ (upd H T (.tup [.int (i : Nat), x])) fun σ2 H2 => tb { D with nx := Pv (i + 1), ct := Pv (i + 1), bk := D.nx } σ2 H2) (hd : ∀ σ H, Pv xs.length σ H → D.nx σ H) :
    ∃ b ys, [V.ref a] = [V.ref b] ∧ ((SqL K H b ys ∧ ForW (Ite K b) g tb D σ H) ∨ (SqT K H b ys ∧ ForW (IteT K b) g tb D σ H)) := by
  have fin : ∀ J : It, (∀ i H, i < xs.length → H a = some o → J.go i H) → (∀ i H, i = xs.length → H a = some o → J.stop i H) → (∀ i H v H', i < xs.length → H a = some o → J.yld i H v H' → ∃ T x, v = .ref T ∧ H T = none ∧ H' = upd H T (.tup [.int (i : Nat), x]) ∧ xs[i]? = some x) → ForW J g tb D σ H := by
    intro J go stop yld
    refine ⟨fun i m σ H => m = xs.length - i ∧ i ≤ xs.length ∧ Pv i σ H, ⟨_, rfl, Nat.zero_le _, h0⟩, ?_⟩
    rintro i m σ H ⟨rfl, le, p⟩
    have q := hl i σ H le p
    by_cases lt : i < xs.length
    · refine .inr ⟨go i H lt q, Pv (i + 1), fun σ' H' p' => ⟨xs.length - (i + 1), by omega, rfl, lt, p'⟩, fun v H' y => ?_⟩
      obtain ⟨T, x, rfl, nT, rfl, ex⟩ := yld i H v H' lt q y
      exact hs i x σ H T ex p nT
    · obtain rfl : i = xs.length := by omega
      exact .inl ⟨stop _ H rfl q, hd σ H p⟩
  have q0 := hl 0 σ H (Nat.zero_le _) h0
  rcases ko with rfl | rfl
  · exact ⟨a, xs, rfl, .inl ⟨SqL.of q0, fin _ (fun i H lt q => ⟨xs, xs[i], SqL.of q, by simp [lt]⟩) (fun i H e' q => ⟨xs, SqL.of q, by omega⟩)
      (fun i H v H' lt q ⟨T, x, e1, e2, e3, e4⟩ => ⟨T, x, e1, e2, e3, e4 xs (SqL.of q)⟩)⟩⟩
  · exact ⟨a, xs, rfl, .inr ⟨SqT.of q0, fin _ (fun i H lt q => ⟨xs, xs[i], SqT.of q, by simp [lt]⟩) (fun i H e' q => ⟨xs, SqT.of q, by omega⟩)
      (fun i H v H' lt q ⟨T, x, e1, e2, e3, e4⟩ => ⟨T, x, e1, e2, e3, e4 xs (SqT.of q)⟩)⟩⟩
theorem ok_first (F : Fun K "first_bad" "first_bad" sFirst f fd) (FL : Fun K "is_list" "is_list" sIsList fL fdL) (gIL : mg "is_list" = some (.ref fL)) (FO : Fun K "is_one_of" "is_one_of" sIsOne fO fdO) (gIO : mg "is_one_of" = some (.ref fO))
    (gI : mg "isinstance" = none) (gL : mg "list" = none) (gT : mg "tuple" = none) (gS : mg "str" = none) (gE : mg "enumerate" = none) : FnOk P w K mg base CX0 2 f fd ["names", "things"] (spFirst K) := by
  have GL : FnOk P w K mg base CX0 1 fL fdL ["thing"] (spIsList K) := ok_isList FL gI gL gT
  have bL := FL.binds (ps := ["thing"]) fun _ _ _ _ _ _ us hl => match us, hl with | [_], _ => rfl
  have GO : FnOk P w K mg base CX0 1 fO fdO ["names", "thing"] (spIsOne K) := ok_isOne FO gI gS
  have bO := FO.binds (ps := ["names", "thing"]) fun _ _ _ _ _ _ us hl => match us, hl with | [_, _], _ => rfl
  refine F.ok scFirst (fun vs H Q E h => by obtain ⟨c, a, ns, known, e, _⟩ := h; rw [e]; rfl) fun cdv A outer s H vs Q E hr hsp => ?_
  obtain ⟨c, a, ns, known, rfl, hc, hS, nd1, sub, short, hq⟩ := hsp
  have nd := scFirst.nd
  have hu := hu_of hr
  refine ⟨_, pss_cons (ps_if (pt_not (pt_val (pe_call GL hr rfl gIL FL.kp bL .nil pass0 (pa_cons (pv 1) pa_nil)))) (pss_one ps_never) pss_nil)
    (pss_cons (ps_set (i := 2) nd rfl (Or.inl rfl) pe_dnewK)
    (pss_cons (ps_for PassesOwn.never rfl (pi_enumS rfl gE (pa_cons (pv 1) pa_nil)) (pg_tup rfl (pgs_cons (pg_name (i := 3) nd rfl (Or.inl rfl)) (pgs_cons (pg_name (i := 4) nd rfl (Or.inl rfl)) pgs_nil)))
      (pss_cons (ps_if (PW.pt (pw_or (pt_not (pt_val (pe_call GO hr rfl gIO FO.kp bO .nil pass0 (pa_cons (pv 0) (pa_cons (pv 4) pa_nil))))) (pw_or1 (pt_cmp (pc_din hu (pv 4) (pv 2)))))) (pss_one ps_never) pss_nil)
      (pss_one (ps_dput hu (pv 2) (pv 4) pe_bl rfl))))
    (pss_one (ps_ret pe_non)))), ?_⟩
  refine ⟨_, rfl, a, _, rfl, hS, fun H1 k1 => ⟨_, rfl, iteF fun d nd2 => ?_⟩⟩
  have kd := same_new (o := .dK []) nd2
  obtain ⟨o, ho, ko⟩ : ∃ o, H1 a = some o ∧ (o = .lst (known.map V.str) ∨ o = .tup (known.map V.str)) := by
    rcases hS.same k1 with e | e
    · exact ⟨_, e, .inl rfl⟩
    · exact ⟨_, e, .inr rfl⟩
  refine ⟨_, rfl, enum_seq ko (fun i σ H' => H' d = some (.dK (seenD (known.take i))) ∧ Same H1 H' ∧ ∃ s3 s4, σ = [some (.ref c), some (.ref a), some (.ref d), s3, s4])
    ⟨upd_same, kd, _, _, rfl⟩ (fun i σ H' _ h => h.2.1 _ _ ho) ?_ ?_⟩
  · rintro i v σ H2 T ev ⟨od, s2, s3, s4, rfl⟩ nT
    rw [List.getElem?_map] at ev
    obtain ⟨x, ex, rfl⟩ := Option.map_eq_some_iff.mp ev
    have hi : i < known.length := (List.getElem?_eq_some_iff.mp ex).1
    have kT := same_new (o := .tup [.int (i : Nat), .str x]) nT
    refine ⟨T, _, rfl, SqT.of upd_same, rfl, ?_⟩
    have e1 : known.take (i + 1) = known.take i ++ [x] := by rw [List.take_succ, ex]; rfl
    have notin : x ∉ known.take i := fun m => by
      have z := nd1
      rw [← List.take_append_drop (i + 1) known, e1, List.append_assoc, List.nodup_append] at z
      exact z.2.2 x m x (by simp) rfl
    have xin : x ∈ ns := sub x (List.mem_of_getElem? ex)
    refine ⟨_, _, rfl, _, _, rfl, rfl, ?_⟩
    refine ⟨_, rfl, _, rfl, c, ns, x, rfl, SqL.of (kT _ _ (s2 _ _ (k1 _ _ hc))), _, rfl, ?_⟩
    rw [decide_eq_true xin]
    refine iteF ⟨_, rfl, _, rfl, d, _, rfl, DGet.k (k := Sum.inr x) (kT _ _ od), ?_⟩
    rw [seen_none notin]
    refine ⟨_, rfl, iteF ?_⟩
    have small : (seenD (known.take i)).length < sizeLine := by
      rw [sizeLine_eq]
      unfold seenD
      rw [List.length_map, List.length_take]; omega
    refine ⟨_, rfl, _, rfl, d, _, rfl, DPut.k (k := Sum.inr x) (kT _ _ od) small, ?_, ?_, _, _, rfl⟩
    · rw [upd_same, seen_put notin, ← e1]
    · intro b u e
      have nb : b ≠ d := ne_of_none e nd2
      rw [upd_ne nb]
      exact kT _ _ (s2 _ _ e)
  · rintro σ H2 ⟨od, s2, s3, s4, rfl⟩
    exact hq _ (k1.trans s2)
end
end L2.TB
namespace L2.TB
open PySem PySem.Spec PyProof.Rows
/-! the checks, where nothing is wrong -/
def spCkA (K : PySem.W.Frag) : Sp := fun vs H Q _ => ∃ (c : Addr) (ns : List Str) (x : Str), vs = [.ref c, .str x] ∧ SqL K H c (ns.map V.str) ∧ x ∈ ns ∧ Q .non H
def spCkB (K : PySem.W.Frag) : Sp := fun vs H Q _ => ∃ (c a : Addr) (ns known : List Str) (x : Str), vs = [.ref c, .ref a, .str x] ∧ H c = some (.lst (ns.map V.str)) ∧ SqA K H a (known.map V.str) ∧ known.Nodup ∧ (∀ x ∈ known, x ∈ ns) ∧ known.length < 1000 ∧ x ∈ ns ∧ ∀ H', Same H H' → Q .non H'
theorem scCkK : FnScope ["names", "known", "index"] ["names", "known"] (defScope sCkK) := ⟨rfl, rfl, rfl, by decide +kernel, rfl, by decide +kernel, by decide +kernel⟩
theorem scCkA : FnScope ["names", "asked"] ["names", "asked"] (defScope sCkA) := ⟨rfl, rfl, rfl, by decide +kernel, rfl, by decide +kernel, by decide +kernel⟩
theorem scCkB : FnScope ["names", "known", "asked"] ["names", "known", "asked"] (defScope sCkB) := ⟨rfl, rfl, rfl, by decide +kernel, rfl, by decide +kernel, by decide +kernel⟩
/-- what the checks need of the module -/
structure Chk (K : PySem.W.Frag) (mg : Str → Option Value) (aF aL aO aK aA aB : Addr) : Prop where
  F : ∃ fd, Fun K "first_bad" "first_bad" sFirst aF fd
  L : ∃ fd, Fun K "is_list" "is_list" sIsList aL fd
  O : ∃ fd, Fun K "is_one_of" "is_one_of" sIsOne aO fd
  CK : ∃ fd, Fun K "check_known" "check_known" sCkK aK fd
  CA : ∃ fd, Fun K "check_asked" "check_asked" sCkA aA fd
  CB : ∃ fd, Fun K "check_both" "check_both" sCkB aB fd
  gF : mg "first_bad" = some (.ref aF)
  gL : mg "is_list" = some (.ref aL)
  gO : mg "is_one_of" = some (.ref aO)
  gCK : mg "check_known" = some (.ref aK)
  gCA : mg "check_asked" = some (.ref aA)
  gCB : mg "check_both" = some (.ref aB)
  nI : mg "isinstance" = none
  nL : mg "list" = none
  nT : mg "tuple" = none
  nS : mg "str" = none
  nE : mg "enumerate" = none
section
variable {P : Program} {w : World} {K : PySem.W.Frag} {mg : Str → Option Value} {base : Heap} {aF aL aO aK aA aB : Addr} {fd : FuncData}
theorem ok_ckK (C : Chk K mg aF aL aO aK aA aB) (F : Fun K "check_known" "check_known" sCkK aK fd) : FnOk P w K mg base CX0 3 aK fd ["names", "known"] (spFirst K) := by
  obtain ⟨fdF, FF⟩ := C.F
  obtain ⟨fdL, FL⟩ := C.L
  obtain ⟨fdO, FO⟩ := C.O
  have G : FnOk P w K mg base CX0 2 aF fdF ["names", "things"] (spFirst K) := ok_first FF FL C.gL FO C.gO C.nI C.nL C.nT C.nS C.nE
  have b := FF.binds (ps := ["names", "things"]) fun _ _ _ _ _ _ us hl => match us, hl with | [_, _], _ => rfl
  refine F.ok scCkK (fun vs H Q E h => by obtain ⟨c, a, ns, known, e, _⟩ := h; rw [e]; rfl) fun cdv A outer s H vs Q E hr hsp => ?_
  obtain ⟨c, a, ns, known, rfl, hc, hS, nd1, sub, short, hq⟩ := hsp
  have nd := scCkK.nd
  refine ⟨_, pss_cons (ps_set (i := 2) nd rfl (Or.inl rfl) (pe_call G hr rfl C.gF FF.kp b .nil pass0 (pa_cons (pv 0) (pa_cons (pv 1) pa_nil))))
    (pss_one (ps_if (pt_cmp (pc_notN (pv 2))) (pss_one ps_never) pss_nil)), ?_⟩
  refine ⟨_, rfl, _, rfl, c, a, ns, known, rfl, hc, hS, nd1, sub, short, fun H1 k1 => ?_⟩
  exact ⟨_, rfl, _, rfl, iteF (hq H1 k1)⟩
theorem ok_ckA (C : Chk K mg aF aL aO aK aA aB) (F : Fun K "check_asked" "check_asked" sCkA aA fd) : FnOk P w K mg base CX0 2 aA fd ["names", "asked"] (spCkA K) := by
  obtain ⟨fdO, FO⟩ := C.O
  have G : FnOk P w K mg base CX0 1 aO fdO ["names", "thing"] (spIsOne K) := ok_isOne FO C.nI C.nS
  have b := FO.binds (ps := ["names", "thing"]) fun _ _ _ _ _ _ us hl => match us, hl with | [_, _], _ => rfl
  refine F.ok scCkA (fun vs H Q E h => by obtain ⟨c, ns, x, e, _⟩ := h; rw [e]; rfl) fun cdv A outer s H vs Q E hr hsp => ?_
  obtain ⟨c, ns, x, rfl, hc, xin, hq⟩ := hsp
  refine ⟨_, pss_one (ps_if (pt_not (pt_val (pe_call G hr rfl C.gO FO.kp b .nil pass0 (pa_cons (pv 0) (pa_cons (pv 1) pa_nil))))) (pss_one ps_never) pss_nil), ?_⟩
  refine ⟨_, rfl, _, rfl, c, ns, x, rfl, hc, _, rfl, ?_⟩
  rw [decide_eq_true xin]
  exact iteF hq
theorem ok_ckB (C : Chk K mg aF aL aO aK aA aB) (F : Fun K "check_both" "check_both" sCkB aB fd) : FnOk P w K mg base CX0 4 aB fd ["names", "known", "asked"] (spCkB K) := by
  obtain ⟨fdK, FK⟩ := C.CK
  obtain ⟨fdA, FA⟩ := C.CA
  have GK := ok_ckK (P := P) (w := w) (base := base) C FK
  have bK := FK.binds (ps := ["names", "known"]) fun _ _ _ _ _ _ us hl => match us, hl with | [_, _], _ => rfl
  have GA := ok_ckA (P := P) (w := w) (base := base) C FA
  have bA := FA.binds (ps := ["names", "asked"]) fun _ _ _ _ _ _ us hl => match us, hl with | [_, _], _ => rfl
  refine F.ok scCkB (fun vs H Q E h => by obtain ⟨c, a, ns, known, x, e, _⟩ := h; rw [e]; rfl) fun cdv A outer s H vs Q E hr hsp => ?_
  obtain ⟨c, a, ns, known, x, rfl, hc, hS, nd1, sub, short, xin, hq⟩ := hsp
  refine ⟨_, pss_cons (ps_expr (pe_call GK hr rfl C.gCK FK.kp bK .nil pass0 (pa_cons (pv 0) (pa_cons (pv 1) pa_nil))))
    (pss_one (ps_expr (pe_call GA (hr.mono (by decide)) rfl C.gCA FA.kp bA .nil pass0 (pa_cons (pv 0) (pa_cons (pv 2) pa_nil))))), ?_⟩
  refine ⟨_, rfl, _, rfl, c, a, ns, known, rfl, hc, hS, nd1, sub, short, fun H1 k1 => ?_⟩
  exact ⟨_, rfl, _, rfl, c, ns, x, rfl, SqL.of (k1 _ _ hc), xin, hq H1 k1⟩
end
end L2.TB
namespace L2.TB
open PySem PySem.Spec PyProof.Rows
/-! what is walked is a list or a tuple -/
def iSeq (K : PySem.W.Frag) (tl : TE) : TI := fun σ H R => tl σ H fun x H1 => ∃ a xs, x = .ref a ∧ ((SqL K H1 a xs ∧ R (Itl K a) H1) ∨ (SqT K H1 a xs ∧ R (Itt K a) H1))
theorem pi_seq {X : Cx} {tg l : Expr} {tl : TE} (hl : PE X l tl) : PI X tg l (iSeq X.K tl) := by
  refine PI.mk fun pins z σ H R I reading => thn (hl.run pins z σ H _ I reading) fun v z1 ⟨x, H1, I1, rel, a, xs, ex, both⟩ => ?_
  subst ex
  obtain rfl : v = Value.ref a := rel
  have one : ∀ (o : Obj), FpOk X pins H1 z1.heap.objs.size := fun _ => I1.fpOk (Nat.le_refl _) (I1.hok.fresh (Nat.le_refl _))
  have fresh : ∀ b ∈ [z1.heap.objs.size], FpOk X pins H1 b := fun b hb => by
    obtain rfl := List.mem_singleton.mp hb
    exact I1.fpOk (Nat.le_refl _) (I1.hok.fresh (Nat.le_refl _))
  rcases both with ⟨sq, q⟩ | ⟨sq, q⟩
  · obtain ⟨its, rv, isL, _⟩ := I1.list sq
    exact wpAny_pyIter_list isL.isList ⟨_, _, _, _, H1, rfl, I1.kept (t' := z1.toks) (fun b o e => Heap.get?_push_of_some _ e), turn_list a _, ⟨_, Heap.get?_push_size _ rfl, rfl, rfl⟩, fresh, q⟩
  · obtain ⟨its, rv, isT, _⟩ := I1.tuple sq
    exact wpAny_pyIter_tuple (show z1.heap.IsTuple a its.toArray from isT) ⟨_, _, _, _, H1, rfl, I1.kept (t' := z1.toks) (fun b o e => Heap.get?_push_of_some _ e), turn_tuple a _, ⟨_, Heap.get?_push_size _ rfl, rfl, rfl⟩, fresh, q⟩
/-- a for loop over it -/
theorem for_seq {K : PySem.W.Frag} {a : Addr} {xs : List V} {o : HO} {g : TG} {tb : TS} {D : Ends} {σ : St} {H : Hp} (ko : o = .lst xs ∨ o = .tup xs) (Pv : Nat → St → Hp → Prop) (h0 : Pv 0 σ H) (hl : ∀ i σ H, i ≤ xs.length → Pv i σ H → H a = some o)
    (hs : ∀ i x σ H, xs[i]? = some x → Pv i σ H → g x σ H fun σ2 H2 => tb { D with nx := Pv (i + 1), ct := Pv (i + 1), bk := D.nx } σ2 H2) (hd : ∀ σ H, Pv xs.length σ H → D.nx σ H) :
    ∃ b ys, V.ref a = V.ref b ∧ ((SqL K H b ys ∧ ForW (Itl K b) g tb D σ H) ∨ (SqT K H b ys ∧ ForW (Itt K b) g tb D σ H)) := by
  have q0 := hl 0 σ H (Nat.zero_le _) h0
  rcases ko with rfl | rfl
  · exact ⟨a, xs, rfl, .inl ⟨SqL.of q0, for_list Pv h0 (fun i σ H le p => SqL.of (hl i σ H le p)) hs hd⟩⟩
  · exact ⟨a, xs, rfl, .inr ⟨SqT.of q0, for_tup Pv h0 (fun i σ H le p => SqT.of (hl i σ H le p)) hs hd⟩⟩
/-- what a list comprehension asks of its turns -/
def LcW (J : It) (g : TG) (tt : TT) (te : TE) (vs : List Nat) (σ : St) (H1 : Hp) (Q : Addr → Hp → Prop) : Prop := ∀ D, H1 D = none → ∃ W : Nat → Nat → Hp → Prop, (∃ m, W 0 m (upd H1 D (.lst []))) ∧ ∀ i m H, W i m H →
  (J.stop i H ∧ Q D H) ∨ (J.go i H ∧ ∃ Nx : Hp → Prop, (∀ H', Nx H' → ∃ m', m' < m ∧ W (i + 1) m' H') ∧ ∀ x H', J.yld i H x H' → g x (wipe σ vs) H' fun σ2 H2 => wipe σ2 vs = wipe σ vs ∧ tt σ2 H2 fun b H3 =>
    if b = true then te σ2 H3 fun y H4 => ∃ acc, H4 D = some (.lst acc) ∧ acc.length < sizeLine ∧ Nx (upd H4 D (.lst (acc ++ [y]))) else Nx H3)
/-- a turn of a comprehension: keep tells whether x is kept, fv x is what is made of it; nothing that was there is changed -/
def LcTurn (g : TG) (tt : TT) (te : TE) (vs : List Nat) (σ : St) (xs : List V) (keep : V → Bool) (fv : V → V) (H1 : Hp) : Prop :=
  ∀ (i : Nat) (x : V) (H : Hp) (C : V → Hp → Prop) (N : Hp → Prop), xs[i]? = some x → Same H1 H → (keep x = true → ∀ H4, Same H H4 → C (fv x) H4) → (keep x = false → ∀ H4, Same H H4 → N H4) →
    g x (wipe σ vs) H fun σ2 H2 => wipe σ2 vs = wipe σ vs ∧ tt σ2 H2 fun b H3 => if b = true then te σ2 H3 C else N H3
theorem filter_snoc (keep : V → Bool) (fv : V → V) {xs : List V} {i : Nat} {x : V} (ex : xs[i]? = some x) :
    ((xs.take (i + 1)).filter keep).map fv = ((xs.take i).filter keep).map fv ++ (if keep x = true then [fv x] else []) := by
  have e1 : xs.take (i + 1) = xs.take i ++ [x] := by rw [List.take_succ, ex]; rfl
  rw [e1, List.filter_append, List.map_append]
  congr 1
  cases h : keep x <;> simp [h]
theorem lc_seq {K : PySem.W.Frag} {a : Addr} {xs : List V} {o : HO} {g : TG} {tt : TT} {te : TE} {vs : List Nat} {σ : St} {H1 : Hp} {Q : Addr → Hp → Prop} (ko : o = .lst xs ∨ o = .tup xs) (ho : H1 a = some o) (short : xs.length < 1000000) (keep : V → Bool) (fv : V → V)
    (turn : LcTurn g tt te vs σ xs keep fv H1) (fin : ∀ H D, H1 D = none → H D = some (.lst ((xs.filter keep).map fv)) → Same H1 H → Q D H) :
    ∃ b ys, V.ref a = V.ref b ∧ ((SqL K H1 b ys ∧ LcW (Itl K b) g tt te vs σ H1 Q) ∨ (SqT K H1 b ys ∧ LcW (Itt K b) g tt te vs σ H1 Q)) := by
  have go : ∀ D, H1 D = none → ∀ (i : Nat) (x : V) (H : Hp), xs[i]? = some x → (H D = some (.lst (((xs.take i).filter keep).map fv)) ∧ Same H1 H) → g x (wipe σ vs) H fun σ2 H2 => wipe σ2 vs = wipe σ vs ∧ tt σ2 H2 fun b H3 =>
      if b = true then te σ2 H3 fun y H4 => ∃ acc, H4 D = some (.lst acc) ∧ acc.length < sizeLine ∧ ((upd H4 D (.lst (acc ++ [y]))) D = some (.lst (((xs.take (i + 1)).filter keep).map fv)) ∧ Same H1 (upd H4 D (.lst (acc ++ [y])))) else (H3 D = some (.lst (((xs.take (i + 1)).filter keep).map fv)) ∧ Same H1 H3) := by
    rintro D nD i x H ex ⟨oD, s1⟩
    refine turn i x H _ _ ex s1 (fun k H4 s4 => ⟨_, s4 _ _ oD, ?_, ?_, ?_⟩) (fun k H4 s4 => ⟨?_, s1.trans s4⟩)
    · rw [sizeLine_eq, List.length_map]
      have := List.length_filter_le keep (xs.take i)
      rw [List.length_take] at this
      omega
    · rw [upd_same, filter_snoc keep fv ex, if_pos k]
    · intro b u e
      have nb : b ≠ D := ne_of_none e nD
      rw [upd_ne nb]
      exact s4 _ _ (s1 _ _ e)
    · rw [filter_snoc keep fv ex, k]
      simpa using s4 _ _ oD
  have all : xs.take xs.length = xs := List.take_length
  rcases ko with rfl | rfl
  · exact ⟨a, xs, rfl, .inl ⟨SqL.of ho, fun D nD => lc_list (xs := xs) (fun i H => H D = some (.lst (((xs.take i).filter keep).map fv)) ∧ Same H1 H) ⟨upd_same, same_new nD⟩ (fun i H _ p => SqL.of (p.2 _ _ ho)) (fun i x H ex p => go D nD i x H ex p)
      (fun H p => fin H D nD (by rw [all] at p; exact p.1) p.2)⟩⟩
  · exact ⟨a, xs, rfl, .inr ⟨SqT.of ho, fun D nD => lc_tup (xs := xs) (fun i H => H D = some (.lst (((xs.take i).filter keep).map fv)) ∧ Same H1 H) ⟨upd_same, same_new nD⟩ (fun i H _ p => SqT.of (p.2 _ _ ho)) (fun i x H ex p => go D nD i x H ex p)
      (fun H p => fin H D nD (by rw [all] at p; exact p.1) p.2)⟩⟩
end L2.TB
namespace L2.TB
open PySem PySem.Spec PyProof.Rows
/-! the table and its methods -/
def tabF (qa ra : Addr) : List (Str × V) := [("_questions", .ref qa), ("_rows", .ref ra)]
theorem tabF_q (qa ra : Addr) : (tabF qa ra).lookup ("_questions" : Str) = some (V.ref qa) := rfl
theorem tabF_r (qa ra : Addr) : (tabF qa ra).lookup ("_rows" : Str) = some (V.ref ra) := rfl
/-- the rows of the list at ra -/
def TRows (H : Hp) (ra : Addr) (n : Nat) (tbl : List (List Int)) : Prop := ∃ ps : List Addr, H ra = some (.lst (ps.map V.ref)) ∧ Paired (fun p vs => H p = some (.tup (vs.map V.int)) ∧ vs.length = n) ps tbl
structure TabAt (H : Hp) (C a : Addr) (ns : List Str) (tbl : List (List Int)) : Prop where
  ex : ∃ dx qa ra, H a = some (.ins C dx (tabF qa ra)) ∧ H qa = some (.lst (ns.map V.str)) ∧ TRows H ra ns.length tbl
theorem TRows.same {H H' : Hp} {ra : Addr} {n : Nat} {tbl : List (List Int)} (t : TRows H ra n tbl) (s : Same H H') : TRows H' ra n tbl := by
  obtain ⟨ps, o, r⟩ := t
  exact ⟨ps, s _ _ o, Paired.mapP r fun p vs h => ⟨s _ _ h.1, h.2⟩⟩
theorem TabAt.same {H H' : Hp} {C a : Addr} {ns : List Str} {tbl : List (List Int)} (t : TabAt H C a ns tbl) (s : Same H H') : TabAt H' C a ns tbl := by
  obtain ⟨dx, qa, ra, h1, h2, h3⟩ := t.ex
  exact ⟨dx, qa, ra, s _ _ h1, s _ _ h2, h3.same s⟩
structure TabC (K : PySem.W.Frag) (C : Addr) : Prop where
  cl : Cls K C
  nQ : NoAttr K C "_questions"
  nR : NoAttr K C "_rows"
def spQs (K : PySem.W.Frag) (C : Addr) : Sp := fun vs H Q _ => ∃ (a : Addr) (ns : List Str) (tbl : List (List Int)), vs = [.ref a] ∧ TabAt H C a ns tbl ∧ ∀ H' q, H q = none → H' q = some (.lst (ns.map V.str)) → Same H H' → Q (.ref q) H'
def idx (ns : List Str) (x : Str) : Nat := ns.idxOf x
def spPlaces (K : PySem.W.Frag) (C : Addr) : Sp := fun vs H Q _ => ∃ (a b : Addr) (ns known : List Str) (tbl : List (List Int)), vs = [.ref a, .ref b] ∧ TabAt H C a ns tbl ∧ SqA K H b (known.map V.str) ∧ (∀ x ∈ known, x ∈ ns) ∧ known.length < 1000 ∧
  ∀ H' q, H q = none → H' q = some (.lst (known.map fun x => V.int (idx ns x : Nat))) → Same H H' → Q (.ref q) H'
theorem scQs : FnScope ["self"] ["self"] (defScope sQs) := ⟨rfl, rfl, rfl, by decide +kernel, rfl, by decide +kernel, by decide +kernel⟩
abbrev NP : List Str := ["self", "names", "name"]
theorem scPlaces : FnScope NP ["self", "names"] (defScope sPlaces) := ⟨rfl, rfl, rfl, by decide +kernel, rfl, by decide +kernel, by decide +kernel⟩
theorem idx_at {ns : List Str} {x : Str} (h : x ∈ ns) : (ns.map V.str)[idx ns x]? = some (.str x) ∧ ∀ (m : Nat) (z : V), m < idx ns x → (ns.map V.str)[m]? = some z → eqV z (.str x) = false := by
  have lt : idx ns x < ns.length := List.idxOf_lt_length_of_mem h
  refine ⟨?_, fun m z lm ez => ?_⟩
  · rw [List.getElem?_map, List.getElem?_eq_getElem lt]
    have e : ns[idx ns x] = x := List.getElem_idxOf lt
    rw [e]; rfl
  · rw [List.getElem?_map] at ez
    obtain ⟨y, ey, rfl⟩ := Option.map_eq_some_iff.mp ez
    rw [str_inj]
    refine decide_eq_false fun q => ?_
    subst q
    have : idx ns y ≤ m := by
      obtain ⟨hm, em⟩ := List.getElem?_eq_some_iff.mp ey
      by_cases c : m < idx ns y
      · have z := List.not_of_lt_findIdx (p := fun a => a == y) (xs := ns) (i := m) c
        rw [em] at z
        simp at z
      · omega
    omega
section
variable {P : Program} {w : World} {K : PySem.W.Frag} {mg : Str → Option Value} {base : Heap} {f C : Addr} {fd : FuncData}
theorem ok_qs (F : Fun K "questions" "Table.questions" sQs f fd) (T : TabC K C) (gL : mg "list" = none) : FnOk P w K mg base CX0 1 f fd ["self"] (spQs K C) := by
  refine F.ok scQs (fun vs H Q E h => by obtain ⟨a, ns, tbl, e, _⟩ := h; rw [e]; rfl) fun cdv A outer s H vs Q E hr hsp => ?_
  obtain ⟨a, ns, tbl, rfl, ⟨dx, qa, ra, ha, hqa, hra⟩, hq⟩ := hsp
  refine ⟨_, pss_one (ps_ret (pe_callTy call_list_of rfl gL (by decide +kernel) (pa_cons (pe_fld (pv 0) rfl) pa_nil))), ?_⟩
  exact ⟨_, rfl, _, _, _, _, _, rfl, ha, T.cl, T.nQ, tabF_q _ _, _, _, rfl, .inl (SqL.of hqa), fun q nq => hq _ q nq upd_same (same_new nq)⟩
theorem ok_places (F : Fun K "_places" "Table._places" sPlaces f fd) (T : TabC K C) : FnOk P w K mg base CX0 1 f fd ["self", "names"] (spPlaces K C) := by
  refine F.ok scPlaces (fun vs H Q E h => by obtain ⟨a, b, ns, known, tbl, e, _⟩ := h; rw [e]; rfl) fun cdv A outer s H vs Q E hr hsp => ?_
  obtain ⟨a, b, ns, known, tbl, rfl, ⟨dx, qa, ra, ha, hqa, hra⟩, hb, sub, short, hq⟩ := hsp
  have nd := scPlaces.nd
  refine ⟨_, pss_one (ps_ret (pe_lc (own := [("name", 2)]) (tt := tYes) (te := tBM K "list" (rIndex K) (tFld K (tVar 0) "_questions") (tCons (tVar 2) tNil)) rfl nd (pi_seq (pv 1)) (blkOk_by (N := NP) (sc := defScope sPlaces) (by decide +kernel))
    (fun _ _ _ _ _ => pg_name (i := 2) nd rfl (Or.inl rfl)) (fun _ _ _ _ _ => pts_nil) (fun _ _ _ _ _ => pe_bm PySem.F.plainAttrs_list PySem.F.slot_list_index PySem.F.type_list_index mt_index (pe_fld (pv 0) rfl) (pa_cons (pv 2) pa_nil)))), ?_⟩
  obtain ⟨o, ho, ko⟩ : ∃ o, H b = some o ∧ (o = .lst (known.map V.str) ∨ o = .tup (known.map V.str)) := by
    rcases hb with e | e
    · exact ⟨_, e, .inl rfl⟩
    · exact ⟨_, e, .inr rfl⟩
  refine ⟨_, rfl, lc_seq ko ho (by rw [List.length_map]; omega) (fun _ => true) (fun v => match v with | .str x => .int (idx ns x : Nat) | _ => .non) ?_ ?_⟩
  · rintro i v H2 D N ev s2 yes no
    rw [List.getElem?_map] at ev
    obtain ⟨x, ex, rfl⟩ := Option.map_eq_some_iff.mp ev
    have xin : x ∈ ns := sub x (List.mem_of_getElem? ex)
    obtain ⟨i1, i2⟩ := idx_at xin
    refine ⟨rfl, ?_⟩
    refine ⟨_, rfl, _, _, _, _, _, rfl, s2 _ _ ha, T.cl, T.nQ, tabF_q _ _, .inl ⟨rfl, _, SqL.of (s2 _ _ hqa)⟩, _, rfl, ?_⟩
    exact ⟨qa, _, .str x, idx ns x, .str x, rfl, rfl, SqL.of (s2 _ _ hqa), rfl, flat_strs ns, i1, by rw [str_inj]; simp, i2, yes rfl H2 (Same.refl _)⟩
  · intro H2 q nq oq s2
    refine hq H2 q nq ?_ s2
    rw [oq, List.filter_eq_self.mpr (fun _ _ => rfl), List.map_map]
    rfl
end
end L2.TB
namespace L2.TB
open PySem PySem.Spec PyProof.Rows
/-! two rows that part -/
/-- the answer of a row -/
def av (ns : List Str) (vs : List Int) (x : Str) : Int := vs.getD (idx ns x) 0
def keyR (ns known : List Str) (vs : List Int) : List Int := known.map (av ns vs)
def keyK (ks : List Int) : List Key := ks.map Sum.inl
theorem keyK_kV (ks : List Int) : (keyK ks).map kV = ks.map V.int := by
  unfold keyK; rw [List.map_map]; rfl
theorem keyK_inj {a b : List Int} (h : keyK a = keyK b) : a = b := by
  unfold keyK at h
  exact (List.map_inj_right (fun x y e => Sum.inl.inj e)).mp h
/-- known tells asked, over these rows -/
def Tells (ns : List Str) (tbl : List (List Int)) (known : List Str) (x : Str) : Prop := ∀ u ∈ tbl, ∀ v ∈ tbl, keyR ns known u = keyR ns known v → av ns u x = av ns v x
instance (ns tbl known x) : Decidable (Tells ns tbl known x) := by unfold Tells; exact inferInstance
def spParting (K : PySem.W.Frag) (C : Addr) : Sp := fun vs H Q _ => ∃ (a b : Addr) (ns known : List Str) (x : Str) (tbl : List (List Int)), vs = [.ref a, .ref b, .str x] ∧ TabAt H C a ns tbl ∧ SqA K H b (known.map V.str) ∧ (∀ x ∈ known, x ∈ ns) ∧ known.length < 1000 ∧ x ∈ ns ∧ tbl.length < 1000 ∧
  (Tells ns tbl known x → ∀ H', Same H H' → Q .non H') ∧
  (¬ Tells ns tbl known x → ∀ H' t p q u v, H t = none → H' t = some (.tup [.ref p, .ref q]) → u ∈ tbl → v ∈ tbl → H' p = some (.tup (u.map V.int)) → H' q = some (.tup (v.map V.int)) → keyR ns known u = keyR ns known v → av ns u x ≠ av ns v x → Same H H' → Q (.ref t) H')
abbrev NPa : List Str := ["self", "known", "asked", "places", "place", "first", "row", "key", "k"]
theorem scParting : FnScope NPa ["self", "known", "asked"] (defScope sParting) := ⟨rfl, rfl, rfl, by decide +kernel, rfl, by decide +kernel, by decide +kernel⟩
/-- what the dict of first rows knows behind i rows -/
structure First (ns known : List Str) (x : Str) (ps : List Addr) (tbl : List (List Int)) (i : Nat) (kvs : List (List Key × V)) : Prop where
  has : ∀ (j : Nat) (v : List Int), j < i → tbl[j]? = some v → ∃ (j0 : Nat) (u : List Int), tbl[j0]? = some u ∧ ∃ p : Addr, ps[j0]? = some p ∧ valV kvs (keyK (keyR ns known v)) = some (.ref p) ∧ keyR ns known u = keyR ns known v ∧ av ns u x = av ns v x
  from_ : ∀ (k : List Key) (y : V), valV kvs k = some y → ∃ (j : Nat) (u : List Int) (p : Addr), tbl[j]? = some u ∧ ps[j]? = some p ∧ y = .ref p ∧ k = keyK (keyR ns known u)
  len : kvs.length ≤ i
theorem av_at {ns : List Str} {vs : List Int} {x : Str} (h : x ∈ ns) (hl : vs.length = ns.length) : atI (vs.map V.int) ((idx ns x : Nat) : Int) = some (.int (av ns vs x)) := by
  have lt : idx ns x < ns.length := List.idxOf_lt_length_of_mem h
  refine atI_nat ?_
  rw [List.getElem?_map, List.getElem?_eq_getElem (by omega)]
  unfold av
  rw [List.getD_eq_getElem?_getD, List.getElem?_eq_getElem (by omega)]
  rfl
theorem paired_get {α β : Type} {F : α → β → Prop} {as : List α} {bs : List β} (p : Paired F as bs) : ∀ {i : Nat} {a : α}, as[i]? = some a → ∃ b, bs[i]? = some b ∧ F a b := by
  induction p with
  | nil => intro i a h; simp at h
  | cons h t ih =>
    intro i a e
    cases i with
    | zero =>
      obtain rfl := Option.some.inj e
      exact ⟨_, rfl, h⟩
    | succ i => exact ih (i := i) e
section
variable {P : Program} {w : World} {K : PySem.W.Frag} {mg : Str → Option Value} {base : Heap} {f C fP : Addr} {fd fdP : FuncData}
theorem ok_parting (F : Fun K "_parting_rows" "Table._parting_rows" sParting f fd) (FP : Fun K "_places" "Table._places" sPlaces fP fdP) (mP : Meth K C "_places" fP) (T : TabC K C) (gT : mg "tuple" = none) : FnOk P w K mg base CX0 2 f fd ["self", "known", "asked"] (spParting K C) := by
  have G : FnOk P w K mg base CX0 1 fP fdP ["self", "names"] (spPlaces K C) := ok_places FP T
  have b := FP.binds (ps := ["self", "names"]) fun _ _ _ _ _ _ us hl => match us, hl with | [_, _], _ => rfl
  refine F.ok scParting (fun vs H Q E h => by obtain ⟨a, b, ns, known, x, tbl, e, _⟩ := h; rw [e]; rfl) fun cdv A outer s H vs Q E hr hsp => ?_
  obtain ⟨a, bk, ns, known, x, tbl, rfl, hT, hb, sub, short, xin, shortT, yes, no⟩ := hsp
  have nd := scParting.nd
  have hu := hu_of hr
  refine ⟨_, pss_cons (ps_set (i := 3) nd rfl (Or.inl rfl) (pe_meth (pv 0) T.cl mP G hr b .nil pass0 (pa_cons (pv 1) pa_nil)))
    (pss_cons (ps_set (i := 4) nd rfl (Or.inl rfl) (pe_bm PySem.F.plainAttrs_list PySem.F.slot_list_index PySem.F.type_list_index mt_index (pe_fld (pv 0) rfl) (pa_cons (pv 2) pa_nil)))
    (pss_cons (ps_set (i := 5) nd rfl (Or.inl rfl) pe_dnewT)
    (pss_cons (ps_for PassesOwn.never rfl (pi_seq (pe_fld (pv 0) rfl)) (pg_name (i := 6) nd rfl (Or.inr rfl))
      (pss_cons (ps_set (i := 7) nd rfl (Or.inl rfl) (pe_callTy call_tuple_of rfl gT boot_tuple' (pa_cons (pe_lc (own := [("k", 8)]) (tt := tYes) rfl nd (pi_seq (pv 3)) (blkOk_by (N := NPa) (sc := defScope sParting) (by decide +kernel))
          (fun _ _ _ _ _ => pg_name (i := 8) nd rfl (Or.inl rfl)) (fun _ _ _ _ _ => pts_nil) (fun _ _ _ _ _ => pe_ix (r := rIxT K) ix_tup (pv 6) (pv 8) (fun _ _ => rfl))) pa_nil)))
      (pss_one (ps_if (pt_cmp (pc_dnotin hu (pv 7) (pv 5))) (pss_one (ps_dput hu (pv 5) (pv 7) (pv 6) rfl))
        (pss_one (ps_if (pt_cmpR op_ne (pe_ix ix_tup (pe_dget hu (pv 5) (pv 7) (fun _ _ => rfl)) (pv 4) (fun _ _ => rfl)) (pe_ix ix_tup (pv 6) (pv 4) (fun _ _ => rfl)) (nomark _))
          (pss_one (ps_ret (pe_tup (pa_cons (pe_dget hu (pv 5) (pv 7) (fun _ _ => rfl)) (pa_cons (pv 6) pa_nil))))) pss_nil))))))
    (pss_one (ps_ret pe_non))))), ?_⟩
  obtain ⟨dx, qa, ra, ha, hqa, hra⟩ := hT.ex
  refine ⟨_, rfl, a, dx, _, rfl, ha, rfl, _, rfl, a, bk, ns, known, tbl, rfl, hT, hb, sub, short, fun H1 pl npl opl s1 => ?_⟩
  obtain ⟨i1, i2⟩ := idx_at xin
  refine ⟨_, rfl, _, _, _, _, _, rfl, s1 _ _ ha, T.cl, T.nQ, tabF_q _ _, .inl ⟨rfl, _, SqL.of (s1 _ _ hqa)⟩, _, rfl, qa, _, .str x, idx ns x, .str x, rfl, rfl, SqL.of (s1 _ _ hqa), rfl, flat_strs ns, i1, by rw [str_inj]; simp, i2, ?_⟩
  intro d nd1
  have sd := same_new (o := .dT []) nd1
  obtain ⟨ps, ora, prs⟩ := hra.same s1
  have lps : ps.length = tbl.length := Paired.length prs
  refine ⟨_, rfl, _, _, _, _, _, rfl, sd _ _ (s1 _ _ ha), T.cl, T.nR, tabF_r _ _, for_seq (.inl rfl) (fun i σ H' => H' ra = some (.lst (ps.map V.ref)) ∧ Same H1 H' ∧ ∃ kvs s6 s7 s8, σ = [some (.ref a), some (.ref bk), some (.str x), some (.ref pl), some (.int (idx ns x : Nat)), some (.ref d), s6, s7, s8] ∧ H' d = some (.dT kvs) ∧ First ns known x ps tbl i kvs)
    ⟨sd _ _ ora, sd, [], _, _, _, rfl, upd_same, ⟨fun j v z => absurd z (Nat.not_lt_zero _), fun k y e => by simp [valV] at e, Nat.zero_le _⟩⟩ (fun i σ H' _ h => h.1) ?_ ?_⟩
  · rintro i vp σ H2 evp ⟨ora2, s2, kvs, s6, s7, s8, rfl, od, FS⟩
    rw [List.getElem?_map] at evp
    obtain ⟨p, ep, rfl⟩ := Option.map_eq_some_iff.mp evp
    obtain ⟨v, ev, op, lv⟩ := paired_get prs ep
    have op2 := s2 _ _ op
    have vin : v ∈ tbl := List.mem_of_getElem? ev
    have hi : i < tbl.length := (List.getElem?_eq_some_iff.mp ev).1
    -- the key
    refine ⟨_, rfl, lc_seq (.inl rfl) (s2 _ _ opl) (by rw [List.length_map]; omega) (fun _ => true) (fun y => match y with | .int n => .int (v.getD n.toNat 0) | _ => .non) ?_ ?_⟩
    · rintro j y H3 Cn Nn ey s3 yes3 no3
      rw [List.getElem?_map] at ey
      obtain ⟨z, ez, rfl⟩ := Option.map_eq_some_iff.mp ey
      have zin : z ∈ ns := sub z (List.mem_of_getElem? ez)
      refine ⟨rfl, ?_⟩
      exact ⟨_, rfl, _, rfl, p, _, _, _, rfl, rfl, SqT.of (s3 _ _ op2), av_at zin lv, yes3 rfl H3 (Same.refl _)⟩
    · intro H3 l nl ol s3
      have ekey : ((known.map fun x => V.int (idx ns x : Nat)).filter fun _ => true).map (fun y => match y with | V.int n => V.int (v.getD n.toNat 0) | _ => V.non) = (keyK (keyR ns known v)).map kV := by
        rw [keyK_kV, List.filter_eq_self.mpr (fun _ _ => rfl), List.map_map]
        unfold keyR
        rw [List.map_map]
        rfl
      rw [ekey] at ol
      refine ⟨l, _, rfl, .inl ⟨SqL.of ol, fun kt nkt => ?_⟩⟩
      have sk := same_new (o := .tup ((keyK (keyR ns known v)).map kV)) nkt
      have ok3 : upd H3 kt (.tup ((keyK (keyR ns known v)).map kV)) kt = some (.tup ((keyK (keyR ns known v)).map kV)) := upd_same
      generalize upd H3 kt (.tup ((keyK (keyR ns known v)).map kV)) = H4 at sk ok3
      have s24 := s3.trans sk
      have od4 := s24 _ _ od
      have op4 := s24 _ _ op2
      have ndk : ∀ {u o}, H1 u = some o → u ≠ d := fun e => ne_of_none e nd1
      refine ⟨_, rfl, _, rfl, d, _, rfl, DGet.t od4 ok3, _, rfl, ?_⟩
      cases ek : valV kvs (keyK (keyR ns known v)) with
      | none =>
        refine iteT ?_
        refine ⟨_, rfl, _, rfl, _, rfl, d, _, rfl, DPut.t od4 ok3 (by rw [sizeLine_eq]; have := FS.len; omega), ?_, ?_, putK kvs (keyK (keyR ns known v)) (.ref p), _, _, _, rfl, upd_same, ?_⟩
        · rw [upd_ne (ndk ora)]; exact s24 _ _ ora2
        · intro b' u' e
          rw [upd_ne (ndk e)]; exact s24 _ _ (s2 _ _ e)
        · refine ⟨fun j v' hj ev' => ?_, fun k y e => ?_, ?_⟩
          · by_cases hji : j = i
            · subst hji
              rw [ev] at ev'
              obtain rfl := Option.some.inj ev'
              exact ⟨j, v, ev, p, ep, by rw [valV_put, if_pos rfl], rfl, rfl⟩
            · obtain ⟨j0, u, eu, p0, ep0, e0, k0, a0⟩ := FS.has j v' (by omega) ev'
              refine ⟨j0, u, eu, p0, ep0, ?_, k0, a0⟩
              rw [valV_put, if_neg, e0]
              intro z
              rw [z, ek] at e0; cases e0
          · rw [valV_put] at e
            by_cases hk : k = keyK (keyR ns known v)
            · rw [if_pos hk] at e
              obtain rfl := Option.some.inj e
              exact ⟨i, v, p, ev, ep, rfl, hk⟩
            · rw [if_neg hk] at e
              exact FS.from_ k y e
          · rw [putK_new _ ek, List.length_append]
            have := FS.len
            show kvs.length + 1 ≤ _
            omega
      | some y =>
        refine iteF ?_
        obtain ⟨j0, u, p0, eu, ep0, rfl, ek0⟩ := FS.from_ _ _ ek
        have ek1 : keyR ns known u = keyR ns known v := (keyK_inj ek0).symm
        obtain ⟨u', eu', op0, lu⟩ := paired_get prs ep0
        rw [eu] at eu'
        obtain rfl := Option.some.inj eu'
        have op04 := s24 _ _ (s2 _ _ op0)
        have uin : u ∈ tbl := List.mem_of_getElem? eu
        have dg : DGet H4 d (.ref kt) (some (.ref p0)) := ek ▸ DGet.t od4 ok3
        refine ⟨_, rfl, _, rfl, d, _, rfl, dg, _, rfl, p0, _, _, _, rfl, rfl, SqT.of op04, av_at xin lu, _, rfl, _, rfl, p, _, _, _, rfl, rfl, SqT.of op4, av_at xin lv, rfl, _, rfl, ite2 (fun e => ?_) (fun e => ?_)⟩
        · refine ⟨_, rfl, _, rfl, d, _, rfl, dg, _, rfl, (by show 2 ≤ sizeLine; decide), fun t nt => ?_⟩
          have st := same_new (o := .tup [.ref p0, .ref p]) nt
          have s14 : Same H1 H4 := s2.trans s24
          have nt0 : H t = none := (s1.trans s14).free nt
          refine no (fun T => ?_) _ t p0 p u v nt0 upd_same uin vin (st _ _ op04) (st _ _ op4) ek1 ?_ ((s1.trans s14).trans st)
          · rw [T u uin v vin ek1, decide_eq_true rfl] at e
            cases e
          · intro z
            rw [z, decide_eq_true rfl] at e
            cases e
        · refine ⟨s24 _ _ ora2, s2.trans s24, kvs, _, _, _, rfl, od4, ?_⟩
          refine ⟨fun j v' hj ev' => ?_, FS.from_, Nat.le_succ_of_le FS.len⟩
          by_cases hji : j = i
          · subst hji
            rw [ev] at ev'
            obtain rfl := Option.some.inj ev'
            refine ⟨j0, u, eu, p0, ep0, ek, ek1, ?_⟩
            by_cases z : av ns u x = av ns v x
            · exact z
            · have z2 : ¬ V.int (av ns u x) = V.int (av ns v x) := fun y => z (V.int.inj y)
              rw [decide_eq_false z2] at e
              exact absurd rfl e
          · exact FS.has j v' (by omega) ev'
  · rintro σ H2 ⟨ora2, s2, kvs, s6, s7, s8, rfl, od, FS⟩
    refine yes (fun u hu v hv e => ?_) _ (s1.trans s2)
    obtain ⟨j, hj, eu⟩ := List.getElem_of_mem hu
    obtain ⟨j', hj', ev⟩ := List.getElem_of_mem hv
    have lt : ∀ n, n < tbl.length → n < (ps.map V.ref).length := fun n h => by rw [List.length_map]; omega
    obtain ⟨j0, u0, eu0, p0, ep0, w0, k0, a0⟩ := FS.has j u (lt _ hj) (by rw [List.getElem?_eq_getElem hj, eu])
    obtain ⟨j1, u1, eu1, p1, ep1, w1, k1, a1⟩ := FS.has j' v (lt _ hj') (by rw [List.getElem?_eq_getElem hj', ev])
    rw [e, w1] at w0
    have ep : p1 = p0 := V.ref.inj (Option.some.inj w0)
    subst ep
    obtain ⟨x0, ex0, o0, _⟩ := paired_get prs ep0
    obtain ⟨x1, ex1, o1, _⟩ := paired_get prs ep1
    rw [eu0] at ex0
    rw [eu1] at ex1
    obtain rfl := Option.some.inj ex0
    obtain rfl := Option.some.inj ex1
    rw [o0] at o1
    have same : u0.map V.int = u1.map V.int := HO.tup.inj (Option.some.inj o1)
    have same2 : u0 = u1 := (List.map_inj_right (fun x y e => V.int.inj e)).mp same
    rw [← a0, ← a1, same2]
end
end L2.TB
namespace L2.TB
open PySem PySem.Spec PyProof.Rows
/-! what is told -/
/-- the places of the table's methods -/
structure TabM (K : PySem.W.Frag) (C fQ fI fPl fPr : Addr) : Prop extends TabC K C where
  Q : ∃ fd, Fun K "questions" "Table.questions" sQs fQ fd
  I : ∃ fd, Fun K "is_told" "Table.is_told" sIsTold fI fd
  L : ∃ fd, Fun K "_places" "Table._places" sPlaces fPl fd
  R : ∃ fd, Fun K "_parting_rows" "Table._parting_rows" sParting fPr fd
  mQ : Meth K C "questions" fQ
  mI : Meth K C "is_told" fI
  mL : Meth K C "_places" fPl
  mR : Meth K C "_parting_rows" fPr
/-- a table and known ones of it -/
structure Asked (K : PySem.W.Frag) (H : Hp) (C a b : Addr) (ns known : List Str) (tbl : List (List Int)) : Prop where
  t : TabAt H C a ns tbl
  k : SqA K H b (known.map V.str)
  nd : known.Nodup
  sub : ∀ x ∈ known, x ∈ ns
  s1 : ns.length < 1000
  s2 : tbl.length < 1000
  ndn : ns.Nodup
theorem Asked.short {K : PySem.W.Frag} {H : Hp} {C a b : Addr} {ns known : List Str} {tbl : List (List Int)} (h : Asked K H C a b ns known tbl) : known.length < 1000 := by
  have := List.Nodup.length_le_of_subset h.nd (fun x hx => h.sub x hx)
  have := h.s1
  omega
theorem Asked.same {K : PySem.W.Frag} {H H' : Hp} {C a b : Addr} {ns known : List Str} {tbl : List (List Int)} (h : Asked K H C a b ns known tbl) (s : Same H H') : Asked K H' C a b ns known tbl :=
  ⟨h.t.same s, h.k.same s, h.nd, h.sub, h.s1, h.s2, h.ndn⟩
def spIsTold (K : PySem.W.Frag) (C : Addr) : Sp := fun vs H Q _ => ∃ (a b : Addr) (ns known : List Str) (x : Str) (tbl : List (List Int)), vs = [.ref a, .ref b, .str x] ∧ Asked K H C a b ns known tbl ∧ x ∈ ns ∧ ∀ H', Same H H' → Q (.bl (decide (Tells ns tbl known x))) H'
def toldL (ns : List Str) (tbl : List (List Int)) (known : List Str) : List Str := ns.filter fun x => decide (Tells ns tbl known x)
def spToldBy (K : PySem.W.Frag) (C : Addr) : Sp := fun vs H Q _ => ∃ (a b : Addr) (ns known : List Str) (tbl : List (List Int)), vs = [.ref a, .ref b] ∧ Asked K H C a b ns known tbl ∧ ∀ H' q, H q = none → H' q = some (.lst ((toldL ns tbl known).map V.str)) → Same H H' → Q (.ref q) H'
def spClosed (K : PySem.W.Frag) (C : Addr) : Sp := fun vs H Q _ => ∃ (a b : Addr) (ns known : List Str) (tbl : List (List Int)), vs = [.ref a, .ref b] ∧ Asked K H C a b ns known tbl ∧ ∀ H', Same H H' → Q (.bl (decide ((toldL ns tbl known).length = known.length))) H'
theorem scIsTold : FnScope ["self", "known", "asked"] ["self", "known", "asked"] (defScope sIsTold) := ⟨rfl, rfl, rfl, by decide +kernel, rfl, by decide +kernel, by decide +kernel⟩
abbrev NT : List Str := ["field", "known", "questions", "name"]
theorem scTold : FnScope NT ["field", "known"] (defScope sTold) := ⟨rfl, rfl, rfl, by decide +kernel, rfl, by decide +kernel, by decide +kernel⟩
def isStr (f : Str → Bool) : V → Bool
  | .str x => f x
  | _ => false
theorem filter_strs (f : Str → Bool) (xs : List Str) : ((xs.map V.str).filter (isStr f)).map id = (xs.filter f).map V.str := by
  rw [List.map_id, List.filter_map]; rfl
section
variable {P : Program} {w : World} {K : PySem.W.Frag} {mg : Str → Option Value} {base : Heap} {f C fQ fI fPl fPr aF aL aO aK aA aB fT : Addr} {fd fdT : FuncData}
theorem ok_isTold (F : Fun K "is_told" "Table.is_told" sIsTold f fd) (T : TabM K C fQ fI fPl fPr) (Ck : Chk K mg aF aL aO aK aA aB) : FnOk P w K mg base CX0 5 f fd ["self", "known", "asked"] (spIsTold K C) := by
  obtain ⟨fdB, FB⟩ := Ck.CB
  have GB := ok_ckB (P := P) (w := w) (base := base) Ck FB
  have bB := FB.binds (ps := ["names", "known", "asked"]) fun _ _ _ _ _ _ us hl => match us, hl with | [_, _, _], _ => rfl
  obtain ⟨fdL, FL⟩ := T.L
  obtain ⟨fdR, FR⟩ := T.R
  have GR := ok_parting (P := P) (w := w) (mg := mg) (base := base) FR FL T.mL T.toTabC Ck.nT
  have bR := FR.binds (ps := ["self", "known", "asked"]) fun _ _ _ _ _ _ us hl => match us, hl with | [_, _, _], _ => rfl
  refine F.ok scIsTold (fun vs H Q E h => by obtain ⟨a, b, ns, known, x, tbl, e, _⟩ := h; rw [e]; rfl) fun cdv A outer s H vs Q E hr hsp => ?_
  obtain ⟨a, b, ns, known, x, tbl, rfl, ask, xin, hq⟩ := hsp
  refine ⟨_, pss_cons (ps_expr (pe_call GB hr rfl Ck.gCB FB.kp bB .nil pass0 (pa_cons (pe_fld (pv 0) rfl) (pa_cons (pv 1) (pa_cons (pv 2) pa_nil)))))
    (pss_one (ps_ret (pe_cmp (pc_isN (pe_meth (pv 0) T.cl T.mR GR (hr.mono (by decide)) bR .nil pass0 (pa_cons (pv 1) (pa_cons (pv 2) pa_nil))))))), ?_⟩
  obtain ⟨dx, qa, ra, ha, hqa, hra⟩ := ask.t.ex
  refine ⟨_, rfl, _, _, _, _, _, rfl, ha, T.cl, T.nQ, tabF_q _ _, _, rfl, _, rfl, qa, b, ns, known, x, rfl, hqa, ask.k, ask.nd, ask.sub, ask.short, xin, fun H1 s1 => ?_⟩
  refine ⟨_, rfl, a, dx, _, rfl, s1 _ _ ha, rfl, _, rfl, _, rfl, a, b, ns, known, x, tbl, rfl, ask.t.same s1, ask.k.same s1, ask.sub, ask.short, xin, ask.s2, fun yes H' s' => ?_, fun no H' t p q u v _ _ _ _ _ _ _ _ s' => ?_⟩
  · have z := hq H' (s1.trans s')
    rw [decide_eq_true yes] at z
    exact z
  · have z := hq H' (s1.trans s')
    rw [decide_eq_false no] at z
    exact z
theorem ok_told (F : Fun K "told_by" "told_by" sTold f fd) (T : TabM K C fQ fI fPl fPr) (Ck : Chk K mg aF aL aO aK aA aB) : FnOk P w K mg base CX0 6 f fd ["field", "known"] (spToldBy K C) := by
  obtain ⟨fdK, FK⟩ := Ck.CK
  have GK := ok_ckK (P := P) (w := w) (base := base) Ck FK
  have bK := FK.binds (ps := ["names", "known"]) fun _ _ _ _ _ _ us hl => match us, hl with | [_, _], _ => rfl
  obtain ⟨fdQ, FQ⟩ := T.Q
  have GQ := ok_qs (P := P) (w := w) (mg := mg) (base := base) FQ T.toTabC Ck.nL
  have bQ := FQ.binds (ps := ["self"]) fun _ _ _ _ _ _ us hl => match us, hl with | [_], _ => rfl
  obtain ⟨fdI, FI⟩ := T.I
  have GI := ok_isTold (P := P) (w := w) (base := base) FI T Ck
  have bI := FI.binds (ps := ["self", "known", "asked"]) fun _ _ _ _ _ _ us hl => match us, hl with | [_, _, _], _ => rfl
  refine F.ok scTold (fun vs H Q E h => by obtain ⟨a, b, ns, known, tbl, e, _⟩ := h; rw [e]; rfl) fun cdv A outer s H vs Q E hr hsp => ?_
  obtain ⟨a, b, ns, known, tbl, rfl, ask, hq⟩ := hsp
  have nd := scTold.nd
  refine ⟨_, pss_cons (ps_set (i := 2) nd rfl (Or.inl rfl) (pe_meth0 (pv 0) T.cl T.mQ GQ (hr.mono (by decide)) bQ .nil pass0))
    (pss_cons (ps_expr (pe_call GK (hr.mono (by decide)) rfl Ck.gCK FK.kp bK .nil pass0 (pa_cons (pv 2) (pa_cons (pv 1) pa_nil))))
    (pss_one (ps_ret (pe_lc (own := [("name", 3)]) (te := tVar 3) rfl nd (pi_seq (pv 2)) (blkOk_by (N := NT) (sc := defScope sTold) (by decide +kernel)) (fun _ _ _ _ _ => pg_name (i := 3) nd rfl (Or.inl rfl))
      (fun _ _ _ _ _ => pts_one (pt_val (pe_meth (pv 0) T.cl T.mI GI hr bI .nil pass0 (pa_cons (pv 1) (pa_cons (pv 3) pa_nil))))) (fun _ _ _ _ _ => pv 3))))), ?_⟩
  obtain ⟨dx, qa, ra, ha, hqa, hra⟩ := ask.t.ex
  refine ⟨_, rfl, a, dx, _, rfl, ha, rfl, a, ns, tbl, rfl, ask.t, fun H1 q nq oq s1 => ?_⟩
  refine ⟨_, rfl, _, rfl, q, b, ns, known, rfl, oq, ask.k.same s1, ask.nd, ask.sub, ask.short, fun H2 s2 => ?_⟩
  have s12 := s1.trans s2
  refine ⟨_, rfl, lc_seq (.inl rfl) (s2 _ _ oq) (by rw [List.length_map]; have := ask.s1; omega) (isStr fun x => decide (Tells ns tbl known x)) id ?_ ?_⟩
  · rintro i v H3 Cn Nn ev s3 yes no
    rw [List.getElem?_map] at ev
    obtain ⟨x, ex, rfl⟩ := Option.map_eq_some_iff.mp ev
    have xin : x ∈ ns := List.mem_of_getElem? ex
    refine ⟨rfl, ?_⟩
    refine ⟨_, rfl, a, dx, _, rfl, s3 _ _ (s12 _ _ ha), rfl, _, rfl, _, rfl, a, b, ns, known, x, tbl, rfl, ask.same (s12.trans s3), xin, fun H4 s4 => ⟨_, rfl, ?_⟩⟩
    cases k : decide (Tells ns tbl known x) with
    | true => exact ⟨_, rfl, yes k H4 s4⟩
    | false => exact no k H4 s4
  · intro H3 D nD oD s3
    rw [filter_strs] at oD
    refine hq H3 D ?_ oD (s12.trans s3)
    exact s12.free nD
end
end L2.TB
namespace L2.TB
open PySem PySem.Spec PyProof.Rows
theorem boot_all' : bootBuiltins "all" = some (.builtin "all") := by decide +kernel
/-- a comprehension without a test over anything: ys is what it makes -/
theorem lc_gen {J : It} {g : TG} {tt : TT} {te : TE} {vs : List Nat} {σ : St} {H1 : Hp} {Q : Addr → Hp → Prop} (ys : List V) (short : ys.length < 1000000) (go : ∀ i H, Same H1 H → i < ys.length → J.go i H) (stop : ∀ H, Same H1 H → J.stop ys.length H)
    (turn : ∀ (i : Nat) (x y : V) (H H' : Hp) (C : V → Hp → Prop) (N : Hp → Prop), ys[i]? = some y → Same H1 H → J.yld i H x H' → (∀ H4, Same H H4 → C y H4) → g x (wipe σ vs) H' fun σ2 H2 => wipe σ2 vs = wipe σ vs ∧ tt σ2 H2 fun b H3 => if b = true then te σ2 H3 C else N H3)
    (fin : ∀ H D, H1 D = none → H D = some (.lst ys) → Same H1 H → Q D H) : LcW J g tt te vs σ H1 Q := by
  intro D nD
  refine ⟨fun i m H => m = ys.length - i ∧ i ≤ ys.length ∧ H D = some (.lst (ys.take i)) ∧ Same H1 H, ⟨_, rfl, Nat.zero_le _, upd_same, same_new nD⟩, ?_⟩
  rintro i m H ⟨rfl, le, oD, s1⟩
  by_cases lt : i < ys.length
  · refine .inr ⟨go i H s1 lt, fun H' => H' D = some (.lst (ys.take (i + 1))) ∧ Same H1 H', fun H' h => ⟨ys.length - (i + 1), by omega, rfl, lt, h⟩, fun x H' yl => ?_⟩
    have ey : ys[i]? = some ys[i] := List.getElem?_eq_getElem lt
    refine turn i x ys[i] H H' _ _ ey s1 yl fun H4 s4 => ⟨_, s4 _ _ oD, ?_, ?_, ?_⟩
    · rw [sizeLine_eq, List.length_take]; omega
    · rw [upd_same, List.take_succ, ey]; rfl
    · intro b u e
      rw [upd_ne (ne_of_none e nD)]
      exact s4 _ _ (s1 _ _ e)
  · obtain rfl : i = ys.length := by omega
    rw [List.take_length] at oD
    exact .inl ⟨stop H s1, fin H D nD oD s1⟩
def bools (n : Nat) : List V := List.replicate n (V.bl true)
theorem bools_map (n : Nat) : bools n = (List.replicate n true).map V.bl := by unfold bools; rw [List.map_replicate]
theorem bools_at {n i : Nat} {y : V} (h : (bools n)[i]? = some y) : y = .bl true ∧ i < n := by
  unfold bools at h
  rw [List.getElem?_replicate] at h
  split at h
  · exact ⟨(Option.some.inj h).symm, by assumption⟩
  · cases h
theorem bools_len (n : Nat) : (bools n).length = n := List.length_replicate
theorem all_true (n : Nat) : (List.replicate n true).all id = true := by simp
def spIsName : Sp := fun vs H Q _ => ∃ x : Str, vs = [.str x] ∧ NmOk x ∧ ∀ H', Same H H' → Q (.bl true) H'
abbrev NIn : List Str := ["thing", "sign"]
theorem scIsName : FnScope NIn ["thing"] (defScope sIsName) := ⟨rfl, rfl, rfl, by decide +kernel, rfl, by decide +kernel, by decide +kernel⟩
/-- a dict has just these names, all true -/
def spHasJust : Sp := fun vs H Q _ => ∃ (d c : Addr) (kvs : List (Key × V)) (ns : List Str), vs = [.ref d, .ref c] ∧ H d = some (.dK kvs) ∧ H c = some (.lst (ns.map V.str)) ∧ kvs.map (·.1) = ns.map Sum.inr ∧ ns.length < 1000 ∧ ∀ H', Same H H' → Q (.bl true) H'
abbrev NHj : List Str := ["thing", "names", "name"]
theorem scHasJust : FnScope NHj ["thing", "names"] (defScope sHasJust) := ⟨rfl, rfl, rfl, by decide +kernel, rfl, by decide +kernel, by decide +kernel⟩
section
variable {P : Program} {w : World} {K : PySem.W.Frag} {mg : Str → Option Value} {base : Heap} {f : Addr} {fd : FuncData}
theorem ok_isName (F : Fun K "is_name" "is_name" sIsName f fd) (gI : mg "isinstance" = none) (gS : mg "str" = none) (gN : mg "len" = none) (gA : mg "all" = none) (gL : ∃ t, mg "LONGEST" = some (.int 40 t)) (gSg : ∃ t, mg "SIGNS" = some (.str (Str.ofString "abcdefghijklmnopqrstuvwxyz0123456789.") t)) :
    FnOk P w K mg base CX0 1 f fd ["thing"] spIsName := by
  obtain ⟨tL, gL⟩ := gL
  obtain ⟨tS, gSg⟩ := gSg
  refine F.ok scIsName (fun vs H Q E h => by obtain ⟨x, e, _⟩ := h; rw [e]; rfl) fun cdv A outer s H vs Q E hr hsp => ?_
  obtain ⟨x, rfl, ok, hq⟩ := hsp
  obtain ⟨l1, l2, chars⟩ := ok
  have nd := scIsName.nd
  refine ⟨_, pss_cons (ps_if (PW.pt (pw_or (pt_not (pt_val (pe_callB (r := rIsi K) call_isi rfl gI boot_isi (pa_cons (pv 0) (pa_cons (pe_bltn (v := .ty "str") rfl gS boot_str' rfl) pa_nil)))))
      (pw_or1 (pt_not (pt_chain op_le op_le pe_int (pe_callB call_len_str rfl gN boot_len (pa_cons (pv 0) pa_nil)) (pe_glob (v := .int 40) rfl gL ⟨_, rfl⟩)))))) (pss_one ps_never) pss_nil)
    (pss_one (ps_ret (pe_callB (cr_all rfl) rfl gA boot_all' (pa_cons (pe_lc (own := [("sign", 1)]) (tt := tYes) rfl nd (pi_str (pv 0)) (blkOk_by (N := NIn) (sc := defScope sIsName) (by decide +kernel)) (fun _ _ _ _ _ => pg_name (i := 1) nd rfl (Or.inl rfl)) (fun _ _ _ _ _ => pts_nil)
      (fun _ _ _ _ _ => pe_cmpR op_in_sign (pv 1) (pe_glob (v := .str (Str.ofString "abcdefghijklmnopqrstuvwxyz0123456789.")) rfl gSg ⟨_, rfl⟩) rfl)) pa_nil)))), ?_⟩
  have lz : x.length = x.cps.toList.length := (Array.length_toList (xs := x.cps)).symm
  refine ⟨_, rfl, _, _, _, _, true, rfl, .ty _, .base (.str x), kit_ty (by decide +kernel), _, rfl, iteF ?_⟩
  refine ⟨_, rfl, x, rfl, (by rw [sizeLine_eq]; omega), _, _, rfl, rfl, _, rfl, ?_⟩
  rw [decide_eq_true (by omega : (1 : Int) ≤ (x.length : Nat))]
  refine iteT ⟨_, _, rfl, rfl, _, rfl, ?_⟩
  rw [decide_eq_true (by omega : ((x.length : Nat) : Int) ≤ 40)]
  refine iteF ?_
  refine ⟨_, rfl, x, rfl, lc_gen (bools x.cps.toList.length) (by rw [bools_len]; omega) (fun i H' _ lt => ?_) (fun H' _ => ?_) ?_ ?_⟩
  · rw [bools_len, Array.length_toList] at lt; exact lt
  · rw [bools_len, Array.length_toList]; exact Nat.le_refl _
  · rintro i v y H2 H3 Cn Nn ey s2 ⟨rfl, c, ec, rfl⟩ yes
    obtain ⟨rfl, lt⟩ := bools_at ey
    have cin : c ∈ signsL := chars c (List.mem_of_getElem? (by rw [Array.getElem?_toList]; exact ec))
    refine ⟨rfl, ?_⟩
    refine ⟨_, rfl, c, _, rfl, rfl, ?_⟩
    have z := yes H3 (Same.refl _)
    have e : decide (c ∈ (Str.ofString "abcdefghijklmnopqrstuvwxyz0123456789.").cps.toList) = true := decide_eq_true cin
    rw [e]
    exact z
  · intro H2 D nD oD s2
    rw [bools_map] at oD
    refine ⟨D, _, rfl, SqL.of oD, ?_⟩
    rw [all_true]
    exact hq H2 s2
end
end L2.TB
namespace L2.TB
open PySem PySem.Spec PyProof.Rows
theorem has_key {kvs : List (Key × V)} {ns : List Str} {x : Str} (h : kvs.map (·.1) = ns.map Sum.inr) (xin : x ∈ ns) : ∃ v, valV kvs (Sum.inr x) = some v := by
  have z : (Sum.inr x : Key) ∈ kvs.map (·.1) := by rw [h]; exact List.mem_map_of_mem xin
  obtain ⟨e, he, ee⟩ := List.mem_map.mp z
  have a : (kvs.any fun kv => decide (kv.1 = Sum.inr x)) = true := List.any_eq_true.mpr ⟨e, he, decide_eq_true ee⟩
  rw [valV_any] at a
  exact Option.isSome_iff_exists.mp a
theorem const_map (xs : List Str) : ((xs.map V.str).filter fun _ => true).map (fun _ => V.bl true) = bools xs.length := by
  rw [List.filter_eq_self.mpr (fun _ _ => rfl), List.map_map]
  unfold bools
  induction xs with
  | nil => rfl
  | cons a l ih => rw [List.map_cons, ih, List.length_cons, List.replicate_succ]; rfl
theorem dec_int2 (a b : Int) : decide (V.int a = V.int b) = decide (a = b) := by
  by_cases h : a = b
  · rw [h]; simp
  · rw [decide_eq_false h, decide_eq_false]
    exact fun z => h (V.int.inj z)
/-- dict rows of ints at as -/
def DRows (H : Hp) (ns : List Str) : List Addr → List (List Int) → Prop := Paired fun a vs => H a = some (.dK (dk ns vs)) ∧ vs.length = ns.length
theorem DRows.same {H H' : Hp} {ns : List Str} {as : List Addr} {tbl : List (List Int)} (r : DRows H ns as tbl) (s : Same H H') : DRows H' ns as tbl := Paired.mapP r fun a vs h => ⟨s _ _ h.1, h.2⟩
def spBadRow : Sp := fun vs H Q _ => ∃ (r : Addr) (as : List Addr) (ns : List Str) (tbl : List (List Int)), vs = [.ref r] ∧ H r = some (.lst (as.map V.ref)) ∧ DRows H ns as tbl ∧ tbl ≠ [] ∧ tbl.length < 1000 ∧ ns ≠ [] ∧ ns.Nodup ∧ (∀ x ∈ ns, NmOk x) ∧ ns.length < 1000 ∧ ∀ H', Same H H' → Q .non H'
abbrev NB : List Str := ["rows", "index", "row", "name"]
theorem scBadRow : FnScope NB ["rows"] (defScope sBadRow) := ⟨rfl, rfl, rfl, by decide +kernel, rfl, by decide +kernel, by decide +kernel⟩
theorem lock_off {H H' : Hp} {d : Addr} {u : HO} {od : Obj} (hd : H d = some u) (s : Same (upd H d (.frz od u)) H') : H' d = some (.frz od u) ∧ Same H (upd H' d u) := by
  refine ⟨s _ _ upd_same, fun b o e => ?_⟩
  by_cases hb : b = d
  · rw [hb, upd_same, ← hd, ← hb]; exact e
  · rw [upd_ne hb]
    exact s _ _ (by rw [upd_ne hb]; exact e)
theorem dk_at {ns : List Str} {vs : List Int} {i : Nat} {k : Key} {v : V} (h : (dk ns vs)[i]? = some (k, v)) (nd : ns.Nodup) (hl : ns.length = vs.length) : ∃ x n, k = Sum.inr x ∧ v = .int n ∧ ns[i]? = some x ∧ valV (dk ns vs) (Sum.inr x) = some (.int n) := by
  unfold dk at h ⊢
  rw [List.getElem?_map] at h
  obtain ⟨p, ep, e⟩ := Option.map_eq_some_iff.mp h
  cases e
  have ez : (ns.zip vs)[i]? = some p := ep
  rw [List.getElem?_zip_eq_some] at ez
  refine ⟨p.1, p.2, rfl, rfl, ez.1, ?_⟩
  have nk : (((ns.zip vs).map fun p : Str × Int => ((Sum.inr p.1 : Key), V.int p.2)).map (·.1)).Nodup := dk_nd hl nd
  have mem : ((Sum.inr p.1 : Key), V.int p.2) ∈ (ns.zip vs).map fun p : Str × Int => ((Sum.inr p.1 : Key), V.int p.2) := List.mem_map_of_mem (List.mem_of_getElem? ep)
  generalize (ns.zip vs).map (fun p : Str × Int => ((Sum.inr p.1 : Key), V.int p.2)) = kvs at nk mem
  clear h ez ep
  induction kvs with
  | nil => cases mem
  | cons q kvs ih =>
    unfold valV
    rw [List.find?_cons]
    by_cases hq : q.1 = Sum.inr p.1
    · rw [decide_eq_true hq]
      rcases List.mem_cons.mp mem with z | z
      · rw [← z]; rfl
      · exfalso
        rw [List.map_cons, List.nodup_cons] at nk
        exact nk.1 (hq ▸ List.mem_map_of_mem (f := (·.1)) z)
    · rw [decide_eq_false hq]
      rcases List.mem_cons.mp mem with z | z
      · exact absurd (by rw [← z]) hq
      · rw [List.map_cons, List.nodup_cons] at nk
        exact ih nk.2 z
section
variable {P : Program} {w : World} {K : PySem.W.Frag} {mg : Str → Option Value} {base : Heap} {f fL fI fN fH : Addr} {fd fdL fdI fdN fdH : FuncData}
theorem ok_hasJust (F : Fun K "has_just" "has_just" sHasJust f fd) (gI : mg "isinstance" = none) (gD : mg "dict" = none) (gN : mg "len" = none) (gA : mg "all" = none) : FnOk P w K mg base CX0 1 f fd ["thing", "names"] spHasJust := by
  refine F.ok scHasJust (fun vs H Q E h => by obtain ⟨d, c, kvs, ns, e, _⟩ := h; rw [e]; rfl) fun cdv A outer s H vs Q E hr hsp => ?_
  obtain ⟨d, c, kvs, ns, rfl, hd, hc, hk, short, hq⟩ := hsp
  have nd := scHasJust.nd
  have hu := hu_of hr
  refine ⟨_, pss_one (ps_ret (pe_and (pe_callB (r := rIsi K) call_isi rfl gI boot_isi (pa_cons (pv 0) (pa_cons (pe_bltn (v := .ty "dict") rfl gD boot_dict' rfl) pa_nil))) (pe_and (pe_cmpR op_eq (pe_callB call_lenD rfl gN boot_len (pa_cons (pv 0) pa_nil)) (pe_callB call_len_seq rfl gN boot_len (pa_cons (pv 1) pa_nil)) (nomark _))
    (pe_one (pe_callB (cr_all rfl) rfl gA boot_all' (pa_cons (pe_lc (own := [("name", 2)]) (tt := tYes) rfl nd (pi_seq (pv 1)) (blkOk_by (N := NHj) (sc := defScope sHasJust) (by decide +kernel)) (fun _ _ _ _ _ => pg_name (i := 2) nd rfl (Or.inl rfl)) (fun _ _ _ _ _ => pts_nil)
      (fun _ _ _ _ _ => pe_cmp (pc_din hu (pv 2) (pv 0)))) pa_nil)))))), ?_⟩
  have lk : kvs.length = ns.length := by
    have z := congrArg List.length hk
    rw [List.length_map, List.length_map] at z
    exact z
  refine ⟨_, rfl, _, _, _, _, true, rfl, .ty _, .base (.dK hd), kit_ty (by decide +kernel), _, rfl, iteT ?_⟩
  refine ⟨_, rfl, d, kvs, rfl, hd, _, rfl, c, _, rfl, .inl (SqL.of hc), rfl, _, rfl, ?_⟩
  rw [dec_int2, List.length_map, lk, decide_eq_true rfl]
  refine iteT ⟨_, rfl, lc_seq (.inl rfl) hc (by rw [List.length_map]; omega) (fun _ => true) (fun _ => .bl true) ?_ ?_⟩
  · rintro i v H2 Cn Nn ev s2 yes no
    rw [List.getElem?_map] at ev
    obtain ⟨x, ex, rfl⟩ := Option.map_eq_some_iff.mp ev
    obtain ⟨y, ey⟩ := has_key hk (List.mem_of_getElem? ex)
    refine ⟨rfl, ?_⟩
    refine ⟨_, rfl, _, rfl, d, _, rfl, DGet.k (k := Sum.inr x) (s2 _ _ hd), ?_⟩
    rw [ey]
    exact yes rfl H2 (Same.refl _)
  · intro H2 D nD oD s2
    rw [const_map, bools_map] at oD
    refine ⟨D, _, rfl, SqL.of oD, ?_⟩
    rw [all_true]
    exact hq H2 s2
theorem ok_badRow (F : Fun K "_first_bad_row" "_first_bad_row" sBadRow f fd) (FL : Fun K "is_list" "is_list" sIsList fL fdL) (gIL : mg "is_list" = some (.ref fL)) (FI : Fun K "is_integer" "is_integer" sIsInt fI fdI) (gII : mg "is_integer" = some (.ref fI))
    (FN : Fun K "is_name" "is_name" sIsName fN fdN) (gIN : mg "is_name" = some (.ref fN)) (FH : Fun K "has_just" "has_just" sHasJust fH fdH) (gHJ : mg "has_just" = some (.ref fH))
    (gI : mg "isinstance" = none) (gL : mg "list" = none) (gT : mg "tuple" = none) (gS : mg "str" = none) (gE : mg "enumerate" = none) (gN : mg "len" = none) (gA : mg "all" = none) (gD : mg "dict" = none) (gInt : mg "int" = none) (gB : mg "bool" = none)
    (gLo : ∃ t, mg "LONGEST" = some (.int 40 t)) (gSg : ∃ t, mg "SIGNS" = some (.str (Str.ofString "abcdefghijklmnopqrstuvwxyz0123456789.") t)) : FnOk P w K mg base CX0 2 f fd ["rows"] spBadRow := by
  have GL : FnOk P w K mg base CX0 1 fL fdL ["thing"] (spIsList K) := ok_isList FL gI gL gT
  have bL := FL.binds (ps := ["thing"]) fun _ _ _ _ _ _ us hl => match us, hl with | [_], _ => rfl
  have GI : FnOk P w K mg base CX0 1 fI fdI ["thing"] spIsInt := ok_isInt FI gI gInt gB
  have bI := FI.binds (ps := ["thing"]) fun _ _ _ _ _ _ us hl => match us, hl with | [_], _ => rfl
  have GN : FnOk P w K mg base CX0 1 fN fdN ["thing"] spIsName := ok_isName FN gI gS gN gA gLo gSg
  have bN := FN.binds (ps := ["thing"]) fun _ _ _ _ _ _ us hl => match us, hl with | [_], _ => rfl
  have GH : FnOk P w K mg base CX0 1 fH fdH ["thing", "names"] spHasJust := ok_hasJust FH gI gD gN gA
  have bH := FH.binds (ps := ["thing", "names"]) fun _ _ _ _ _ _ us hl => match us, hl with | [_, _], _ => rfl
  refine F.ok scBadRow (fun vs H Q E h => by obtain ⟨r, as, ns, tbl, e, _⟩ := h; rw [e]; rfl) fun cdv A outer s H vs Q E hr hsp => ?_
  obtain ⟨r, as, ns, tbl, rfl, hrr, rows, tne, tsh, nne, nnd, nok, nsh, hq⟩ := hsp
  have nd := scBadRow.nd
  have hu := hu_of hr
  refine ⟨_, pss_cons (ps_if (PW.pt (pw_or (pt_not (pt_val (pe_call GL hr rfl gIL FL.kp bL .nil pass0 (pa_cons (pv 0) pa_nil)))) (pw_or1 (pt_cmpR op_eq (pe_callB call_len_seq rfl gN boot_len (pa_cons (pv 0) pa_nil)) pe_int (nomark _))))) (pss_one ps_never) pss_nil)
    (pss_cons (ps_for PassesOwn.never rfl (pi_enumS rfl gE (pa_cons (pv 0) pa_nil)) (pg_tup rfl (pgs_cons (pg_name (i := 1) nd rfl (Or.inl rfl)) (pgs_cons (pg_name (i := 2) nd rfl (Or.inr rfl)) pgs_nil)))
      (pss_cons (ps_if (PW.pt (pw_or (pt_not (pt_val (pe_callB (r := rIsi K) call_isi rfl gI boot_isi (pa_cons (pv 2) (pa_cons (pe_bltn (v := .ty "dict") rfl gD boot_dict' rfl) pa_nil)))))
          (pw_or (pt_cmpR op_eq (pe_callB call_lenD rfl gN boot_len (pa_cons (pv 2) pa_nil)) pe_int (nomark _))
          (pw_or1 (pt_not (pt_val (pe_callB (cr_all rfl) rfl gA boot_all' (pa_cons (pe_lock (pe_lc (own := [("name", 3)]) (tt := tYes) rfl nd (pi_keys (pv 2)) (blkOk_by (N := NB) (sc := defScope sBadRow) (by decide +kernel)) (fun _ _ _ _ _ => pg_name (i := 3) nd rfl (Or.inl rfl)) (fun _ _ _ _ _ => pts_nil)
            (fun _ _ _ _ _ => pe_call GI hr rfl gII FI.kp bI .nil pass0 (pa_cons (pe_dget hu (pv 2) (pv 3) (fun _ _ => rfl)) pa_nil)))) pa_nil)))))))) (pss_one ps_never) pss_nil)
      (pss_one (ps_if (PW.pt (pw_or (pt_not (pt_val (pe_callB (cr_all rfl) rfl gA boot_all' (pa_cons (pe_lock (pe_lc (own := [("name", 3)]) (tt := tYes) rfl nd (pi_keys (pv 2)) (blkOk_by (N := NB) (sc := defScope sBadRow) (by decide +kernel)) (fun _ _ _ _ _ => pg_name (i := 3) nd rfl (Or.inl rfl)) (fun _ _ _ _ _ => pts_nil)
            (fun _ _ _ _ _ => pe_call GN hr rfl gIN FN.kp bN .nil pass0 (pa_cons (pv 3) pa_nil)))) pa_nil))))
          (pw_or1 (pt_not (pt_val (pe_call GH hr rfl gHJ FH.kp bH .nil pass0 (pa_cons (pv 2) (pa_cons (pe_callTy (call_listD rfl) rfl gL boot_list' (pa_cons (pe_ix ix_list (pv 0) pe_int (fun _ _ => rfl)) pa_nil)) pa_nil)))))))) (pss_one ps_never) pss_nil))))
    (pss_one (ps_ret pe_non))), ?_⟩
  have las : as.length = tbl.length := Paired.length rows
  have pos : 0 < tbl.length := List.length_pos_iff.mpr tne
  have npos : 0 < ns.length := List.length_pos_iff.mpr nne
  refine ⟨_, rfl, r, _, rfl, .inl hrr, fun H1 k1 => ⟨_, rfl, iteF ?_⟩⟩
  refine ⟨_, rfl, r, _, rfl, .inl (SqL.of (k1 _ _ hrr)), rfl, _, rfl, ?_⟩
  rw [dec_int2, List.length_map, decide_eq_false (by omega : ¬ ((as.length : Nat) : Int) = 0)]
  refine iteF ?_
  refine ⟨_, rfl, enum_seq (.inl rfl) (fun i σ H' => Same H1 H' ∧ ∃ s1 s2 s3, σ = [some (.ref r), s1, s2, s3]) ⟨Same.refl _, _, _, _, rfl⟩ (fun i σ H' _ h => h.1 _ _ (k1 _ _ hrr)) ?_ ?_⟩
  · rintro i v σ H2 T ev ⟨s2, s1', s2', s3', rfl⟩ nT
    rw [List.getElem?_map] at ev
    obtain ⟨a, ea, rfl⟩ := Option.map_eq_some_iff.mp ev
    have sT := (k1.trans s2).trans (same_new (o := .tup [.int (i : Nat), .ref a]) nT)
    refine ⟨T, _, rfl, SqT.of upd_same, rfl, _, _, rfl, _, _, rfl, rfl, ?_⟩
    have s2T := s2.trans (same_new (o := .tup [.int (i : Nat), .ref a]) nT)
    generalize upd H2 T (.tup [.int (i : Nat), .ref a]) = H3 at sT s2T
    obtain ⟨vs, ev2, oa, lv⟩ := paired_get (rows.same sT) ea
    have ldk : (dk ns vs).length = ns.length := by
      unfold dk
      rw [List.length_map, List.length_zip]; omega
    refine ⟨_, rfl, _, _, _, _, true, rfl, .ty _, .base (.dK oa), kit_ty (by decide +kernel), _, rfl, iteF ?_⟩
    refine ⟨_, rfl, a, _, rfl, oa, rfl, _, rfl, ?_⟩
    rw [dec_int2, ldk, decide_eq_false (by omega : ¬ ((ns.length : Nat) : Int) = 0)]
    refine iteF ?_
    refine ⟨a, _, oa, trivial, fun od => ⟨_, rfl, a, od, rfl, .inl ⟨_, upd_same, lc_gen (bools ns.length) (by rw [bools_len]; omega) (fun j H' s lt => ⟨s _ _ upd_same, by rw [ldk]; rw [bools_len] at lt; exact lt⟩) (fun H' s => ⟨s _ _ upd_same, by rw [ldk, bools_len]; exact Nat.le_refl _⟩) ?_ ?_⟩⟩⟩
    · rintro j v y H4 H5 Cn Nn ey s4 ⟨rfl, k, w', ek, rfl⟩ yes
      obtain ⟨rfl, lt⟩ := bools_at ey
      obtain ⟨x, n, rfl, rfl, _, hv⟩ := dk_at ek nnd lv.symm
      refine ⟨rfl, ?_⟩
      exact ⟨_, rfl, _, rfl, a, _, rfl, .inl ⟨_, Sum.inr x, .inr ⟨_, s4 _ _ upd_same⟩, rfl, hv.symm⟩, n, rfl, yes H5 (Same.refl _)⟩
    · intro H4 D nD oD s4
      obtain ⟨b1, s34⟩ := lock_off oa s4
      have Da : D ≠ a := fun z => by rw [z, upd_same] at nD; cases nD
      rw [bools_map] at oD
      refine ⟨b1, D, _, rfl, SqL.of (by rw [upd_ne Da]; exact oD), _, rfl, ?_⟩
      rw [all_true]
      refine iteF ?_
      have oa4 := s34 _ _ oa
      have sH4 := sT.trans s34
      have s14 := s2T.trans s34
      generalize upd H4 a (.dK (dk ns vs)) = H5 at s34 oa4 sH4 s14
      refine ⟨a, _, oa4, trivial, fun od2 => ⟨_, rfl, a, od2, rfl, .inl ⟨_, upd_same, lc_gen (bools ns.length) (by rw [bools_len]; omega) (fun j H' s lt => ⟨s _ _ upd_same, by rw [ldk]; rw [bools_len] at lt; exact lt⟩) (fun H' s => ⟨s _ _ upd_same, by rw [ldk, bools_len]; exact Nat.le_refl _⟩) ?_ ?_⟩⟩⟩
      · rintro j v y H6 H7 Cn Nn ey s6 ⟨rfl, k, w', ek, rfl⟩ yes
        obtain ⟨rfl, lt⟩ := bools_at ey
        obtain ⟨x, n, rfl, rfl, ex, hv⟩ := dk_at ek nnd lv.symm
        refine ⟨rfl, ?_⟩
        exact ⟨_, rfl, x, rfl, nok x (List.mem_of_getElem? ex), fun H' s' => yes H' s'⟩
      · intro H6 D2 nD2 oD2 s6
        obtain ⟨b2, s56⟩ := lock_off oa4 s6
        have Da2 : D2 ≠ a := fun z => by rw [z, upd_same] at nD2; cases nD2
        rw [bools_map] at oD2
        refine ⟨b2, D2, _, rfl, SqL.of (by rw [upd_ne Da2]; exact oD2), _, rfl, ?_⟩
        rw [all_true]
        refine iteF ?_
        have oa6 := s56 _ _ oa4
        have sH6 := sH4.trans s56
        have s16 := s14.trans s56
        generalize upd H6 a (.dK (dk ns vs)) = H7 at oa6 sH6 s16
        obtain ⟨a0, ea0⟩ : ∃ a0, as[0]? = some a0 := ⟨as[0]'(by omega), List.getElem?_eq_getElem _⟩
        obtain ⟨vs0, ev0, oa0, lv0⟩ := paired_get (rows.same sH6) ea0
        have at0' : atI (as.map V.ref) ((0 : Nat) : Int) = some (.ref a0) := atI_nat (by rw [List.getElem?_map, ea0]; rfl)
        refine ⟨_, rfl, _, rfl, _, _, _, _, rfl, rfl, SqL.of (sH6 _ _ hrr), at0', a0, _, rfl, .inl oa0, fun q nq => ?_⟩
        have ekeys : ((dk ns vs0).map fun kv => kV kv.1) = ns.map V.str := by
          have z := congrArg (List.map kV) (dk_keys lv0.symm)
          rw [List.map_map, List.map_map] at z
          exact z
        rw [ekeys]
        have sq := same_new (o := .lst (ns.map V.str)) nq
        exact ⟨a, q, dk ns vs, ns, rfl, sq _ _ oa6, upd_same, dk_keys lv.symm, nsh, fun H' s' => ⟨_, rfl, iteF ⟨(s16.trans sq).trans s', _, _, _, rfl⟩⟩⟩
  · rintro σ H2 ⟨s2, s1', s2', s3', rfl⟩
    exact hq _ (k1.trans s2)
end
end L2.TB
namespace L2.TB
open PySem PySem.Spec PyProof.Rows
abbrev NI : List Str := ["self", "rows", "index", "row", "name"]
theorem scInit : FnScope NI ["self", "rows"] (defScope sInit) := ⟨rfl, rfl, rfl, by decide +kernel, rfl, by decide +kernel, by decide +kernel⟩
def spInit (C : Addr) : Sp := fun vs H Q _ => ∃ (p dx r : Addr) (as : List Addr) (ns : List Str) (tbl : List (List Int)), vs = [.ref p, .ref r] ∧ H p = some (.ins C dx []) ∧ H r = some (.lst (as.map V.ref)) ∧ DRows H ns as tbl ∧ tbl ≠ [] ∧ tbl.length < 1000 ∧ ns ≠ [] ∧ ns.Nodup ∧ (∀ x ∈ ns, NmOk x) ∧ ns.length < 1000 ∧
  ∀ H', TabAt H' C p ns tbl → (∀ b o, b ≠ p → H b = some o → H' b = some o) → Q .non H'
theorem qr_ : ¬ (("_questions" : Str) = "_rows") := by decide +kernel
theorem put_two (qa ra : Addr) : putF "_rows" (.ref ra) (putF "_questions" (.ref qa) []) = tabF qa ra := by
  show (if ("_questions" : Str) = "_rows" then _ else (("_questions" : Str), V.ref qa) :: putF "_rows" (.ref ra) []) = tabF qa ra
  rw [if_neg qr_]
  rfl
abbrev scRow : Scope := { kind := ScopeKind.function, names := [(Str.ofString ".0", NameKind.local), (Str.ofString "row", NameKind.cell), (Str.ofString "tuple", NameKind.globalImplicit), (Str.ofString "self", NameKind.cell)], isGenerator := false, isCoroutine := false }
abbrev rTupOf (K : PySem.W.Frag) : List V → Hp → VK → Prop := fun xs H Q => ∃ p ys, xs = [V.ref p] ∧ ((SqL K H p ys ∧ ∀ l, H l = none → Q (.ref l) (upd H l (.tup ys))) ∨ (SqT K H p ys ∧ Q (.ref p) H))
section
variable {P : Program} {w : World} {K : PySem.W.Frag} {mg : Str → Option Value} {base : Heap} {f C fB : Addr} {fd fdB : FuncData}
theorem ok_init (F : Fun K "__init__" "Table.__init__" sInit f fd) (T : TabC K C) (GB : FnOk P w K mg base CX0 2 fB fdB ["rows"] spBadRow) (FB : Fun K "_first_bad_row" "_first_bad_row" sBadRow fB fdB) (gB : mg "_first_bad_row" = some (.ref fB)) (gL : mg "list" = none) (gT : mg "tuple" = none) : FnOk P w K mg base CX0 3 f fd ["self", "rows"] (spInit C) := by
  have bB := FB.binds (ps := ["rows"]) fun _ _ _ _ _ _ us hl => match us, hl with | [_], _ => rfl
  refine F.ok scInit (fun vs H Q E h => by obtain ⟨p, dx, r, as, ns, tbl, e, _⟩ := h; rw [e]; rfl) fun cdv A outer s H vs Q E hr hsp => ?_
  obtain ⟨p, dx, r, as, ns, tbl, rfl, hp, hrr, rows, tne, tsh, nne, nnd, nok, nsh, hq⟩ := hsp
  have nd := scInit.nd
  have hu := hu_of hr
  refine ⟨_, pss_cons (ps_set (i := 2) nd rfl (Or.inl rfl) (pe_call GB hr rfl gB FB.kp bB .nil pass0 (pa_cons (pv 1) pa_nil)))
    (pss_cons (ps_if (pt_cmp (pc_notN (pv 2))) (pss_one ps_never) pss_nil)
    (pss_cons (ps_fld (pv 0) (pe_callTy (call_listD rfl) rfl gL boot_list' (pa_cons (pe_ix ix_list (pv 1) pe_int (fun _ _ => rfl)) pa_nil)) rfl)
    (pss_one (ps_fld (pv 0) (pe_lc (own := [("row", 3)]) (tt := tYes) (te := tCB (rTupOf K) (tCons (tLc (iList K (tFld K (tVar 0) "_questions")) (gName 4) tYes (tDGet (tVar 3) (tVar 4)) [4]) tNil)) rfl nd (pi_list (pv 1)) (blkOk_by (N := NI) (sc := defScope sInit) (by decide +kernel)) (fun _ _ _ _ _ => pg_name (i := 3) nd rfl (Or.inr rfl)) (fun _ _ _ _ _ => pts_nil)
      (fun _ _ _ _ _ => pe_callTy (r := rTupOf K) call_tuple_of rfl gT boot_tuple' (pa_cons (pe_lc (own := [("name", 4)]) (tt := tYes) (g := gName 4) (wi := iList K (tFld K (tVar 0) "_questions")) (te := tDGet (tVar 3) (tVar 4)) rfl nd (pi_list (pe_fld (pv 0) rfl)) (blkOk_by (N := NI) (sc := scRow) (by decide +kernel)) (fun _ _ _ _ _ => pg_name (i := 4) nd rfl (Or.inl rfl)) (fun _ _ _ _ _ => pts_nil)
        (fun _ _ _ _ _ => pe_dget hu (pv 3) (pv 4) (fun _ _ => rfl))) pa_nil))) rfl)))), ?_⟩
  have las : as.length = tbl.length := Paired.length rows
  have pos : 0 < tbl.length := List.length_pos_iff.mpr tne
  have npos : 0 < ns.length := List.length_pos_iff.mpr nne
  refine ⟨_, rfl, r, as, ns, tbl, rfl, hrr, rows, tne, tsh, nne, nnd, nok, nsh, fun H1 s1 => ?_⟩
  refine ⟨_, rfl, _, rfl, iteF ?_⟩
  obtain ⟨a0, ea0⟩ : ∃ a0, as[0]? = some a0 := ⟨as[0]'(by omega), List.getElem?_eq_getElem _⟩
  obtain ⟨vs0, ev0, oa0, lv0⟩ := paired_get (rows.same s1) ea0
  have at0' : atI (as.map V.ref) ((0 : Nat) : Int) = some (.ref a0) := atI_nat (by rw [List.getElem?_map, ea0]; rfl)
  have ekeys : ((dk ns vs0).map fun kv => kV kv.1) = ns.map V.str := by
    have z := congrArg (List.map kV) (dk_keys lv0.symm)
    rw [List.map_map, List.map_map] at z
    exact z
  refine ⟨_, rfl, _, _, _, _, rfl, rfl, SqL.of (s1 _ _ hrr), at0', a0, _, rfl, .inl oa0, fun qa nqa => ?_⟩
  rw [ekeys]
  have sq := same_new (o := .lst (ns.map V.str)) nqa
  have hp2 := sq _ _ (s1 _ _ hp)
  have oq2 : upd H1 qa (.lst (ns.map V.str)) qa = some (.lst (ns.map V.str)) := upd_same
  have s12 := s1.trans sq
  generalize upd H1 qa (.lst (ns.map V.str)) = H2 at sq hp2 oq2 s12
  refine ⟨_, rfl, p, C, dx, _, rfl, hp2, T.cl, T.nQ, by decide, ?_⟩
  have hpu : upd H2 p (.ins C dx (putF "_questions" (.ref qa) [])) p = some (.ins C dx (putF "_questions" (.ref qa) [])) := upd_same
  have s2p : ∀ b o, b ≠ p → H2 b = some o → upd H2 p (.ins C dx (putF "_questions" (.ref qa) [])) b = some o := fun b o nb e => by rw [upd_ne nb]; exact e
  generalize upd H2 p (.ins C dx (putF "_questions" (.ref qa) [])) = H4 at hpu s2p
  have rp : r ≠ p := ne_of hrr hp (by intro z; cases z)
  have qp : qa ≠ p := ne_of oq2 hp2 (by intro z; cases z)
  have or4 := s2p _ _ rp (s12 _ _ hrr)
  have oq4 := s2p _ _ qp oq2
  have rows4 : DRows H4 ns as tbl := Paired.mapP rows fun a vs h => ⟨s2p _ _ (ne_of h.1 hp (by intro z; cases z)) (s12 _ _ h.1), h.2⟩
  refine ⟨_, rfl, r, rfl, ⟨_, SqL.of or4⟩, fun D nD => ?_⟩
  refine lc_list (xs := as.map V.ref) (fun i H' => ∃ ps, H' D = some (.lst ((ps : List Addr).map V.ref)) ∧ Paired (fun q vs => H' q = some (.tup (vs.map V.int)) ∧ vs.length = ns.length) ps (tbl.take i) ∧ Same H4 H')
    ⟨[], upd_same, .nil, same_new nD⟩ (fun i H' _ h => SqL.of (h.choose_spec.2.2 _ _ or4)) ?_ ?_
  · rintro i v H5 ev ⟨ps, oD, prs, s5⟩
    rw [List.getElem?_map] at ev
    obtain ⟨a, ea, rfl⟩ := Option.map_eq_some_iff.mp ev
    obtain ⟨vs, evs, oa, lv⟩ := paired_get (rows4.same s5) ea
    have hi : i < tbl.length := (List.getElem?_eq_some_iff.mp evs).1
    have lps : ps.length = i := by rw [Paired.length prs, List.length_take]; omega
    refine ⟨rfl, ?_⟩
    refine ⟨_, rfl, p, C, dx, _, _, rfl, s5 _ _ hpu, T.cl, T.nQ, rfl, qa, rfl, ⟨_, SqL.of (s5 _ _ oq4)⟩, lc_gen (vs.map V.int) (by rw [List.length_map]; omega) (fun j H' s lt => ⟨ns.map V.str, _, SqL.of (s _ _ (s5 _ _ oq4)), List.getElem?_eq_getElem (by rw [List.length_map] at lt ⊢; omega)⟩) (fun H' s => ⟨ns.map V.str, SqL.of (s _ _ (s5 _ _ oq4)), by rw [List.length_map, List.length_map]; omega⟩) ?_ ?_⟩
    · rintro j x y H6 H7 Cn Nn ey s6 ⟨rfl, ex⟩ yes
      have ex := ex _ (SqL.of (s6 _ _ (s5 _ _ oq4)))
      rw [List.getElem?_map] at ey ex
      obtain ⟨n, en, rfl⟩ := Option.map_eq_some_iff.mp ey
      obtain ⟨z, ez, rfl⟩ := Option.map_eq_some_iff.mp ex
      have edk : (dk ns vs)[j]? = some (Sum.inr z, V.int n) := by
        unfold dk
        rw [List.getElem?_map, List.getElem?_zip_eq_some.mpr (show ns[j]? = some (z, n).1 ∧ vs[j]? = some (z, n).2 from ⟨ez, en⟩)]
        rfl
      obtain ⟨z', n', e1, e2, _, hv⟩ := dk_at edk nnd lv.symm
      obtain rfl := Sum.inr.inj e1
      obtain rfl := V.int.inj e2
      refine ⟨rfl, ?_⟩
      exact ⟨_, rfl, _, rfl, a, _, rfl, hv ▸ DGet.k (k := Sum.inr z) (s6 _ _ oa), yes H7 (Same.refl _)⟩
    · intro H6 l nl ol s6
      refine ⟨l, _, rfl, .inl ⟨SqL.of ol, fun t nt => ?_⟩⟩
      have st := same_new (o := .tup (vs.map V.int)) nt
      have oD6 := st _ _ (s6 _ _ oD)
      have tD : t ≠ D := fun z => by rw [z, s6 _ _ oD] at nt; cases nt
      refine ⟨_, oD6, (by rw [sizeLine_eq, List.length_map]; omega), ps ++ [t], by rw [upd_same]; simp, ?_, ?_⟩
      · have e1 : tbl.take (i + 1) = tbl.take i ++ [vs] := by rw [List.take_succ, evs]; rfl
        rw [e1]
        refine paired_snoc ⟨by rw [upd_ne tD, upd_same], lv⟩ (Paired.mapP prs fun q vs' h => ⟨?_, h.2⟩)
        rw [upd_ne (ne_of h.1 oD (by intro z; cases z))]
        exact st _ _ (s6 _ _ h.1)
      · intro b u e
        rw [upd_ne (ne_of_none e nD)]
        exact st _ _ (s6 _ _ (s5 _ _ e))
  · rintro H5 ⟨ps, oD, prs, s5⟩
    have et : tbl.take (as.map V.ref).length = tbl := List.take_of_length_le (by rw [List.length_map]; omega)
    rw [et] at prs
    refine ⟨_, rfl, p, C, dx, _, rfl, s5 _ _ hpu, T.cl, T.nR, by show 1 < 1000; decide, ?_⟩
    rw [put_two]
    have Dp : D ≠ p := fun z => by rw [z, hpu] at nD; cases nD
    have frame : ∀ b o, b ≠ p → H b = some o → upd H5 p (.ins C dx (tabF qa D)) b = some o := fun b o nb e => by
      rw [upd_ne nb]
      exact s5 _ _ (s2p _ _ nb (s12 _ _ e))
    refine hq _ ⟨dx, qa, D, upd_same, ?_, ps, ?_, Paired.mapP prs fun q vs h => ⟨?_, h.2⟩⟩ frame
    · rw [upd_ne qp]; exact s5 _ _ oq4
    · rw [upd_ne Dp]; exact oD
    · rw [upd_ne (ne_of h.1 (s5 _ _ hpu) (by intro z; cases z))]; exact h.1
end
end L2.TB
namespace L2.TB
open PySem PySem.Spec PyProof.Rows
/-! own __add__ of two of one class, own __len__ -/
section
variable {X : Cx} {CX : CXT} {k : Nat} {f C : Addr} {fd : FuncData} {ps : List Str} {sp : Sp} {E : XK}
theorem rel_ref {v : V} {c : Addr} {u : Value} (e : v = .ref c) (r : RelV v u) : u = .ref c := by
  subst e
  exact r
/-- two objects of the class at C; the method tells an object -/
def rAddI (C : Addr) (sp : Sp) (E : XK) : R2 := fun x y H Q => ∃ a b dx dy fs gs, x = .ref a ∧ y = .ref b ∧ H a = some (.ins C dx fs) ∧ H b = some (.ins C dy gs) ∧ sp [.ref a, .ref b] H (fun v H' => ∃ c, v = .ref c ∧ Q (.ref c) H') E
theorem op_addI (F : FnOk X.prog X.w X.K X.mg X.base CX k f fd ps sp) (hr : Room k X.A) (hm : Meth X.K C "__add__" f) (sf : PySem.W.selfFirst X.K C = true) (hb : Binds X.K fd ps []) (hx : Passes CX X E) : OpR X (binaryOp .Add) (rAddI C sp E) := by
  intro pins s σ H x y v u Q I rx ry h
  obtain ⟨a, b, dx, dy, fs, gs, rfl, rfl, ha, hb', hsp⟩ := h
  have ev := rel_ref rfl rx
  have eu := rel_ref rfl ry
  subst ev eu
  obtain ⟨mA, JA, _⟩ := ins_get I.hok ha
  obtain ⟨mB, JB, _⟩ := ins_get I.hok hb'
  obtain ⟨od, LA, _⟩ := JA.look
  obtain ⟨od', LB, _⟩ := JB.look
  obtain ⟨m, hF⟩ := I.fr
  refine PySem.W.binop_K hF I.ok.mod.kin LA LB.type sf hm.at_ hm.fn ?_
  have z := run_fn (us := [Value.ref a, Value.ref b]) (vs := [V.ref a, V.ref b]) F hr hb .nil hx I (.cons rfl (.cons rfl .nil)) (by simpa using hsp)
  refine wpAny_mono z (fun r s' q => ?_) fun _ _ q => q
  obtain ⟨t, H', I', rt, c, et, qq⟩ := q
  have er := rel_ref et rt
  subst er
  exact ⟨.ref c, H', I', rfl, qq⟩
/-- the method tells a whole number that is small -/
def rLenI (C : Addr) (sp : Sp) (E : XK) : List V → Hp → VK → Prop := fun xs H Q => ∃ a dx fs, xs = [.ref a] ∧ H a = some (.ins C dx fs) ∧ sp [.ref a] H (fun v H' => ∃ n : Int, v = .int n ∧ (0 ≤ n ∧ n < 2 ^ 63) ∧ Q (.int n) H') E
theorem call_lenI (F : FnOk X.prog X.w X.K X.mg X.base CX k f fd ps sp) (hr : Room (k + 1) X.A) (hm : Meth X.K C "__len__" f) (hb : Binds X.K fd ps []) (hx : Passes CX X E) : CallR X (.builtin "len") (rLenI C sp E) := by
  intro pins s σ H xs us Q I r h
  obtain ⟨a, dx, fs, rfl, ha, hsp⟩ := h
  obtain ⟨u, rfl, rx⟩ := vals1 r
  have eu := rel_ref rfl rx
  subst eu
  obtain ⟨mA, JA, _⟩ := ins_get I.hok ha
  obtain ⟨od, LA, _⟩ := JA.look
  obtain ⟨m, hF⟩ := I.fr
  refine PySem.W.len_K hF I.ok.mod.kin LA hm.at_ hm.fn ?_
  have e0 : Env0 X.prog X.w X.K X.mg X.base X.A.in1 X.stack s H := by
    have z := I.env0
    exact ⟨z.frames, z.mod, z.bs, z.bsz, z.funs, z.frf, z.hok, z.bare⟩
  have many := F.len _ _ _ _ hsp
  have two : Vals [V.ref a] [Value.ref a] := .cons rfl .nil
  have ok := F.run X.A.in1 X.stack s H ⟨[.ref a], []⟩ [.ref a] [.ref a] _ E hr.in1 e0 (by simpa using hb s [.ref a] I.kIn (by simpa using many)) two hsp
  refine wpAny_call (codeAny_mono ok fun q s' got => ?_)
  cases q with
  | error e => exact hx pins σ H s e s' I got
  | ok fl =>
    cases fl with
    | next => exact got.elim
    | brk => exact got.elim
    | cont => exact got.elim
    | ret v =>
      obtain ⟨t, H', I', rt, n, et, lim, qq⟩ := I.after got
      subst et
      obtain ⟨tk, ev⟩ := rt
      subst ev
      exact ⟨lim, .int n, H', I'.tok _, ⟨_, rfl⟩, qq⟩
end
end L2.TB
namespace L2.TB
open PySem PySem.Spec PyProof.Rows
/-! for x, y in zip(xs, ys), xs a list, ys a tuple of as many -/
section
/-- what the maker leaves, one cell after the other -/
abbrev mk1 (h : Heap) (l : Addr) : Heap := h.push { cls := .type "list_iterator", data := .fields #[.ref l, .int 0 0] }
abbrev mk2 (h : Heap) (l t : Addr) : Heap := (mk1 h l).push { cls := .type "tuple_iterator", data := .fields #[.ref t, .int 0 0] }
abbrev mk3 (h : Heap) (l t : Addr) : Heap := (mk2 h l t).push { cls := .type "tuple", data := .seq #[.ref h.objs.size, .ref (mk1 h l).objs.size] }
abbrev mk4 (h : Heap) (l t : Addr) : Heap := (mk3 h l t).push { cls := .type "tuple", data := .seq #[.none, .none] }
abbrev mk5 (h : Heap) (l t : Addr) : Heap := (mk4 h l t).push { cls := .type "zip", data := .fields #[.none, .bool false, .bool false, .ref (mk2 h l t).objs.size, .ref (mk3 h l t).objs.size] }
theorem made_zip (l t : Addr) (as bs : Array Value) : Meets (Builtin.«zip.__new__» ⟨[.type "zip", .ref l, .ref t], []⟩) fun _ done z =>
    z.heap.IsList l as ∧ z.heap.IsTuple t bs ∧ done (.ok (.ret (.ref (mk4 z.heap l t).objs.size))) { z with heap := mk5 z.heap l t } :=
  .of_wp fun _ _ _ _ z hz => by
    obtain ⟨h0, gs, ds, tk, os⟩ := z
    obtain ⟨isL, isT, fin⟩ := hz
    have sub := sub_zip
    have isL0 : Heap.IsList (Shared.heap ⟨h0, gs, ds, tk, os⟩) l as := isL
    have isT1 : Heap.IsTuple (Shared.heap ⟨mk1 h0 l, gs, ds, tk, os⟩) t bs := Heap.IsTuple.push isT _
    wp_walk using wpAny_pyIter_list isL0, wpAny_pyIter_tuple isT1
    exact ⟨_, rfl, fin⟩
theorem zip_mixed {P : Program} {w : World} {A : Around} {z : Shared} {E Q : Value → Shared → Prop} {l t : Addr} {as bs : Array Value} (isL : z.heap.IsList l as) (isT : z.heap.IsTuple t bs)
    (more : ∀ h', IsZip h' (z.heap.objs.size + 4) (z.heap.objs.size + 2) (z.heap.objs.size + 3) .none → IsTupOf2 h' (z.heap.objs.size + 2) (.ref z.heap.objs.size) (.ref (z.heap.objs.size + 1)) →
      IsTupOf2 h' (z.heap.objs.size + 3) .none .none → h'.IsListIter z.heap.objs.size l 0 → h'.IsTupleIter (z.heap.objs.size + 1) t 0 → (∀ c o, z.heap.get? c = some o → h'.get? c = some o) → Q (.ref (z.heap.objs.size + 4)) { z with heap := h' }) :
    wpAny (model P w) A (call (.type "zip") [.ref l, .ref t]) Q E z := by
  refine callType_new F.called_zip (by decide) (F.typeCall_zip_2 _ _) (F.newCall_zip_2 _ _) (fun o => F.args_object_init_3 o _ _) F.entry_zip_new (made_zip l t as bs) ⟨isL, isT, ?_⟩
  have s1 : (mk1 z.heap l).objs.size = z.heap.objs.size + 1 := Heap.size_push ..
  have s2 : (mk2 z.heap l t).objs.size = z.heap.objs.size + 2 := by rw [Heap.size_push, s1]
  have s3 : (mk3 z.heap l t).objs.size = z.heap.objs.size + 3 := by rw [Heap.size_push, s2]
  have s4 : (mk4 z.heap l t).objs.size = z.heap.objs.size + 4 := by rw [Heap.size_push, s3]
  have e5 : (mk5 z.heap l t).get? (mk4 z.heap l t).objs.size = some { cls := .type "zip", data := .fields #[.none, .bool false, .bool false, .ref (mk2 z.heap l t).objs.size, .ref (mk3 z.heap l t).objs.size] } := Heap.get?_push_size _ rfl
  have up5 : ∀ {c : Addr} {o : Obj}, (mk4 z.heap l t).get? c = some o → (mk5 z.heap l t).get? c = some o := fun e => Heap.get?_push_of_some _ e
  have up4 : ∀ {c : Addr} {o : Obj}, (mk3 z.heap l t).get? c = some o → (mk5 z.heap l t).get? c = some o := fun e => up5 (Heap.get?_push_of_some _ e)
  have up3 : ∀ {c : Addr} {o : Obj}, (mk2 z.heap l t).get? c = some o → (mk5 z.heap l t).get? c = some o := fun e => up4 (Heap.get?_push_of_some _ e)
  have up2 : ∀ {c : Addr} {o : Obj}, (mk1 z.heap l).get? c = some o → (mk5 z.heap l t).get? c = some o := fun e => up3 (Heap.get?_push_of_some _ e)
  have e4 : (mk5 z.heap l t).get? (mk3 z.heap l t).objs.size = some { cls := .type "tuple", data := .seq #[.none, .none] } := up5 (Heap.get?_push_size _ rfl)
  have e3 : (mk5 z.heap l t).get? (mk2 z.heap l t).objs.size = some { cls := .type "tuple", data := .seq #[.ref z.heap.objs.size, .ref (mk1 z.heap l).objs.size] } := up4 (Heap.get?_push_size _ rfl)
  have e2 : (mk5 z.heap l t).get? (mk1 z.heap l).objs.size = some { cls := .type "tuple_iterator", data := .fields #[.ref t, .int 0 0] } := up3 (Heap.get?_push_size _ rfl)
  have e1 : (mk5 z.heap l t).get? z.heap.objs.size = some { cls := .type "list_iterator", data := .fields #[.ref l, .int 0 0] } := up2 (Heap.get?_push_size _ rfl)
  show _ ∧ _
  rw [s2, s3, s4] at e5
  rw [s3] at e4
  rw [s1, s2] at e3
  rw [s1] at e2
  rw [s4]
  exact ⟨⟨_, e5, rfl⟩, more _ e5 e3 e4 ⟨_, e1, rfl, rfl⟩ ⟨_, e2, rfl, rfl⟩ fun c o e => up2 (Heap.get?_push_of_some _ e)⟩
end
/-- the items of the list at a and of the tuple at b, in new pairs -/
def ItzM (K : PySem.W.Frag) (a b : Addr) : It where
  go i H := ∃ (xs ys : List V) (x y : V), SqL K H a xs ∧ SqT K H b ys ∧ xs[i]? = some x ∧ ys[i]? = some y
  yld i H v H' := ∃ T x y, v = .ref T ∧ H T = none ∧ H' = upd H T (.tup [x, y]) ∧ (∀ xs, SqL K H a xs → xs[i]? = some x) ∧ ∀ ys, SqT K H b ys → ys[i]? = some y
  stop i H := ∃ xs ys : List V, SqL K H a xs ∧ SqT K H b ys ∧ xs.length = i ∧ ys.length = i
theorem five {p : Addr → Prop} {z u v i j b : Addr} (h : b ∈ [z, u, v, i, j]) (h1 : p z) (h2 : p u) (h3 : p v) (h4 : p i) (h5 : p j) : p b := by
  simp only [List.mem_cons, List.not_mem_nil, or_false] at h
  rcases h with rfl | rfl | rfl | rfl | rfl <;> assumption
theorem turn_zipM {P : Program} {w : World} {K : PySem.W.Frag} {elts : List Expr} {kk : Nat} {tpos : Pos} {a b z u v i1 i2 : Addr} (S : ZipSep2 z u v i1 i2 [i1, a] [i2, b]) :
    Turn P w K (.Tuple elts kk tpos) (ItzM K a b) [z, u, v, i1, i2] z (fun i h => IsZip h z u v .none ∧ IsTupOf2 h u (.ref i1) (.ref i2) ∧ (∃ x y, IsTupOf2 h v x y) ∧ h.IsListIter i1 a i ∧ h.IsTupleIter i2 b i) := by
  have list_ne : ∀ {h : Heap} {i : Nat} {as : Array Value}, h.IsListIter i1 a i → h.IsList a as → a ≠ i1 := by
    rintro h i as ⟨o, eo, co, _⟩ isL rfl
    obtain ⟨o', eo', co', _⟩ := isL
    rw [eo] at eo'
    cases eo'
    rw [co] at co'
    exact absurd co' (by decide)
  have tup_ne : ∀ {h : Heap} {i : Nat} {bs : Array Value}, h.IsTupleIter i2 b i → h.IsTuple b bs → b ≠ i2 := by
    rintro h i bs ⟨o, eo, co, _⟩ isT rfl
    obtain ⟨o', eo', co', _⟩ := isT
    rw [eo] at eo'
    cases eo'
    have co' : o.cls = Value.type "tuple" := co'
    rw [co] at co'
    exact absurd co' (by decide)
  refine ⟨List.mem_cons_self, fun i h st c hc => ?_, fun i h h' st same => ?_, ?_, ?_, fun A i s Q E st more => wpAny_pyIter_zip st.1 more⟩
  · obtain ⟨gz, gu, ⟨x, y, gv⟩, ⟨o1, e1, _, d1⟩, ⟨o2, e2, _, d2⟩⟩ := st
    exact five (p := fun c => ∃ o, h.get? c = some o ∧ ∀ v, o.data ≠ .cell v) hc ⟨_, gz, fun _ e => nomatch e⟩ ⟨_, gu, fun _ e => nomatch e⟩ ⟨_, gv, fun _ e => nomatch e⟩ ⟨o1, e1, fun _ e => by rw [d1] at e; exact nomatch e⟩ ⟨o2, e2, fun _ e => by rw [d2] at e; exact nomatch e⟩
  · obtain ⟨gz, gu, ⟨x, y, gv⟩, h1, h2⟩ := st
    exact ⟨same z (by simp) _ gz, same u (by simp) _ gu, ⟨x, y, same v (by simp) _ gv⟩, h1.at fun o e => same i1 (by simp) o e, h2.at fun o e => same i2 (by simp) o e⟩
  · rintro X rfl rfl rfl calm i pins s σ H E I room ⟨gz, gu, ⟨x0, y0, gv⟩, g1, g2⟩ ⟨xs, ys, x, y, isX, isY, nx, ny⟩
    obtain ⟨us, rel1, p1, _⟩ := I.list isX
    obtain ⟨vs, rel2, p2, _⟩ := I.tuple isY
    obtain ⟨c, nc, rc⟩ := rel1.get nx
    obtain ⟨d, ny', rd⟩ := rel2.get ny
    have isL : s.heap.IsList a us.toArray := p1.isList
    have isT : s.heap.IsTuple b vs.toArray := p2
    have D1 := Draws.list (prog := X.prog) (w := X.w) (A := X.A.in1) (I.ok.hd calm) i1 a (list_ne g1 isL) us.toArray
    have D2 := Draws.tuple (prog := X.prog) (w := X.w) (A := X.A.in1) (I.ok.hd calm) i2 b (tup_ne g2 isT) vs.toArray
    have in1 : i < us.toArray.size := by
      have := (List.getElem?_eq_some_iff.mp nc).1
      simpa using this
    have in2 : i < vs.toArray.size := by
      have := (List.getElem?_eq_some_iff.mp ny').1
      simpa using this
    have lz : z < s.heap.objs.size := Heap.lt_size gz
    refine wpAny_pyNext_zipD2_item S D1 D2 gz gu gv ⟨g1, isL⟩ ⟨g2, isT⟩ in1 in2 fun c' d' h1 tk ec ed gz' gv' st1 st2 newT _ kept => ?_
    obtain rfl : c' = c := by
      have ec : us.toArray[i]? = some c' := ec
      rw [List.getElem?_toArray, nc] at ec
      exact (Option.some.inj ec).symm
    obtain rfl : d' = d := by
      have ed : vs.toArray[i]? = some d' := ed
      rw [List.getElem?_toArray, ny'] at ed
      exact (Option.some.inj ed).symm
    refine ⟨_, rfl, wpAny_letOwnedTupleGo_zip (s := { s with heap := h1, toks := tk }) gz' fun h2 back same2 => ?_⟩
    have far : ∀ q o, q ∉ [z, u, v, i1, i2] → s.heap.get? q = some o → h2.get? q = some o := fun q o away e =>
      (same2.2 q fun k => away (by simp [k])).trans (kept q o (fun k => away (by simp [k])) (fun k => away (by simp [k])) (fun k => away (by simp [k])) (fun k => away (by simp [k])) e)
    have pair : ObjOk X.prog X.w (upd H s.heap.objs.size (.tup [x, y])) h2 s.heap.objs.size (.tup [x, y]) :=
      ⟨show 2 ≤ sizeLine by decide, [c', d'], .cons rc (.cons rd .nil), _, (same2.2 _ (Nat.ne_of_gt lz)).trans newT, rfl, _, rfl⟩
    refine ⟨.ref s.heap.objs.size, _, I.turnedNew (t' := tk) (ch := [z, u, v, i1, i2]) far room (Nat.le_refl _) pair, rfl, ⟨_, x, y, rfl, I.hok.fresh (Nat.le_refl _), rfl, fun l is' => ?_, fun l is' => ?_⟩, ⟨back, ?_, ⟨c', d', ?_⟩, ?_, ?_⟩, fun q hq => ?_⟩
    · rw [I.list_inj is' isX]; exact nx
    · rw [I.tuple_inj is' isY]; exact ny
    · exact (same2.2 _ S.TIz).trans (kept _ _ S.TIz S.TITO S.TIi1 S.TIi2 gu)
    · exact (same2.2 _ S.TOz).trans gv'
    · exact st1.1.at fun o e => (same2.2 _ fun k => S.zi1 k.symm).trans e
    · exact st2.1.at fun o e => (same2.2 _ fun k => S.zi2 k.symm).trans e
    · have lq : q < s.heap.objs.size := by
        obtain ⟨_, e1, _⟩ := g1
        obtain ⟨_, e2, _⟩ := g2
        exact five (p := fun q => q < s.heap.objs.size) hq lz (Heap.lt_size gu) (Heap.lt_size gv) (Heap.lt_size e1) (Heap.lt_size e2)
      rw [upd_ne (Nat.ne_of_lt lq)]
      exact (room q hq).1
  · rintro X rfl rfl rfl calm i pins s σ H E I room ⟨gz, gu, ⟨x0, y0, gv⟩, g1, g2⟩ ⟨xs, ys, isX, isY, l1, l2⟩
    obtain ⟨us, rel1, p1, _⟩ := I.list isX
    obtain ⟨vs, rel2, p2, _⟩ := I.tuple isY
    have isL : s.heap.IsList a us.toArray := p1.isList
    have isT : s.heap.IsTuple b vs.toArray := p2
    have D1 := Draws.list (prog := X.prog) (w := X.w) (A := X.A.in1) (I.ok.hd calm) i1 a (list_ne g1 isL) us.toArray
    have D2 := Draws.tuple (prog := X.prog) (w := X.w) (A := X.A.in1) (I.ok.hd calm) i2 b (tup_ne g2 isT) vs.toArray
    have n1 : i = us.toArray.size := by rw [List.size_toArray, ← rel1.length, l1]
    have n2 : i = vs.toArray.size := by rw [List.size_toArray, ← rel2.length, l2]
    refine wpAny_pyNext_zipD2_end S D1 D2 gz gu gv ⟨g1, isL⟩ ⟨g2, isT⟩ (by omega) (by omega) (.inl n1) fun h1 tk kept => ⟨rfl, ?_⟩
    exact I.turnedL (t' := tk) (ch := [z, u, v, i1, i2]) (fun c o away e => kept c o (fun k => away (by simp [k])) (fun k => away (by simp [k])) (fun k => away (by simp [k])) (fun k => away (by simp [k])) e) room
theorem sep_of (n a b : Nat) (la : a < n) (lb : b < n) : ZipSep2 (n + 4) (n + 2) (n + 3) n (n + 1) [n, a] [n + 1, b] := by
  have h1 : ¬ (n + 4 = a) := by omega
  have h2 : ¬ (n + 4 = b) := by omega
  have h3 : ¬ (n + 3 = a) := by omega
  have h4 : ¬ (n + 3 = b) := by omega
  have h5 : ¬ (n = b) := by omega
  have h6 : ¬ (n + 1 = a) := by omega
  constructor <;> simp [h1, h2, h3, h4, h5, h6]
/-- the reading of zip over a list and a tuple -/
def iZipM (K : PySem.W.Frag) (ta : TA) : TI := fun σ H R => ta σ H fun vs H1 => ∃ a b xs ys, vs = [.ref a, .ref b] ∧ SqL K H1 a xs ∧ SqT K H1 b ys ∧ R (ItzM K a b) H1
theorem pi_zipM {X : Cx} {e e2 : Expr} {ta : TA} {p pos tpos : Pos} {elts : List Expr} {kk : Nat} (hg : Gl X "zip") (hm : X.mg "zip" = none) (ha : PA X [e, e2] ta)
    (hs : starEach [e, e2] X.env = (false, eval e X.env) :: starEach [e2] X.env := by rfl) (hpl : (backTo pos (starEach [e2] X.env)).any (·.1) = false := by rfl) :
    PI X (.Tuple elts kk tpos) (.Call (.Name "zip" p) [e, e2] [] pos) (iZipM X.K ta) := by
  refine ⟨fun pins z σ H R I reading => Call_ (ld_blt I hg hm PyProof.Rows.boot_zip (PyProof.Rows.callWith_type1 (thn (ha.run pos pins z σ H _ I reading) fun us z1 got => ?_) hs hpl))⟩
  obtain ⟨vs, H1, I1, rel, a, b, xs, ys, rfl, isX, isY, q⟩ := got
  match us, rel with
  | [c, d], .cons rc (.cons rd .nil) =>
    obtain rfl : c = Value.ref a := rc
    obtain rfl : d = Value.ref b := rd
    obtain ⟨us, rel1, p1, _⟩ := I1.list isX
    obtain ⟨vs, rel2, p2, _⟩ := I1.tuple isY
    have isL : z1.heap.IsList a us.toArray := p1.isList
    have isT : z1.heap.IsTuple b vs.toArray := p2
    have la : a < z1.heap.objs.size := p1.lt
    have lb : b < z1.heap.objs.size := by
      obtain ⟨o, e, _⟩ := isT
      exact Heap.lt_size e
    refine zip_mixed isL isT fun h' gz gu gv g1 g2 kept => wpAny_pyIter_zip gz ?_
    have fresh : ∀ c ∈ [z1.heap.objs.size + 4, z1.heap.objs.size + 2, z1.heap.objs.size + 3, z1.heap.objs.size, z1.heap.objs.size + 1], FpOk X pins H1 c := fun c hc =>
      have far : z1.heap.objs.size ≤ c := five (p := fun c => z1.heap.objs.size ≤ c) hc (by omega) (by omega) (by omega) (by omega) (by omega)
      I1.fpOk far (I1.hok.fresh far)
    refine ⟨_, _, _, _, H1, rfl, I1.kept (t' := z1.toks) kept, turn_zipM (a := a) (b := b) (z := z1.heap.objs.size + 4) (u := z1.heap.objs.size + 2) (v := z1.heap.objs.size + 3) (i1 := z1.heap.objs.size) (i2 := z1.heap.objs.size + 1) ?_, ⟨gz, gu, ⟨_, _, gv⟩, g1, g2⟩, fresh, q⟩
    exact sep_of _ a b la lb
end L2.TB
namespace L2.TB
open PySem PySem.Spec PyProof.Rows
/-- a new key comes last -/
theorem put_last {acc : List (Key × V)} {k : Key} {v : V} (h : k ∉ acc.map (·.1)) : putK acc k v = acc ++ [(k, v)] := by
  have nd : ∀ acc : List (Key × V), k ∉ acc.map (·.1) → putK acc k v = acc ++ [(k, v)] := by
    intro acc h
    have no : (acc.any fun e => decide (e.1 = k)) = false := by
      cases q : acc.any fun e => decide (e.1 = k) with
      | false => rfl
      | true =>
        obtain ⟨e, he, ee⟩ := List.any_eq_true.mp q
        exact absurd (of_decide_eq_true ee ▸ List.mem_map_of_mem (f := (·.1)) he) h
    unfold putK
    rw [no]
    rfl
  exact nd acc h
/-- what a dict comprehension asks of its turns -/
def DcW (J : It) (g : TG) (tt : TT) (tk tv : TE) (vs : List Nat) (σ : St) (H1 : Hp) (Q : Addr → Hp → Prop) : Prop := ∀ D, H1 D = none → ∃ W : Nat → Nat → Hp → Prop, (∃ m, W 0 m (upd H1 D (.dK []))) ∧ ∀ i m H, W i m H →
  (J.stop i H ∧ Q D H) ∨ (J.go i H ∧ ∃ Nx : Hp → Prop, (∀ H', Nx H' → ∃ m', m' < m ∧ W (i + 1) m' H') ∧ ∀ x H', J.yld i H x H' → g x (wipe σ vs) H' fun σ2 H2 => wipe σ2 vs = wipe σ vs ∧ tt σ2 H2 fun b H3 =>
    if b = true then tk σ2 H3 fun y H4 => tv σ2 H4 fun z H5 => ∃ kvs k, y = kV k ∧ H5 D = some (.dK kvs) ∧ kvs.length < sizeLine ∧ Nx (upd H5 D (.dK (putK kvs k z))) else Nx H3)
/-- unlike keys: kvs is what it makes -/
theorem dc_gen {J : It} {g : TG} {tt : TT} {tk tv : TE} {vs : List Nat} {σ : St} {H1 : Hp} {Q : Addr → Hp → Prop} (kvs : List (Key × V)) (short : kvs.length < 1000000) (unlike : (kvs.map (·.1)).Nodup) (go : ∀ i H, Same H1 H → i < kvs.length → J.go i H) (stop : ∀ H, Same H1 H → J.stop kvs.length H)
    (turn : ∀ (i : Nat) (x : V) (k : Key) (v : V) (H H' : Hp) (C : V → V → Hp → Prop) (N : Hp → Prop), kvs[i]? = some (k, v) → Same H1 H → J.yld i H x H' → (∀ H5, Same H H5 → C (kV k) v H5) →
      g x (wipe σ vs) H' fun σ2 H2 => wipe σ2 vs = wipe σ vs ∧ tt σ2 H2 fun b H3 => if b = true then tk σ2 H3 fun y H4 => tv σ2 H4 fun z H5 => C y z H5 else N H3)
    (fin : ∀ H D, H1 D = none → H D = some (.dK kvs) → Same H1 H → Q D H) : DcW J g tt tk tv vs σ H1 Q := by
  intro D nD
  refine ⟨fun i m H => m = kvs.length - i ∧ i ≤ kvs.length ∧ H D = some (.dK (kvs.take i)) ∧ Same H1 H, ⟨_, rfl, Nat.zero_le _, upd_same, same_new nD⟩, ?_⟩
  rintro i m H ⟨rfl, le, oD, s1⟩
  by_cases lt : i < kvs.length
  · refine .inr ⟨go i H s1 lt, fun H' => H' D = some (.dK (kvs.take (i + 1))) ∧ Same H1 H', fun H' h => ⟨kvs.length - (i + 1), by omega, rfl, lt, h⟩, fun x H' yl => ?_⟩
    obtain ⟨k, v⟩ : Key × V := kvs[i]
    have ey : kvs[i]? = some (kvs[i].1, kvs[i].2) := List.getElem?_eq_getElem lt
    have et : kvs.take (i + 1) = kvs.take i ++ [(kvs[i].1, kvs[i].2)] := by rw [List.take_succ, ey]; rfl
    refine turn i x _ _ H H' (fun y z H5 => ∃ acc k, y = kV k ∧ H5 D = some (.dK acc) ∧ acc.length < sizeLine ∧ (upd H5 D (.dK (putK acc k z))) D = some (.dK (kvs.take (i + 1))) ∧ Same H1 (upd H5 D (.dK (putK acc k z)))) _ ey s1 yl fun H5 s5 => ⟨_, _, rfl, s5 _ _ oD, ?_, ?_, ?_⟩
    · rw [sizeLine_eq, List.length_take]; omega
    · rw [upd_same, put_last, et]
      have sp : ((kvs.take (i + 1)).map (·.1)).Nodup := (unlike.sublist ((List.take_sublist _ _).map _))
      rw [et, List.map_append, List.nodup_append] at sp
      exact fun hin => sp.2.2 _ hin _ (by simp) rfl
    · intro b u e
      rw [upd_ne (ne_of_none e nD)]
      exact s5 _ _ (s1 _ _ e)
  · obtain rfl : i = kvs.length := by omega
    rw [List.take_length] at oD
    exact .inl ⟨stop H s1, fin H D nD oD s1⟩
/-- a comprehension whose turns make things anew: R tells what the thing of a turn is -/
theorem lc_made {J : It} {g : TG} {tt : TT} {te : TE} {vs : List Nat} {σ : St} {H1 : Hp} {Q : Addr → Hp → Prop} (n : Nat) (short : n < 1000000) (go : ∀ i H, Same H1 H → i < n → J.go i H) (stop : ∀ H, Same H1 H → J.stop n H) (R : Nat → V → Hp → Prop)
    (stays : ∀ i y H H' D l, R i y H → H D = some (.lst l) → (∀ b o, b ≠ D → H b = some o → H' b = some o) → R i y H')
    (turn : ∀ (i : Nat) (x : V) (H H' : Hp) (C : V → Hp → Prop) (N : Hp → Prop), i < n → Same H1 H → J.yld i H x H' → (∀ y H4, R i y H4 → Same H H4 → C y H4) → g x (wipe σ vs) H' fun σ2 H2 => wipe σ2 vs = wipe σ vs ∧ tt σ2 H2 fun b H3 => if b = true then te σ2 H3 C else N H3)
    (fin : ∀ H D ys, H1 D = none → H D = some (.lst ys) → ys.length = n → (∀ j y, ys[j]? = some y → R j y H) → Same H1 H → Q D H) : LcW J g tt te vs σ H1 Q := by
  intro D nD
  refine ⟨fun i m H => m = n - i ∧ i ≤ n ∧ ∃ ys : List V, H D = some (.lst ys) ∧ ys.length = i ∧ (∀ j y, ys[j]? = some y → R j y H) ∧ Same H1 H, ⟨_, rfl, Nat.zero_le _, [], upd_same, rfl, (fun j y e => by cases e), same_new nD⟩, ?_⟩
  rintro i m H ⟨rfl, le, ys, oD, ly, ry, s1⟩
  by_cases lt : i < n
  · refine .inr ⟨go i H s1 lt, fun H' => ∃ ys : List V, H' D = some (.lst ys) ∧ ys.length = i + 1 ∧ (∀ j y, ys[j]? = some y → R j y H') ∧ Same H1 H', fun H' h => ⟨n - (i + 1), by omega, rfl, lt, h⟩, fun x H' yl => ?_⟩
    refine turn i x H H' _ _ lt s1 yl fun y H4 ry4 s4 => ⟨_, s4 _ _ oD, by rw [sizeLine_eq]; omega, ys ++ [y], upd_same, by simp [ly], fun j z ej => ?_, ?_⟩
    · have keep : ∀ b o, b ≠ D → H4 b = some o → upd H4 D (.lst (ys ++ [y])) b = some o := fun b o nb e => by rw [upd_ne nb]; exact e
      rcases Nat.lt_or_ge j ys.length with h | h
      · rw [List.getElem?_append_left h] at ej
        exact stays _ _ _ _ D _ (stays j z H H4 D _ (ry j z ej) oD fun b o _ e => s4 _ _ e) (s4 _ _ oD) keep
      · rw [List.getElem?_append_right h] at ej
        have e0 : j - ys.length = 0 := by
          have := (List.getElem?_eq_some_iff.mp ej).1
          simp at this
          omega
        rw [e0] at ej
        obtain rfl : y = z := Option.some.inj ej
        have ji : j = i := by omega
        subst ji
        exact stays _ _ _ _ D _ ry4 (s4 _ _ oD) keep
    · intro b u e
      rw [upd_ne (ne_of_none e nD)]
      exact s4 _ _ (s1 _ _ e)
  · obtain rfl : i = n := by omega
    exact .inl ⟨stop H s1, fin H D ys nD oD ly ry s1⟩
/-- from the things made to their addresses -/
theorem addrs_of {H : Hp} {P : Nat → Addr → Prop} : ∀ (ys : List V) (k : Nat), (∀ j y, ys[j]? = some y → ∃ t, y = V.ref t ∧ P (k + j) t) → ∃ as : List Addr, ys = as.map V.ref ∧ ∀ j a, as[j]? = some a → P (k + j) a
  | [], k, _ => ⟨[], rfl, fun j a e => by cases e⟩
  | y :: ys, k, h => by
    obtain ⟨t, rfl, pt⟩ := h 0 y rfl
    obtain ⟨as, e, pa⟩ := addrs_of (H := H) (P := P) ys (k + 1) fun j z ez => by
      have := h (j + 1) z ez
      rw [show k + 1 + j = k + (j + 1) from by omega]
      exact this
    refine ⟨t :: as, by rw [e]; rfl, fun j a ea => ?_⟩
    cases j with
    | zero => obtain rfl : t = a := Option.some.inj ea; exact pt
    | succ j =>
      have := pa j a ea
      rw [show k + (j + 1) = k + 1 + j from by omega]
      exact this
theorem paired_of {α β : Type} {R : α → β → Prop} : ∀ (xs : List α) (ys : List β), xs.length = ys.length → (∀ (i : Nat) (x : α) (y : β), xs[i]? = some x → ys[i]? = some y → R x y) → Paired R xs ys
  | [], [], _, _ => .nil
  | x :: xs, y :: ys, l, h => .cons (h 0 x y rfl rfl) (paired_of xs ys (by simpa using l) fun i a b ea eb => h (i + 1) a b ea eb)
/-! the table's rows as dicts -/
def spDictOf (C : Addr) : Sp := fun vs H Q _ => ∃ (a p : Addr) (ns : List Str) (tbl : List (List Int)) (us : List Int), vs = [.ref a, .ref p] ∧ TabAt H C a ns tbl ∧ ns.Nodup ∧ ns.length < 1000 ∧ H p = some (.tup (us.map V.int)) ∧ us.length = ns.length ∧ ∀ H' d, H d = none → H' d = some (.dK (dk ns us)) → Same H H' → Q (.ref d) H'
def spRowsM (C : Addr) : Sp := fun vs H Q _ => ∃ (a : Addr) (ns : List Str) (tbl : List (List Int)), vs = [.ref a] ∧ TabAt H C a ns tbl ∧ ns.Nodup ∧ ns.length < 1000 ∧ tbl.length < 1000 ∧
  ∀ H' q as, H q = none → H' q = some (.lst ((as : List Addr).map V.ref)) → DRows H' ns as tbl → (∀ t ∈ as, H t = none) → Same H H' → Q (.ref q) H'
abbrev NDo : List Str := ["self", "row", "name", "answer"]
theorem scDictOf : FnScope NDo ["self", "row"] (defScope sDictOf) := ⟨rfl, rfl, rfl, by decide +kernel, rfl, by decide +kernel, by decide +kernel⟩
abbrev NRm : List Str := ["self", "row"]
theorem scRowsM : FnScope NRm ["self"] (defScope sRowsM) := ⟨rfl, rfl, rfl, by decide +kernel, rfl, by decide +kernel, by decide +kernel⟩
section
variable {P : Program} {w : World} {K : PySem.W.Frag} {mg : Str → Option Value} {base : Heap} {f C fD : Addr} {fd fdD : FuncData}
theorem ok_dictOf (F : Fun K "_dict_of" "Table._dict_of" sDictOf f fd) (T : TabC K C) (gZ : mg "zip" = none) : FnOk P w K mg base CX0 1 f fd ["self", "row"] (spDictOf C) := by
  refine F.ok scDictOf (fun vs H Q E h => by obtain ⟨a, p, ns, tbl, us, e, _⟩ := h; rw [e]; rfl) fun cdv A outer s H vs Q E hr hsp => ?_
  obtain ⟨a, p, ns, tbl, us, rfl, tab, nnd, nsh, hp, lu, hq⟩ := hsp
  obtain ⟨dx, qa, ra, ha, hqa, hra⟩ := tab.ex
  have nd := scDictOf.nd
  refine ⟨_, pss_one (ps_ret (pe_dc (own := [("name", 2), ("answer", 3)]) (tt := tYes) (g := gTup K 2 (gCons (gName 2) (gCons (gName 3) gNil))) (tk := tVar 2) (tv := tVar 3) rfl nd (pi_zipM rfl gZ (pa_cons (pe_fld (pv 0) rfl) (pa_cons (pv 1) pa_nil))) (blkOk_by (N := NDo) (sc := defScope sDictOf) (by decide +kernel))
    (fun _ _ _ _ _ => pg_tup rfl (pgs_cons (pg_name (i := 2) nd rfl (Or.inl rfl)) (pgs_cons (pg_name (i := 3) nd rfl (Or.inl rfl)) pgs_nil))) (fun _ _ _ _ _ => pts_nil) (fun _ _ _ _ _ => pv 2) (fun _ _ _ _ _ => pv 3))), ?_⟩
  have ldk : (dk ns us).length = ns.length := by
    unfold dk
    rw [List.length_map, List.length_zip]; omega
  refine ⟨_, rfl, a, C, dx, _, _, rfl, ha, T.cl, T.nQ, rfl, _, rfl, qa, p, ns.map V.str, us.map V.int, rfl, SqL.of hqa, SqT.of hp, ?_⟩
  refine dc_gen (Q := fun D H' => Q (.ref D) H') (dk ns us) (by omega) (dk_nd lu.symm nnd) (fun i H' k lt => ?_) (fun H' k => ⟨_, _, SqL.of (k _ _ hqa), SqT.of (k _ _ hp), by rw [List.length_map, ldk], by rw [List.length_map, ldk, lu]⟩) ?_ fun H' D nD oD k => hq H' D nD oD k
  · rw [ldk] at lt
    exact ⟨_, _, _, _, SqL.of (k _ _ hqa), SqT.of (k _ _ hp), List.getElem?_eq_getElem (by rw [List.length_map]; exact lt), List.getElem?_eq_getElem (by rw [List.length_map]; omega)⟩
  · rintro i x k v H2 H3 Cn Nn ekv s2 ⟨t, x1, x2, rfl, nt, rfl, g1, g2⟩ yes
    have e1 := g1 _ (SqL.of (s2 _ _ hqa))
    have e2 := g2 _ (SqT.of (s2 _ _ hp))
    obtain ⟨y, n, rfl, rfl, ey, _⟩ := dk_at ekv nnd lu.symm
    rw [List.getElem?_map, ey] at e1
    obtain rfl : V.str y = x1 := Option.some.inj e1
    have ex : x2 = V.int n := by
      unfold dk at ekv
      rw [List.getElem?_map] at ekv
      obtain ⟨z, ez, e⟩ := Option.map_eq_some_iff.mp ekv
      have ez : (ns.zip us)[i]? = some z := ez
      rw [List.getElem?_zip_eq_some] at ez
      have en : z.2 = n := V.int.inj (congrArg Prod.snd e)
      rw [List.getElem?_map, ez.2, Option.map_some, en] at e2
      exact (Option.some.inj e2).symm
    subst ex
    have st := same_new (o := .tup [V.str y, V.int n]) nt
    refine ⟨t, _, rfl, SqT.of upd_same, rfl, _, _, rfl, _, _, rfl, rfl, rfl, ?_⟩
    exact ⟨_, rfl, _, rfl, yes _ st⟩
theorem ok_rowsM (F : Fun K "rows" "Table.rows" sRowsM f fd) (T : TabC K C) (FD : Fun K "_dict_of" "Table._dict_of" sDictOf fD fdD) (mD : Meth K C "_dict_of" fD) (gZ : mg "zip" = none) : FnOk P w K mg base CX0 2 f fd ["self"] (spRowsM C) := by
  have GD : FnOk P w K mg base CX0 1 fD fdD ["self", "row"] (spDictOf C) := ok_dictOf FD T gZ
  have bD := FD.binds (ps := ["self", "row"]) fun _ _ _ _ _ _ us hl => match us, hl with | [_, _], _ => rfl
  refine F.ok scRowsM (fun vs H Q E h => by obtain ⟨a, ns, tbl, e, _⟩ := h; rw [e]; rfl) fun cdv A outer s H vs Q E hr hsp => ?_
  obtain ⟨a, ns, tbl, rfl, tab, nnd, nsh, tsh, hq⟩ := hsp
  obtain ⟨dx, qa, ra, ha, hqa, hra⟩ := id tab.ex
  obtain ⟨ps, hps, prs⟩ := hra
  have nd := scRowsM.nd
  have lp : ps.length = tbl.length := Paired.length prs
  refine ⟨_, pss_one (ps_ret (pe_lc (own := [("row", 1)]) (tt := tYes) rfl nd (pi_list (pe_fld (pv 0) rfl)) (blkOk_by (N := NRm) (sc := defScope sRowsM) (by decide +kernel)) (fun _ _ _ _ _ => pg_name (i := 1) nd rfl (Or.inl rfl)) (fun _ _ _ _ _ => pts_nil)
    (fun _ _ _ _ _ => pe_meth (pv 0) T.cl mD GD hr bD .nil pass0 (pa_cons (pv 1) pa_nil)))), ?_⟩
  refine ⟨_, rfl, a, C, dx, _, _, rfl, ha, T.cl, T.nR, rfl, ra, rfl, ⟨_, SqL.of hps⟩, ?_⟩
  refine lc_made (Q := fun D H' => Q (.ref D) H') tbl.length (by omega) (fun i H' k lt => ⟨_, _, SqL.of (k _ _ hps), List.getElem?_eq_getElem (by rw [List.length_map]; omega)⟩) (fun H' k => ⟨_, SqL.of (k _ _ hps), by rw [List.length_map]; omega⟩)
    (fun i y H' => ∃ t us, y = V.ref t ∧ tbl[i]? = some us ∧ H' t = some (.dK (dk ns us)) ∧ us.length = ns.length ∧ H t = none) ?_ ?_ ?_
  · rintro i y H2 H3 D l ⟨t, us, rfl, eu, ot, lu, nt⟩ oD keep
    exact ⟨t, us, rfl, eu, keep _ _ (ne_of ot oD (by intro z; cases z)) ot, lu, nt⟩
  · rintro i x H2 H3 Cn Nn lt s2 ⟨rfl, ex⟩ yes
    have ex := ex _ (SqL.of (s2 _ _ hps))
    rw [List.getElem?_map] at ex
    obtain ⟨p, ep, rfl⟩ := Option.map_eq_some_iff.mp ex
    obtain ⟨us, eu, op, lu⟩ := paired_get prs ep
    refine ⟨rfl, ?_⟩
    exact ⟨_, rfl, a, dx, _, rfl, s2 _ _ ha, rfl, _, rfl, a, p, ns, tbl, us, rfl, tab.same s2, nnd, nsh, s2 _ _ op, lu, fun H4 d nd od s4 => yes _ _ ⟨d, us, rfl, eu, od, lu, s2.free nd⟩ s4⟩
  · intro H2 D ys nD oD ly ry s2
    obtain ⟨as, rfl, pa⟩ := addrs_of (H := H2) (P := fun i t => (∃ us, tbl[i]? = some us ∧ H2 t = some (.dK (dk ns us)) ∧ us.length = ns.length) ∧ H t = none) ys 0 fun j y e => by
      obtain ⟨t, us, e1, e2, e3, e4, e5⟩ := ry j y e
      exact ⟨t, e1, ⟨us, by simpa using e2, e3, e4⟩, e5⟩
    refine hq H2 D as nD oD (paired_of as tbl (by rw [← ly, List.length_map]) fun i t us et eu => ?_) (fun t ht => ?_) s2
    rotate_left
    · obtain ⟨i, hi, e⟩ := List.getElem_of_mem ht
      exact (pa i t (by rw [List.getElem?_eq_getElem hi, e])).2
    obtain ⟨⟨us', e2, e3, e4⟩, _⟩ := pa i t et
    rw [Nat.zero_add, eu] at e2
    cases e2
    exact ⟨e3, e4⟩
end
end L2.TB
namespace L2.TB
open PySem PySem.Spec PyProof.Rows
/-! the law's look whether two things are the same -/
theorem kit_none2 {K : PySem.W.Frag} {t : String} (h1 : kitB t "list" = some false) (h2 : kitB t "tuple" = some false) : PySem.W.kitAny K (.type t) [.type "list", .type "tuple"] = some false := by
  unfold PySem.W.kitAny
  rw [kit_ty (K := K) h1]
  dsimp only
  unfold PySem.W.kitAny
  rw [kit_ty (K := K) h2]
  rfl
theorem kit_none3 {K : PySem.W.Frag} {t : String} (h0 : kitB t "int" = some false) (h1 : kitB t "list" = some false) (h2 : kitB t "tuple" = some false) : PySem.W.kitAny K (.type t) [.type "int", .type "list", .type "tuple"] = some false := by
  unfold PySem.W.kitAny
  rw [kit_ty (K := K) h0]
  exact kit_none2 h1 h2
abbrev NSm : List Str := ["found", "due", "x", "y"]
theorem scSame : FnScope NSm ["found", "due"] (defScope sSame) := ⟨rfl, rfl, rfl, by decide +kernel, rfl, by decide +kernel, by decide +kernel⟩
def spSameS : Sp := fun vs H Q _ => ∃ x y : Str, vs = [.str x, .str y] ∧ ∀ H', Same H H' → Q (.bl (decide (x = y))) H'
def spSameB : Sp := fun vs H Q _ => ∃ x y : Bool, vs = [.bl x, .bl y] ∧ ∀ H', Same H H' → Q (.bl (decide (x = y))) H'
def spSameL : Sp := fun vs H Q _ => ∃ (a b : Addr) (xs ys : List Str), vs = [.ref a, .ref b] ∧ H a = some (.lst (xs.map V.str)) ∧ H b = some (.lst (ys.map V.str)) ∧ xs.length < 1000 ∧ ∀ H', Same H H' → Q (.bl (decide (xs = ys))) H'
/-- the names that it reads -/
structure Sm (mg : Str → Option Value) : Prop where
  nI : mg "isinstance" = none
  nL : mg "list" = none
  nT : mg "tuple" = none
  nInt : mg "int" = none
  nB : mg "bool" = none
  nN : mg "len" = none
  nA : mg "all" = none
  nZ : mg "zip" = none
theorem zip_all : ∀ xs ys : List Str, xs.length = ys.length → ((xs.zip ys).map fun p => decide (p.1 = p.2)).all id = decide (xs = ys)
  | [], [], _ => by simp
  | x :: xs, y :: ys, h => by
    have ih := zip_all xs ys (by simpa using h)
    rw [List.zip_cons_cons, List.map_cons, List.all_cons, ih]
    by_cases h1 : x = y
    · by_cases h2 : xs = ys <;> simp [h1, h2]
    · simp [h1]
  | [], _ :: _, h => by simp at h
  | _ :: _, [], h => by simp at h
section
variable {P : Program} {w : World} {K : PySem.W.Frag} {mg : Str → Option Value} {base : Heap} {f : Addr} {fd : FuncData}
theorem ok_sameS (F : Fun K "_law_same" "_law_same" sSame f fd) (M : Sm mg) : FnOk P w K mg base CX0 1 f fd ["found", "due"] spSameS := by
  refine F.ok scSame (fun vs H Q E h => by obtain ⟨x, y, e, _⟩ := h; rw [e]; rfl) fun cdv A outer s H vs Q E hr hsp => ?_
  obtain ⟨x, y, rfl, hq⟩ := hsp
  refine ⟨_, pss_cons (ps_if (pt_val (pe_callB (r := rIsiT K) call_isiT rfl M.nI boot_isi (pa_cons (pv 1) (pa_cons (pe_tup (pa_cons (pe_bltn (v := .ty "list") rfl M.nL boot_list' rfl) (pa_cons (pe_bltn (v := .ty "tuple") rfl M.nT boot_tuple' rfl) pa_nil))) pa_nil)))) (pss_cons ps_never (pss_one ps_never)) pss_nil)
    (pss_cons (ps_if (pt_val (pe_callB (r := rIsi K) call_isi rfl M.nI boot_isi (pa_cons (pv 1) (pa_cons (pe_bltn (v := .ty "int") rfl M.nInt boot_int' rfl) pa_nil)))) (pss_one ps_never) pss_nil)
    (pss_one (ps_ret (pe_and (pe_cmpR op_isBl (pe_callB (r := rIsiT K) call_isiT rfl M.nI boot_isi (pa_cons (pv 0) (pa_cons (pe_tup (pa_cons (pe_bltn (v := .ty "int") rfl M.nInt boot_int' rfl) (pa_cons (pe_bltn (v := .ty "list") rfl M.nL boot_list' rfl) (pa_cons (pe_bltn (v := .ty "tuple") rfl M.nT boot_tuple' rfl) pa_nil)))) pa_nil))) pe_bl (nomark _))
      (pe_one (pe_cmpR op_eq (pv 0) (pv 1) (nomark _))))))), ?_⟩
  refine ⟨_, rfl, (by show 2 ≤ sizeLine; decide), fun t nt => ?_⟩
  have st := same_new (o := .tup [.ty "list", .ty "tuple"]) nt
  refine ⟨_, _, _, _, _, false, rfl, upd_same, .cons (.ty _) (.cons (.ty _) .nil), .base (.str y), kit_none2 (by decide +kernel) (by decide +kernel), _, rfl, iteF ?_⟩
  refine ⟨_, rfl, _, _, _, _, false, rfl, .ty _, .base (.str y), kit_ty (by decide +kernel), _, rfl, iteF ?_⟩
  refine ⟨_, rfl, (by show 3 ≤ sizeLine; decide), fun t2 nt2 => ?_⟩
  have st2 := same_new (o := .tup [.ty "int", .ty "list", .ty "tuple"]) nt2
  refine ⟨_, _, _, _, _, false, rfl, upd_same, .cons (.ty _) (.cons (.ty _) (.cons (.ty _) .nil)), .base (.str x), kit_none3 (by decide +kernel) (by decide +kernel) (by decide +kernel), _, _, rfl, rfl, _, rfl, iteT ⟨_, rfl, _, rfl, rfl, ?_⟩⟩
  rw [dec_str]
  exact hq _ (st.trans st2)
theorem ok_sameB (F : Fun K "_law_same" "_law_same" sSame f fd) (M : Sm mg) : FnOk P w K mg base CX0 1 f fd ["found", "due"] spSameB := by
  refine F.ok scSame (fun vs H Q E h => by obtain ⟨x, y, e, _⟩ := h; rw [e]; rfl) fun cdv A outer s H vs Q E hr hsp => ?_
  obtain ⟨x, y, rfl, hq⟩ := hsp
  refine ⟨_, pss_cons (ps_if (pt_val (pe_callB (r := rIsiT K) call_isiT rfl M.nI boot_isi (pa_cons (pv 1) (pa_cons (pe_tup (pa_cons (pe_bltn (v := .ty "list") rfl M.nL boot_list' rfl) (pa_cons (pe_bltn (v := .ty "tuple") rfl M.nT boot_tuple' rfl) pa_nil))) pa_nil)))) (pss_cons ps_never (pss_one ps_never)) pss_nil)
    (pss_cons (ps_if (pt_val (pe_callB (r := rIsi K) call_isi rfl M.nI boot_isi (pa_cons (pv 1) (pa_cons (pe_bltn (v := .ty "int") rfl M.nInt boot_int' rfl) pa_nil))))
      (pss_one (ps_ret (pe_and (pe_callB (r := rIsi K) call_isi rfl M.nI boot_isi (pa_cons (pv 0) (pa_cons (pe_bltn (v := .ty "int") rfl M.nInt boot_int' rfl) pa_nil)))
        (pe_and (pe_cmpR op_eq (pe_callB (r := rIsi K) call_isi rfl M.nI boot_isi (pa_cons (pv 0) (pa_cons (pe_bltn (v := .ty "bool") rfl M.nB boot_bool' rfl) pa_nil))) (pe_callB (r := rIsi K) call_isi rfl M.nI boot_isi (pa_cons (pv 1) (pa_cons (pe_bltn (v := .ty "bool") rfl M.nB boot_bool' rfl) pa_nil))) (nomark _))
        (pe_one (pe_cmpR op_eq (pv 0) (pv 1) (nomark _))))))) pss_nil)
    (pss_one ps_never)), ?_⟩
  refine ⟨_, rfl, (by show 2 ≤ sizeLine; decide), fun t nt => ?_⟩
  have st := same_new (o := .tup [.ty "list", .ty "tuple"]) nt
  refine ⟨_, _, _, _, _, false, rfl, upd_same, .cons (.ty _) (.cons (.ty _) .nil), .base (.bl y), kit_none2 (by decide +kernel) (by decide +kernel), _, rfl, iteF ?_⟩
  refine ⟨_, rfl, _, _, _, _, true, rfl, .ty _, .base (.bl y), kit_ty (by decide +kernel), _, rfl, iteT ?_⟩
  refine ⟨_, rfl, _, _, _, _, true, rfl, .ty _, .base (.bl x), kit_ty (by decide +kernel), _, rfl, iteT ?_⟩
  refine ⟨_, rfl, _, _, _, _, true, rfl, .ty _, .base (.bl x), kit_ty (by decide +kernel), _, rfl, _, _, _, _, true, rfl, .ty _, .base (.bl y), kit_ty (by decide +kernel), rfl, _, rfl, iteT ⟨_, rfl, _, rfl, rfl, ?_⟩⟩
  have e : decide (V.bl x = V.bl y) = decide (x = y) := by cases x <;> cases y <;> rfl
  rw [e]
  exact hq _ st
theorem ok_sameL (F : Fun K "_law_same" "_law_same" sSame f fd) (gSm : mg "_law_same" = some (.ref f)) (M : Sm mg) : FnOk P w K mg base CX0 2 f fd ["found", "due"] spSameL := by
  have G : FnOk P w K mg base CX0 1 f fd ["found", "due"] spSameS := ok_sameS F M
  have b := F.binds (ps := ["found", "due"]) fun _ _ _ _ _ _ us hl => match us, hl with | [_, _], _ => rfl
  refine F.ok scSame (fun vs H Q E h => by obtain ⟨a, b, xs, ys, e, _⟩ := h; rw [e]; rfl) fun cdv A outer s H vs Q E hr hsp => ?_
  obtain ⟨a, bb, xs, ys, rfl, ha, hb, short, hq⟩ := hsp
  have nd := scSame.nd
  refine ⟨_, pss_cons (ps_if (pt_val (pe_callB (r := rIsiT K) call_isiT rfl M.nI boot_isi (pa_cons (pv 1) (pa_cons (pe_tup (pa_cons (pe_bltn (v := .ty "list") rfl M.nL boot_list' rfl) (pa_cons (pe_bltn (v := .ty "tuple") rfl M.nT boot_tuple' rfl) pa_nil))) pa_nil))))
      (pss_cons (ps_if (PW.pt (pw_or (pt_cmpR op_ne (pe_callB (r := rIsi K) call_isi rfl M.nI boot_isi (pa_cons (pv 0) (pa_cons (pe_bltn (v := .ty "list") rfl M.nL boot_list' rfl) pa_nil))) (pe_callB (r := rIsi K) call_isi rfl M.nI boot_isi (pa_cons (pv 1) (pa_cons (pe_bltn (v := .ty "list") rfl M.nL boot_list' rfl) pa_nil))) (nomark _))
          (pw_or1 (pt_cmpR op_ne (pe_callB (r := rIsi K) call_isi rfl M.nI boot_isi (pa_cons (pv 0) (pa_cons (pe_bltn (v := .ty "tuple") rfl M.nT boot_tuple' rfl) pa_nil))) (pe_callB (r := rIsi K) call_isi rfl M.nI boot_isi (pa_cons (pv 1) (pa_cons (pe_bltn (v := .ty "tuple") rfl M.nT boot_tuple' rfl) pa_nil))) (nomark _))))) (pss_one ps_never) pss_nil)
      (pss_one (ps_ret (pe_and (pe_cmpR op_eq (pe_callB call_len_seq rfl M.nN boot_len (pa_cons (pv 0) pa_nil)) (pe_callB call_len_seq rfl M.nN boot_len (pa_cons (pv 1) pa_nil)) (nomark _))
        (pe_one (pe_callB (cr_all rfl) rfl M.nA boot_all' (pa_cons (pe_lc (own := [("x", 2), ("y", 3)]) (tt := tYes) (g := gTup K 2 (gCons (gName 2) (gCons (gName 3) gNil))) rfl nd (pi_zip rfl M.nZ (pa_cons (pv 0) (pa_cons (pv 1) pa_nil))) (blkOk_by (N := NSm) (sc := defScope sSame) (by decide +kernel))
          (fun _ _ _ _ _ => pg_tup rfl (pgs_cons (pg_name (i := 2) nd rfl (Or.inl rfl)) (pgs_cons (pg_name (i := 3) nd rfl (Or.inl rfl)) pgs_nil))) (fun _ _ _ _ _ => pts_nil)
          (fun _ _ _ _ _ => pe_call G hr rfl gSm F.kp b .nil pass0 (pa_cons (pv 2) (pa_cons (pv 3) pa_nil)))) pa_nil))))))) pss_nil)
    (pss_cons ps_never (pss_one ps_never)), ?_⟩
  refine ⟨_, rfl, (by show 2 ≤ sizeLine; decide), fun t nt => ?_⟩
  have st := same_new (o := .tup [.ty "list", .ty "tuple"]) nt
  refine ⟨_, _, _, _, _, true, rfl, upd_same, .cons (.ty _) (.cons (.ty _) .nil), .base (.lst (st _ _ hb)), kit_two_l, _, rfl, iteT ?_⟩
  generalize upd H t (.tup [.ty "list", .ty "tuple"]) = H1 at st
  have ha := st _ _ ha
  have hb := st _ _ hb
  refine ⟨_, rfl, _, _, _, _, true, rfl, .ty _, .base (.lst ha), kit_ty (by decide +kernel), _, rfl, _, _, _, _, true, rfl, .ty _, .base (.lst hb), kit_ty (by decide +kernel), rfl, _, rfl, iteF ?_⟩
  refine ⟨_, rfl, _, _, _, _, false, rfl, .ty _, .base (.lst ha), kit_ty (by decide +kernel), _, rfl, _, _, _, _, false, rfl, .ty _, .base (.lst hb), kit_ty (by decide +kernel), rfl, _, rfl, iteF ?_⟩
  refine ⟨_, rfl, a, _, rfl, .inl (SqL.of ha), _, rfl, bb, _, rfl, .inl (SqL.of hb), rfl, _, rfl, ?_⟩
  rw [dec_int2, List.length_map, List.length_map]
  by_cases len : xs.length = ys.length
  · rw [decide_eq_true (by omega : ((xs.length : Nat) : Int) = (ys.length : Nat))]
    refine iteT ⟨_, rfl, _, rfl, a, bb, _, _, rfl, SqL.of ha, SqL.of hb, ?_⟩
    have lz : (xs.zip ys).length = xs.length := by rw [List.length_zip]; omega
    refine lc_gen (((xs.zip ys).map fun p => decide (p.1 = p.2)).map V.bl) (by rw [List.length_map, List.length_map]; omega) (fun i H' s lt => ?_) (fun H' s => ?_) ?_ ?_
    · rw [List.length_map, List.length_map, lz] at lt
      exact ⟨_, _, _, _, SqL.of (s _ _ ha), SqL.of (s _ _ hb), List.getElem?_eq_getElem (by rw [List.length_map]; omega), List.getElem?_eq_getElem (by rw [List.length_map]; omega)⟩
    · exact ⟨_, _, SqL.of (s _ _ ha), SqL.of (s _ _ hb), .inl (by rw [List.length_map, List.length_map, List.length_map, lz]; exact Nat.le_refl _)⟩
    · rintro i v y H2 H3 Cn Nn ey s2 ⟨T, u1, u2, rfl, nT, rfl, e1, e2⟩ yes
      have e1 := e1 _ (SqL.of (s2 _ _ ha))
      have e2 := e2 _ (SqL.of (s2 _ _ hb))
      rw [List.getElem?_map] at e1 e2
      obtain ⟨x1, ex1, rfl⟩ := Option.map_eq_some_iff.mp e1
      obtain ⟨x2, ex2, rfl⟩ := Option.map_eq_some_iff.mp e2
      rw [List.getElem?_map, List.getElem?_map, List.getElem?_zip_eq_some.mpr (show xs[i]? = some (x1, x2).1 ∧ ys[i]? = some (x1, x2).2 from ⟨ex1, ex2⟩)] at ey
      obtain rfl := Option.some.inj ey
      have sT := same_new (o := .tup [.str x1, .str x2]) nT
      refine ⟨T, _, rfl, SqT.of upd_same, rfl, _, _, rfl, _, _, rfl, rfl, rfl, ?_⟩
      exact ⟨_, rfl, _, rfl, x1, x2, rfl, fun H4 s4 => yes H4 (sT.trans s4)⟩
    · intro H2 D nD oD s2
      refine ⟨D, _, rfl, SqL.of oD, ?_⟩
      rw [zip_all xs ys len]
      exact hq H2 (st.trans s2)
  · rw [decide_eq_false (by omega : ¬ ((xs.length : Nat) : Int) = (ys.length : Nat))]
    refine iteF ?_
    have z := hq H1 st
    rw [decide_eq_false (fun e : xs = ys => len (congrArg List.length e))] at z
    exact z
end
end L2.TB
namespace L2.TB
open PySem PySem.Spec PyProof.Rows
/-! what the law rests on: closures -/
theorem key_mem {ns K : List Str} {u v : List Int} (h : keyR ns K u = keyR ns K v) : ∀ x ∈ K, av ns u x = av ns v x := by
  intro x hx
  exact List.map_inj_left.mp h x hx
theorem key_of {ns K : List Str} {u v : List Int} (h : ∀ x ∈ K, av ns u x = av ns v x) : keyR ns K u = keyR ns K v := List.map_inj_left.mpr h
theorem tells_mono {ns K M : List Str} {tbl : List (List Int)} {x : Str} (sub : ∀ y ∈ K, y ∈ M) (h : Tells ns tbl K x) : Tells ns tbl M x :=
  fun u hu v hv e => h u hu v hv (key_of fun y hy => key_mem e y (sub y hy))
theorem tells_self {ns K : List Str} {tbl : List (List Int)} {x : Str} (h : x ∈ K) : Tells ns tbl K x := fun u _ v _ e => key_mem e x h
theorem told_mem {ns K : List Str} {tbl : List (List Int)} {x : Str} : x ∈ toldL ns tbl K ↔ x ∈ ns ∧ Tells ns tbl K x := by
  unfold toldL
  rw [List.mem_filter, decide_eq_true_eq]
theorem told_nd {ns K : List Str} {tbl : List (List Int)} (h : ns.Nodup) : (toldL ns tbl K).Nodup := h.filter _
theorem told_sub {ns K : List Str} {tbl : List (List Int)} : ∀ x ∈ toldL ns tbl K, x ∈ ns := fun _ h => (told_mem.mp h).1
theorem told_has {ns K : List Str} {tbl : List (List Int)} (sub : ∀ x ∈ K, x ∈ ns) : ∀ x ∈ K, x ∈ toldL ns tbl K := fun x h => told_mem.mpr ⟨sub x h, tells_self h⟩
theorem told_mono {ns K M : List Str} {tbl : List (List Int)} (sub : ∀ y ∈ K, y ∈ M) : ∀ x ∈ toldL ns tbl K, x ∈ toldL ns tbl M := fun _ h => told_mem.mpr ⟨(told_mem.mp h).1, tells_mono sub (told_mem.mp h).2⟩
/-- what is told tells nothing besides -/
theorem tells_told {ns K : List Str} {tbl : List (List Int)} {x : Str} (h : Tells ns tbl (toldL ns tbl K) x) : Tells ns tbl K x :=
  fun u hu v hv e => h u hu v hv (key_of fun y hy => (told_mem.mp hy).2 u hu v hv e)
theorem told_told {ns K : List Str} {tbl : List (List Int)} (sub : ∀ x ∈ K, x ∈ ns) : toldL ns tbl (toldL ns tbl K) = toldL ns tbl K := by
  show (ns.filter fun x => decide (Tells ns tbl (toldL ns tbl K) x)) = ns.filter fun x => decide (Tells ns tbl K x)
  refine List.filter_congr fun x _ => ?_
  exact decide_eq_decide.mpr ⟨tells_told, tells_mono (told_has sub)⟩
/-- a table stays where only the spring moves -/
theorem TabAt.but {H H' : Hp} {C a l ls : Addr} {ns : List Str} {tbl : List (List Int)} {N : Int} (t : TabAt H C a ns tbl) (S : Strm H l ls N) (B : But l ls H H') (nn : ns ≠ []) (tn : tbl ≠ []) : TabAt H' C a ns tbl := by
  obtain ⟨dx, qa, ra, ha, hqa, ps, hra, prs⟩ := t.ex
  obtain ⟨cs, g, k, m, S⟩ := S
  obtain ⟨n0, nr, rfl⟩ := List.exists_cons_of_ne_nil nn
  obtain ⟨t0, tr, rfl⟩ := List.exists_cons_of_ne_nil tn
  cases prs with
  | cons p0 prs =>
    rename_i p ps
    refine ⟨dx, qa, ra, B _ _ ?_ ?_ ha, B _ _ ?_ ?_ hqa, p :: ps, B _ _ ?_ ?_ hra, Paired.mapP (.cons p0 prs) fun q vs h => ⟨B _ _ ?_ ?_ h.1, h.2⟩⟩
    · exact ne_of ha S.o (by intro z; cases z)
    · exact ne_of ha S.c (by intro z; cases z)
    · exact ne_of hqa S.o (by intro z; cases z)
    · refine ne_of hqa S.c (fun z => ?_)
      have z := HO.lst.inj z
      cases cs <;> cases z
    · refine ne_of hra S.o (fun z => ?_)
      have z := HO.lst.inj z
      cases ps <;> cases z
    · refine ne_of hra S.c (fun z => ?_)
      have z := HO.lst.inj z
      cases cs <;> cases z
    · exact ne_of h.1 S.o (by intro z; cases z)
    · exact ne_of h.1 S.c (by intro z; cases z)
theorem strs_shape : ∀ ks : List Str, (∀ k ∈ ks, PyData.strOk k = true) → PyData.canLayAll0 (ks.map PyData.str) = true ∧ PyData.depthAll (ks.map PyData.str) = 0
  | [], _ => ⟨by simp [PyData.canLayAll0], by simp [PyData.depthAll]⟩
  | b :: bs, h => by
    obtain ⟨h1, h2⟩ := strs_shape bs fun k hk => h k (List.mem_cons_of_mem _ hk)
    have h3 := h b List.mem_cons_self
    exact ⟨by simp [PyData.canLayAll0, PyData.canLay0, h1, h3], by simp [PyData.depthAll, PyData.depth, h2]⟩
theorem strs_shaped (ks : List Str) (h : ∀ k ∈ ks, PyData.strOk k = true) : SeqAt.shaped (.list (ks.map PyData.str)) = true := by
  obtain ⟨h1, h2⟩ := strs_shape ks h
  unfold SeqAt.shaped
  simp [PyData.canLay0, PyData.depth, h1, h2]
theorem strs_eqvAll : ∀ a b : List Str, PyData.eqvAll (a.map PyData.str) (b.map PyData.str) = decide (a = b)
  | [], [] => by simp [PyData.eqvAll]
  | [], _ :: _ => by simp [PyData.eqvAll]
  | _ :: _, [] => by simp [PyData.eqvAll]
  | x :: a, y :: b => by
    rw [List.map_cons, List.map_cons, PyData.eqvAll, strs_eqvAll a b, PyData.eqv]
    by_cases h1 : x = y
    · by_cases h2 : a = b <;> simp [h1, h2]
    · simp [h1]
theorem strs_eqv (a b : List Str) : PyData.eqv (.list (a.map PyData.str)) (.list (b.map PyData.str)) = decide (a = b) := by rw [PyData.eqv, strs_eqvAll]
theorem dp_strs {K : PySem.W.Frag} {H : Hp} : ∀ cs : List Str, DpAll K H (cs.map V.str) (cs.map PyData.str)
  | [] => .nil
  | c :: cs => .cons (.str c) (dp_strs cs)
theorem dp_list {K : PySem.W.Frag} {H : Hp} {a : Addr} {cs : List Str} (h : H a = some (.lst (cs.map V.str))) : Dp K H (.ref a) (.list (cs.map PyData.str)) := .lst (SqL.of h) (dp_strs cs)
theorem dk_av {ns : List Str} {vs : List Int} {x : Str} (nd : ns.Nodup) (hl : vs.length = ns.length) (xin : x ∈ ns) : valV (dk ns vs) (Sum.inr x) = some (.int (av ns vs x)) := by
  have lt : idx ns x < ns.length := List.idxOf_lt_length_of_mem xin
  have e1 : ns[idx ns x]? = some x := by
    rw [List.getElem?_eq_getElem lt]
    exact congrArg some (List.getElem_idxOf lt)
  have e2 : vs[idx ns x]? = some (av ns vs x) := by
    unfold av
    rw [List.getD_eq_getElem?_getD, List.getElem?_eq_getElem (by omega)]
    rfl
  have edk : (dk ns vs)[idx ns x]? = some (Sum.inr x, V.int (av ns vs x)) := by
    unfold dk
    rw [List.getElem?_map, List.getElem?_zip_eq_some.mpr (show ns[idx ns x]? = some (x, av ns vs x).1 ∧ vs[idx ns x]? = some (x, av ns vs x).2 from ⟨e1, e2⟩)]
    rfl
  obtain ⟨z', n', q1, q2, _, hv⟩ := dk_at edk nd hl.symm
  obtain rfl := Sum.inr.inj q1
  obtain rfl := V.int.inj q2
  exact hv
theorem nm_strOk {x : Str} (h : NmOk x) : PyData.strOk x = true := by
  unfold PyData.strOk
  rw [← Array.all_toList, List.all_eq_true]
  intro c hc
  have z : ∀ c ∈ signsL, c < 0x110000 := by decide +kernel
  exact decide_eq_true (z c (h.2.2 c hc))
theorem strs_of : ∀ ys : List V, (∀ y ∈ ys, ∃ x, y = V.str x) → ∃ ks : List Str, ys = ks.map V.str
  | [], _ => ⟨[], rfl⟩
  | y :: ys, h => by
    obtain ⟨x, rfl⟩ := h y List.mem_cons_self
    obtain ⟨ks, rfl⟩ := strs_of ys fun z hz => h z (List.mem_cons_of_mem _ hz)
    exact ⟨x :: ks, rfl⟩
end L2.TB
namespace L2.TB
open PySem PySem.Spec PyProof.Rows
/-! len, + and the answers at hand -/
/-- a table's facts besides -/
structure Wide (ns : List Str) (tbl : List (List Int)) : Prop where
  nd : ns.Nodup
  ne : ns ≠ []
  ok : ∀ x ∈ ns, NmOk x
  l1 : ns.length ≤ 10
  l2 : tbl.length ≤ 100
  t : tbl ≠ []
def spLen (C : Addr) : Sp := fun vs H Q _ => ∃ (a : Addr) (ns : List Str) (tbl : List (List Int)), vs = [.ref a] ∧ TabAt H C a ns tbl ∧ tbl.length < 1000 ∧ Q (.int tbl.length) H
def spAdd (C : Addr) : Sp := fun vs H Q _ => ∃ (a b : Addr) (ns : List Str) (t1 t2 : List (List Int)), vs = [.ref a, .ref b] ∧ TabAt H C a ns t1 ∧ TabAt H C b ns t2 ∧ Wide ns t1 ∧ t2.length ≤ 100 ∧
  ∀ H' c, H c = none → TabAt H' C c ns (t1 ++ t2) → Same H H' → Q (.ref c) H'
theorem scLen : FnScope ["self"] ["self"] (defScope sLen) := ⟨rfl, rfl, rfl, by decide +kernel, rfl, by decide +kernel, by decide +kernel⟩
theorem scAdd : FnScope ["self", "other"] ["self", "other"] (defScope sAdd) := ⟨rfl, rfl, rfl, by decide +kernel, rfl, by decide +kernel, by decide +kernel⟩
theorem paired_append {α β : Type} {R : α → β → Prop} : ∀ {xs xs' : List α} {ys ys' : List β}, Paired R xs ys → Paired R xs' ys' → Paired R (xs ++ xs') (ys ++ ys')
  | _, _, _, _, .nil, h => h
  | _, _, _, _, .cons h t, h' => .cons h (paired_append t h')
theorem DRows.append {H : Hp} {ns : List Str} {as bs : List Addr} {t1 t2 : List (List Int)} (r1 : DRows H ns as t1) (r2 : DRows H ns bs t2) : DRows H ns (as ++ bs) (t1 ++ t2) := paired_append r1 r2
section
variable {P : Program} {w : World} {K : PySem.W.Frag} {mg : Str → Option Value} {base : Heap} {f C fQ fI fR fD fO fG : Addr} {fd fdQ fdI fdR fdD fdO fdG : FuncData}
theorem ok_len (F : Fun K "__len__" "Table.__len__" sLen f fd) (T : TabC K C) (gN : mg "len" = none) : FnOk P w K mg base CX0 1 f fd ["self"] (spLen C) := by
  refine F.ok scLen (fun vs H Q E h => by obtain ⟨a, ns, tbl, e, _⟩ := h; rw [e]; rfl) fun cdv A outer s H vs Q E hr hsp => ?_
  obtain ⟨a, ns, tbl, rfl, tab, tsh, hq⟩ := hsp
  obtain ⟨dx, qa, ra, ha, hqa, ps, hps, prs⟩ := tab.ex
  refine ⟨_, pss_one (ps_ret (pe_callB call_len_seq rfl gN boot_len (pa_cons (pe_fld (pv 0) rfl) pa_nil))), ?_⟩
  refine ⟨_, rfl, a, C, dx, _, _, rfl, ha, T.cl, T.nR, rfl, ra, _, rfl, .inl (SqL.of hps), ?_⟩
  rw [List.length_map, Paired.length prs]
  exact hq
theorem ok_add (F : Fun K "__add__" "Table.__add__" sAdd f fd) (T : TabC K C) (IC : C8.InsC K C) (FQ : Fun K "questions" "Table.questions" sQs fQ fdQ) (mQ : Meth K C "questions" fQ) (GR : FnOk P w K mg base CX0 2 fR fdR ["self"] (spRowsM C)) (FR : Fun K "rows" "Table.rows" sRowsM fR fdR) (mR : Meth K C "rows" fR)
    (M : Mk K C fI) (GI : FnOk P w K mg base CX0 3 fI fdI ["self", "rows"] (spInit C)) (FI : Fun K "__init__" "Table.__init__" sInit fI fdI) (gC : mg "Table" = some (.ref C)) (gI : mg "isinstance" = none) (gL : mg "list" = none) : FnOk P w K mg base CX0 5 f fd ["self", "other"] (spAdd C) := by
  have GQ : FnOk P w K mg base CX0 1 fQ fdQ ["self"] (spQs K C) := ok_qs FQ T gL
  have bQ := FQ.binds (ps := ["self"]) fun _ _ _ _ _ _ us hl => match us, hl with | [_], _ => rfl
  have bR := FR.binds (ps := ["self"]) fun _ _ _ _ _ _ us hl => match us, hl with | [_], _ => rfl
  have bI := FI.binds (ps := ["self", "rows"]) fun _ _ _ _ _ _ us hl => match us, hl with | [_, _], _ => rfl
  refine F.ok scAdd (fun vs H Q E h => by obtain ⟨a, b, ns, t1, t2, e, _⟩ := h; rw [e]; rfl) fun cdv A outer s H vs Q E hr hsp => ?_
  obtain ⟨a, b, ns, t1, t2, rfl, ta, tb, W, l2, hq⟩ := hsp
  obtain ⟨dx, qa, ra, ha, hqa, hra⟩ := id ta.ex
  obtain ⟨dy, qb, rb, hb, hqb, hrb⟩ := id tb.ex
  have hu64 := hr.units
  refine ⟨_, pss_cons (ps_if (pt_not (pt_val (pe_callB (C8.call_isC IC) rfl gI boot_isi (pa_cons (pv 1) (pa_cons (pe_glob (v := .ref C) rfl gC rfl) pa_nil))))) (pss_one ps_never) pss_nil)
    (pss_cons (ps_if (pt_cmpR (op_neD hu64) (pe_meth0 (pv 0) T.cl mQ GQ (hr.mono (by decide)) bQ .nil pass0) (pe_meth0 (pv 1) T.cl mQ GQ (hr.mono (by decide)) bQ .nil pass0) (nomark _)) (pss_one ps_never) pss_nil)
    (pss_one (ps_ret (pe_make M GI hr rfl gC bI .nil pass0 (pa_cons (pe_op op_cat (pe_meth0 (pv 0) T.cl mR GR (hr.mono (by decide)) bR .nil pass0) (pe_meth0 (pv 1) T.cl mR GR (hr.mono (by decide)) bR .nil pass0)) pa_nil))))), ?_⟩
  refine ⟨_, rfl, b, dy, _, rfl, hb, _, rfl, iteF ?_⟩
  refine ⟨_, rfl, a, dx, _, rfl, ha, rfl, a, ns, t1, rfl, ta, fun H1 q1 n1 o1 k1 => ?_⟩
  refine ⟨_, rfl, b, dy, _, rfl, k1 _ _ hb, rfl, b, ns, t2, rfl, tb.same k1, fun H2 q2 n2 o2 k2 => ?_⟩
  have tok : ∀ x ∈ ns, PyData.strOk x = true := fun x hx => nm_strOk (W.ok x hx)
  refine ⟨_, _, dp_list (k2 _ _ o1), dp_list o2, strs_shaped _ tok, strs_shaped _ tok, _, rfl, ?_⟩
  rw [strs_eqv, decide_eq_true rfl]
  refine iteF ?_
  have k12 := k1.trans k2
  have w1 := W.l1
  have w2 := W.l2
  refine ⟨_, rfl, a, dx, _, rfl, k12 _ _ ha, rfl, a, ns, t1, rfl, ta.same k12, W.nd, by omega, by omega, fun H3 r1 as nr1 or1 d1 _ k3 => ?_⟩
  refine ⟨_, rfl, b, dy, _, rfl, k3 _ _ (k12 _ _ hb), rfl, b, ns, t2, rfl, (tb.same k12).same k3, W.nd, by omega, by omega, fun H4 r2 bs nr2 or2 d2 _ k4 => ?_⟩
  have la := Paired.length d1
  have lb := Paired.length d2
  refine ⟨r1, r2, _, _, rfl, rfl, k4 _ _ or1, or2, by rw [sizeLine_eq, List.length_map, List.length_map]; omega, fun p np => ?_⟩
  have kp := same_new (o := .lst (as.map V.ref ++ bs.map V.ref)) np
  have op : upd H4 p (.lst (as.map V.ref ++ bs.map V.ref)) p = some (.lst ((as ++ bs).map V.ref)) := by rw [upd_same, List.map_append]
  have dd : DRows (upd H4 p (.lst (as.map V.ref ++ bs.map V.ref))) ns (as ++ bs) (t1 ++ t2) := ((d1.same k4).append d2).same kp
  have k5 : Same H (upd H4 p (.lst (as.map V.ref ++ bs.map V.ref))) := ((k12.trans k3).trans k4).trans kp
  generalize upd H4 p (.lst (as.map V.ref ++ bs.map V.ref)) = H5 at op dd k5
  refine fun x dx nx ndx nex => ?_
  have kx : Same H5 (upd (upd H5 dx (.own x)) x (.ins C dx [])) := fun b o e => by rw [upd_ne (ne_of_none e nx), upd_ne (ne_of_none e ndx)]; exact e
  refine ⟨x, dx, p, as ++ bs, ns, t1 ++ t2, rfl, upd_same, kx _ _ op, dd.same kx, by simp [W.t], by rw [List.length_append]; omega, W.ne, W.nd, W.ok, by omega, fun H6 T6 fr => ⟨rfl, ?_⟩⟩
  exact hq H6 x (k5.free nx) T6 fun b o e => fr b o (ne_of_none (k5 _ _ e) nx) (kx _ _ (k5 _ _ e))
/-! the answers at hand -/
def gvn (ns known : List Str) (us : List Int) : List (Key × V) := known.map fun x => ((Sum.inr x : Key), V.int (av ns us x))
theorem gvn_keys (ns known : List Str) (us : List Int) : (gvn ns known us).map (·.1) = known.map Sum.inr := by unfold gvn; rw [List.map_map]; rfl
theorem gvn_nd {ns known : List Str} {us : List Int} (nd : known.Nodup) : ((gvn ns known us).map (·.1)).Nodup := by
  rw [gvn_keys]
  exact List.Pairwise.map Sum.inr (fun a b h e => h (Sum.inr.inj e)) nd
theorem val_at : ∀ (kvs : List (Key × V)) (k : Key) (v : V), (kvs.map (·.1)).Nodup → (k, v) ∈ kvs → valV kvs k = some v
  | [], _, _, _, h => by cases h
  | q :: kvs, k, v, nk, mem => by
    unfold valV
    rw [List.find?_cons]
    by_cases hq : q.1 = k
    · rw [decide_eq_true hq]
      rcases List.mem_cons.mp mem with z | z
      · rw [← z]; rfl
      · exfalso
        rw [List.map_cons, List.nodup_cons] at nk
        exact nk.1 (hq ▸ List.mem_map_of_mem (f := (·.1)) z)
    · rw [decide_eq_false hq]
      rcases List.mem_cons.mp mem with z | z
      · exact absurd (by rw [← z]) hq
      · rw [List.map_cons, List.nodup_cons] at nk
        exact val_at kvs k v nk.2 z
theorem gvn_val {ns known : List Str} {us : List Int} {x : Str} (nd : known.Nodup) (h : x ∈ known) : valV (gvn ns known us) (Sum.inr x) = some (.int (av ns us x)) :=
  val_at _ _ _ (gvn_nd nd) (List.mem_map_of_mem (f := fun x => ((Sum.inr x : Key), V.int (av ns us x))) h)
theorem gvn_at {ns known : List Str} {us : List Int} {i : Nat} {k : Key} {v : V} (nd : known.Nodup) (h : (gvn ns known us)[i]? = some (k, v)) : ∃ x, k = Sum.inr x ∧ known[i]? = some x ∧ valV (gvn ns known us) (Sum.inr x) = some (.int (av ns us x)) := by
  have h2 := h
  unfold gvn at h2
  rw [List.getElem?_map] at h2
  obtain ⟨x, ex, e⟩ := Option.map_eq_some_iff.mp h2
  cases e
  exact ⟨x, rfl, ex, gvn_val nd (List.mem_of_getElem? ex)⟩
theorem gvn_len (ns known : List Str) (us : List Int) : (gvn ns known us).length = known.length := by unfold gvn; rw [List.length_map]
def spCkAns (C : Addr) : Sp := fun vs H Q _ => ∃ (a g : Addr) (ns known : List Str) (us : List Int) (tbl : List (List Int)), vs = [.ref a, .ref g] ∧ TabAt H C a ns tbl ∧ H g = some (.dK (gvn ns known us)) ∧ known.Nodup ∧ (∀ x ∈ known, x ∈ ns) ∧ known.length < 1000 ∧ ∀ H', Same H H' → Q .non H'
abbrev NCa : List Str := ["self", "thing", "name"]
theorem scCkAns : FnScope NCa ["self", "thing"] (defScope sCkAns) := ⟨rfl, rfl, rfl, by decide +kernel, rfl, by decide +kernel, by decide +kernel⟩
theorem ok_ckAns (F : Fun K "_check_answers" "Table._check_answers" sCkAns f fd) (T : TabC K C) (FO : Fun K "is_one_of" "is_one_of" sIsOne fO fdO) (gIO : mg "is_one_of" = some (.ref fO)) (FG : Fun K "is_integer" "is_integer" sIsInt fG fdG) (gIG : mg "is_integer" = some (.ref fG))
    (gI : mg "isinstance" = none) (gD : mg "dict" = none) (gA : mg "all" = none) (gS : mg "str" = none) (gInt : mg "int" = none) (gB : mg "bool" = none) : FnOk P w K mg base CX0 2 f fd ["self", "thing"] (spCkAns C) := by
  have GO : FnOk P w K mg base CX0 1 fO fdO ["names", "thing"] (spIsOne K) := ok_isOne FO gI gS
  have bO := FO.binds (ps := ["names", "thing"]) fun _ _ _ _ _ _ us hl => match us, hl with | [_, _], _ => rfl
  have GG : FnOk P w K mg base CX0 1 fG fdG ["thing"] spIsInt := ok_isInt FG gI gInt gB
  have bG := FG.binds (ps := ["thing"]) fun _ _ _ _ _ _ us hl => match us, hl with | [_], _ => rfl
  refine F.ok scCkAns (fun vs H Q E h => by obtain ⟨a, g, ns, known, us, tbl, e, _⟩ := h; rw [e]; rfl) fun cdv A outer s H vs Q E hr hsp => ?_
  obtain ⟨a, g, ns, known, us, tbl, rfl, tab, og, knd, sub, ksh, hq⟩ := hsp
  obtain ⟨dx, qa, ra, ha, hqa, hra⟩ := id tab.ex
  have nd := scCkAns.nd
  have hu := hu_of hr
  refine ⟨_, pss_cons (ps_if (pt_not (pt_val (pe_callB (r := rIsi K) call_isi rfl gI boot_isi (pa_cons (pv 1) (pa_cons (pe_bltn (v := .ty "dict") rfl gD boot_dict' rfl) pa_nil))))) (pss_one ps_never) pss_nil)
    (pss_one (ps_if (pt_not (pt_val (pe_callB (cr_all rfl) rfl gA boot_all' (pa_cons (pe_lock (pe_lc (own := [("name", 2)]) (tt := tYes) (g := gName 2) (wi := iKeys (tVar 1)) (te := tAndV (tCall (spIsOne K) [] E0 (tCons (tFld K (tVar 0) "_questions") (tCons (tVar 2) tNil))) (tCall spIsInt [] E0 (tCons (tDGet (tVar 1) (tVar 2)) tNil))) rfl nd (pi_keys (pv 1)) (blkOk_by (N := NCa) (sc := defScope sCkAns) (by decide +kernel)) (fun _ _ _ _ _ => pg_name (i := 2) nd rfl (Or.inl rfl)) (fun _ _ _ _ _ => pts_nil)
      (fun _ _ _ _ _ => pe_and (pe_call GO hr rfl gIO FO.kp bO .nil pass0 (pa_cons (pe_fld (pv 0) rfl) (pa_cons (pv 2) pa_nil))) (pe_one (pe_call GG hr rfl gIG FG.kp bG .nil pass0 (pa_cons (pe_dget hu (pv 1) (pv 2) (fun _ _ => rfl)) pa_nil)))))) pa_nil)))) (pss_one ps_never) pss_nil)), ?_⟩
  refine ⟨_, rfl, _, _, _, _, true, rfl, .ty _, .base (.dK og), kit_ty (by decide +kernel), _, rfl, iteF ?_⟩
  have ga : a ≠ g := ne_of ha og (by intro z; cases z)
  have gq : qa ≠ g := ne_of hqa og (by intro z; cases z)
  refine ⟨g, _, og, trivial, fun od => ⟨_, rfl, g, od, rfl, .inl ⟨_, upd_same, lc_gen (bools known.length) (by rw [bools_len]; omega) (fun j H' s lt => ⟨s _ _ upd_same, by rw [gvn_len]; rw [bools_len] at lt; exact lt⟩) (fun H' s => ⟨s _ _ upd_same, by rw [gvn_len, bools_len]; exact Nat.le_refl _⟩) ?_ ?_⟩⟩⟩
  · rintro j v y H4 H5 Cn Nn ey s4 ⟨rfl, k, w', ek, rfl⟩ yes
    obtain ⟨rfl, lt⟩ := bools_at ey
    obtain ⟨x, rfl, ex, hv⟩ := gvn_at knd ek
    have xin := sub x (List.mem_of_getElem? ex)
    refine ⟨rfl, ?_⟩
    refine ⟨_, rfl, a, C, dx, _, _, rfl, s4 _ _ (by rw [upd_ne ga]; exact ha), T.cl, T.nQ, rfl, _, rfl, qa, ns, x, rfl, SqL.of (s4 _ _ (by rw [upd_ne gq]; exact hqa)), _, rfl, ?_⟩
    rw [decide_eq_true xin]
    refine iteT ?_
    exact ⟨_, rfl, _, rfl, g, _, rfl, .inl ⟨_, Sum.inr x, .inr ⟨_, s4 _ _ upd_same⟩, rfl, hv.symm⟩, _, rfl, yes _ (Same.refl _)⟩
  · intro H4 D nD oD s4
    obtain ⟨b1, s34⟩ := lock_off og s4
    have Da : D ≠ g := fun z => by rw [z, upd_same] at nD; cases nD
    rw [bools_map] at oD
    refine ⟨b1, D, _, rfl, SqL.of (by rw [upd_ne Da]; exact oD), _, rfl, ?_⟩
    rw [all_true]
    exact iteF (hq _ s34)
end
end L2.TB
namespace L2.TB
open PySem
open PySem.Spec PyProof.Rows PpSet
/-! {elt for target in iter if ..}: elements of any kind, by what set.add asks of them -/
abbrev newSetObj (w : World) : Obj := { cls := .type "set", dict := none, data := .set #[] 0 (.fresh 0 0 (!w.params.followText "set-order")) }
/-- a kind of set: the new one's record, and what adding asks and leaves -/
structure Kind (P : Program) (w : World) where
  rec0 : Addr → HO
  asks : Addr → V → Hp → (Hp → Prop) → Prop
  new : ∀ (H : Hp) (h : Heap), ObjOk P w H (h.push (newSetObj w)) h.objs.size (rec0 h.objs.size)
  add : ∀ (X : Cx) (pins : List (Addr × Obj)) (σ : L2.St) (H : Hp) (s : Shared) (E : Value → Shared → Prop) (D : Addr) (y : V) (u : Value) (N : Hp → Prop) (Q : Value → Shared → Prop), X.prog = P → X.w = w → Inv X pins σ H s → RelV y u → asks D y H N →
    (∀ v s' H', Inv X pins σ H' s' → N H' → Q v s') → wpAny (model P w) X.A (call (.builtin "set.add") [.ref D, u]) Q E s
/-- sets of whole numbers -/
def intSets (P : Program) (w : World) : Kind P w where
  rec0 D := SetO w D (fun _ => false) 0
  asks D y H N := ∃ (k : Int) (S : Int → Bool) (n : Nat), y = .int k ∧ H D = some (SetO w D S n) ∧ n + 1 < scanBound ∧ N (upd H D (SetO w D (fun j => S j || decide (j = k)) (if S k = true then n else n + 1)))
  new H h := setO_new (setR_fresh w)
  add := by
    rintro X pins σ H s E D y u N Q rfl rfl I rel ⟨k, S, n, rfl, isS, room, nxt⟩ fin
    obtain ⟨tk, rfl⟩ := rel
    refine setR_add (setO_get I isS) room fun h' but R => fin _ _ _ ?_ nxt
    have there : ∃ o, h'.get? D = some o := R.elim fun o r => r.elim fun _ r => r.elim fun _ r => r.elim fun _ r => ⟨o, r.1⟩
    exact I.write (e := D) (t' := s.toks + 1) (by rw [isS]; exact trivial) (.inl rfl) (fun b o away e => (but.2 b away).trans e) there (setO_new R)
/-- the reading -/
def tScG {P : Program} {w : World} (G : Kind P w) (wi : TI) (g : TG) (tt : TT) (te : TE) (vs : List Nat) : TE := fun σ H Q => wi σ H fun J H1 => ∀ D, H1 D = none →
  ∃ W : Nat → Nat → Hp → Prop, (∃ m, W 0 m (upd H1 D (G.rec0 D))) ∧ ∀ i m H, W i m H → (J.stop i H ∧ Q (.ref D) H) ∨ (J.go i H ∧ ∃ N : Hp → Prop, (∀ H', N H' → ∃ m', m' < m ∧ W (i + 1) m' H') ∧
    ∀ x H', J.yld i H x H' → g x (wipe σ vs) H' fun σ2 H2 => wipe σ2 vs = wipe σ vs ∧ tt σ2 H2 fun b H3 => if b = true then te σ2 H3 fun y H4 => G.asks D y H4 N else N H3)
theorem pe_scG {X : Cx} (G : Kind X.prog X.w) {elt tg iter : Expr} {ifs : List Expr} {scope : Scope} {own : List (PySem.Str × Nat)} {pos : Pos} {wi : TI} {g : TG} {tt : TT} {te : TE} (calm : X.calm = true) (nd : X.N.Nodup) (hi : PI X tg iter wi) (blk : BlkOk X.N X.env.scope scope own)
    (hg : ∀ (s : Shared) (H : Hp) (C : Addr) (cl : List (PySem.Str × Addr)) (fp : List Addr), PG (X.blk s H scope (compEnvC scope cl C X.env) fp) tg g)
    (ht : ∀ (s : Shared) (H : Hp) (C : Addr) (cl : List (PySem.Str × Addr)) (fp : List Addr), PTs (X.blk s H scope (compEnvC scope cl C X.env) fp) ifs tt)
    (he : ∀ (s : Shared) (H : Hp) (C : Addr) (cl : List (PySem.Str × Addr)) (fp : List Addr), PE (X.blk s H scope (compEnvC scope cl C X.env) fp) elt te)
    (fold : ∀ x, foldedSetIterable iter X.env x = pure x := by intro _; rfl) : PE X (.SetComp elt [⟨tg, iter, ifs, 0⟩] scope pos) (tScG G wi g tt te (own.map (·.2))) := by
  refine PE.mk fun pins s σ H Q I reading => ?_
  rw [eval_SetComp]
  have cellsThere : ∀ y ∈ scope.names, y.2 = .free → ∃ c, X.env.cells.lookup y.1 = some c := fun y hy e => I.ok.has _ (blk.free y hy e)
  refine wpAny_comprehension_free (use := none) rfl fold (closure_ok cellsThere) blk.kind (fun y hy e => e ▸ blk.uniq y hy) (thn (hi.run pins s σ H _ I reading) fun xv s1 hx => thn hx fun itv s2 walk => ?_)
  obtain ⟨it, fp, tn, J, H2, rfl, I2, T, tn2, room2, more⟩ := walk
  refine newSet_ok (newEnv_comp ?_)
  obtain ⟨D, isD⟩ : ∃ D, D = s2.heap.objs.size := ⟨_, rfl⟩
  have noD : H2 D = none := I2.hok.fresh (Nat.le_of_eq isD.symm)
  obtain ⟨W, ⟨m0, W0⟩, turn⟩ := more D noD
  obtain ⟨s3, isS3⟩ : ∃ s3 : Shared, s3 = { s2 with heap := s2.heap.push (newSetObj X.w) } := ⟨_, rfl⟩
  obtain ⟨H3, isH3⟩ : ∃ H3, H3 = upd H2 D (G.rec0 D) := ⟨_, rfl⟩
  have heap3 : s3.heap = s2.heap.push (newSetObj X.w) := by rw [isS3]
  have kept3 : ∀ b o, s2.heap.get? b = some o → s3.heap.get? b = some o := fun b o e => by rw [heap3]; exact Heap.get?_push_of_some _ e
  have I3 : Inv X pins σ H3 s3 := by
    rw [isS3, isH3]
    exact I2.laid (t' := s2.toks) (fun b o e => Heap.get?_push_of_some _ e) (Nat.le_of_eq isD.symm) (by subst isD; exact G.new _ _)
  have room3 : ∀ b ∈ fp, FpOk X pins H3 b ∧ b < s3.heap.objs.size := fun b hb => by
    have low : b < s2.heap.objs.size := (T.obj _ _ tn2 b hb).elim fun _ e => Heap.lt_size e.1
    refine ⟨⟨?_, (room2 b hb).2⟩, by rw [heap3, Heap.size_push]; exact Nat.lt_succ_of_lt low⟩
    rw [isH3, upd_ne (by rw [isD]; exact Nat.ne_of_lt low)]
    exact (room2 b hb).1
  have tn3 : tn 0 s3.heap := T.keep _ _ _ tn2 fun b _ o e => kept3 b o e
  have I4 := block_start I3 blk nd room3
  rw [← isS3, ← isD]
  rw [← isH3] at W0
  have pg := hg s3 H3 s3.heap.objs.size (cellsFrom (s3.heap.objs.size + 1) scope.names (cloFrom X.env.cells scope.names [])) fp
  have pt := ht s3 H3 s3.heap.objs.size (cellsFrom (s3.heap.objs.size + 1) scope.names (cloFrom X.env.cells scope.names [])) fp
  have pe := he s3 H3 s3.heap.objs.size (cellsFrom (s3.heap.objs.size + 1) scope.names (cloFrom X.env.cells scope.names [])) fp
  show codeAny _ _ (.compStart (.SetComp elt [⟨tg, iter, ifs, 0⟩] scope pos) 0 (.ref it) (.ref D) (compEnvC scope (cellsFrom (s3.heap.objs.size + 1) scope.names (cloFrom X.env.cells scope.names [])) s3.heap.objs.size X.env)) (compPost (model X.prog X.w) X.A X.xe none (EP X pins σ Q) (.ref D) s3.heap.objs.size) { s3 with heap := pushCells (s3.heap.push { cls := .type "dict", data := .dict #[] }) scope.names }
  obtain ⟨ce, isCe⟩ : ∃ ce, ce = compEnvC scope (cellsFrom (s3.heap.objs.size + 1) scope.names (cloFrom X.env.cells scope.names [])) s3.heap.objs.size X.env := ⟨_, rfl⟩
  have locs : ce.locals = s3.heap.objs.size := by rw [isCe]; rfl
  rw [← isCe] at I4 pg pt pe ⊢
  obtain ⟨s4, isS4⟩ : ∃ s4 : Shared, s4 = { s3 with heap := pushCells (s3.heap.push { cls := .type "dict", data := .dict #[] }) scope.names } := ⟨_, rfl⟩
  rw [← isS4] at I4 ⊢
  have tn4 : tn 0 s4.heap := T.keep _ _ _ tn3 fun b _ o e => by rw [isS4]; exact pushCells_keeps _ _ _ _ (Heap.get?_push_of_some _ e)
  have away : ∀ b ∈ fp, H3 b = none := fun b hb => (room3 b hb).1.1
  have roomB : ∀ {σ' : L2.St} {H' : Hp} {s' : Shared}, Inv (X.blk s3 H3 scope ce fp) [] σ' H' s' → (∀ b ∈ fp, H' b = none) → ∀ b ∈ fp, FpOk (X.blk s3 H3 scope ce fp) [] H' b := fun IB no b hb =>
    ⟨no b hb, (IB.ok.exf b hb).1, IB.ok.exfs b hb, .inl hb, fun x c e => (IB.ok.exf b hb).2 x c e, fun p hp => nomatch hp⟩
  have loop : codeAny (model X.prog X.w) X.A (.compLoop (.SetComp elt [⟨tg, iter, ifs, 0⟩] scope pos) 0 (.ref it) (.ref D) ce) (compPost (model X.prog X.w) X.A X.xe none (EP X pins σ Q) (.ref D) s3.heap.objs.size) s4 := by
    refine compLoopS_any (fun n z => ∃ i H', Inv (X.blk s3 H3 scope ce fp) [] (wipe σ (own.map (·.2))) H' z ∧ tn i z.heap ∧ (∀ b ∈ fp, H' b = none) ∧ W i n H') ?_ m0 ⟨0, H3, I4, tn4, away, W0⟩
    rintro n s5 ⟨i, H5, I5, tn5, no5, W5⟩
    rcases turn i n H5 W5 with ⟨stop, out⟩ | ⟨go, N, less, step⟩
    · refine thnF (T.done (X.blk s3 H3 scope ce fp) rfl rfl rfl calm i [] s5 _ H5 (fun _ _ => False) I5 (roomB I5 no5) tn5 stop) fun r s6 last => ?_
      obtain ⟨rfl, I6⟩ := last
      have back : Inv X pins σ H5 s6 := I3.call' (ch := fp) I6.os I6.base I6.hok I6.bare fun b hb => let ⟨_, q1, _, q3, q4, q5⟩ := (room3 b hb).1; ⟨q3, q1, q4, q5⟩
      have noC : H5 s3.heap.objs.size = none := locs ▸ I6.free
      obtain ⟨m, isNs, _⟩ := I6.loc
      have isNs : s6.heap.Ns s3.heap.objs.size m := locs ▸ isNs
      obtain ⟨q0, q1, q2, q3, q4, q5⟩ := I3.fpOk (Nat.le_refl _) noC
      exact ⟨m, isNs, fun h'' but => ⟨.ref D, H5, back.turned (t' := s6.toks) (fun b o hb e => (but.2 b hb).trans e) q0 q1 q3 q4 q5, rfl, out⟩⟩
    · refine thnF (T.item (X.blk s3 H3 scope ce fp) rfl rfl rfl calm i [] s5 _ H5 (fun _ _ => False) I5 (roomB I5 no5) tn5 go) fun r s6 got => ?_
      obtain ⟨u, rfl, got⟩ := got
      refine thnF got fun _ s7 ⟨x, H7, I7, relX, yld, tn7, no7⟩ => ?_
      have I7p := I7.pinned (roomB I7 no7) (T.obj _ _ tn7)
      refine thnF (pg.run _ s7 _ H7 x u _ I7p relX (step x H7 yld)) fun _ s8 ⟨σ8, H8, I8, same8, q8⟩ => ?_
      refine thnF (pt.run _ s8 σ8 H8 _ I8 q8) fun b s9 ⟨H9, I9, q9⟩ => ?_
      have next : ∀ {z : Shared} {H' : Hp}, Inv (X.blk s3 H3 scope ce fp) ([] ++ pinsAt fp s7.heap) σ8 H' z → N H' → ∃ m, m < n ∧ ∃ i H', Inv (X.blk s3 H3 scope ce fp) [] (wipe σ (own.map (·.2))) H' z ∧ tn i z.heap ∧ (∀ b ∈ fp, H' b = none) ∧ W i m H' := by
        intro z H' I' nx
        obtain ⟨m', lt, w'⟩ := less H' nx
        have pin : ∀ b ∈ fp, ∀ o, s7.heap.get? b = some o → z.heap.get? b = some o ∧ H' b = none := fun b hb o e =>
          have q := I'.pin (b, o) (List.mem_append_right _ (List.mem_append_right _ (mem_pinsAt hb e)))
          ⟨q.1, q.2.1⟩
        refine ⟨m', lt, i + 1, H', (I'.unpinned (pins := [])).weak (by rw [← same8, wipe_length]) (fun j v e => (wipe_some (same8 ▸ e)).1), T.keep _ _ _ tn7 (fun b hb o e => (pin b hb o e).1), fun b hb => ?_, w'⟩
        exact (T.obj _ _ tn7 b hb).elim fun o e => (pin b hb o e.1).2
      cases b with
      | false =>
        simp only [Bool.false_eq_true, if_false] at q9 ⊢
        exact next I9 q9
      | true =>
        simp only [if_true] at q9 ⊢
        refine thnF (pe.run _ s9 σ8 H9 _ I9 q9) fun v s10 ⟨y, H10, I10, relY, put⟩ => ?_
        exact G.add (X.blk s3 H3 scope ce fp) _ _ _ _ _ D y v N _ rfl rfl I10 relY put fun _ s11 H11 I11 nx => next I11 nx
  exact codeAny_compStart_set loop (T.self X.A 0 _ _ _ tn4 loop)
end L2.TB
namespace L2.TB
open PySem PySem.Spec PyProof.Rows
/-! rows that are left -/
theorem lc_genO {J : It} {g : TG} {tt : TT} {te : TE} {vs : List Nat} {σ : St} {H1 : Hp} {Q : Addr → Hp → Prop} (ys : List (Option V)) (short : ys.length < 1000000) (go : ∀ i H, Same H1 H → i < ys.length → J.go i H) (stop : ∀ H, Same H1 H → J.stop ys.length H)
    (turn : ∀ (i : Nat) (x : V) (o : Option V) (H H' : Hp) (C : V → Hp → Prop) (N : Hp → Prop), ys[i]? = some o → Same H1 H → J.yld i H x H' → (∀ y, o = some y → ∀ H4, Same H H4 → C y H4) → (o = none → ∀ H4, Same H H4 → N H4) →
      g x (wipe σ vs) H' fun σ2 H2 => wipe σ2 vs = wipe σ vs ∧ tt σ2 H2 fun b H3 => if b = true then te σ2 H3 C else N H3)
    (fin : ∀ H D, H1 D = none → H D = some (.lst (ys.filterMap id)) → Same H1 H → Q D H) : LcW J g tt te vs σ H1 Q := by
  intro D nD
  refine ⟨fun i m H => m = ys.length - i ∧ i ≤ ys.length ∧ H D = some (.lst ((ys.take i).filterMap id)) ∧ Same H1 H, ⟨_, rfl, Nat.zero_le _, upd_same, same_new nD⟩, ?_⟩
  rintro i m H ⟨rfl, le, oD, s1⟩
  by_cases lt : i < ys.length
  · refine .inr ⟨go i H s1 lt, fun H' => H' D = some (.lst ((ys.take (i + 1)).filterMap id)) ∧ Same H1 H', fun H' h => ⟨ys.length - (i + 1), by omega, rfl, lt, h⟩, fun x H' yl => ?_⟩
    have ey : ys[i]? = some ys[i] := List.getElem?_eq_getElem lt
    have et : ys.take (i + 1) = ys.take i ++ [ys[i]] := by rw [List.take_succ, ey]; rfl
    refine turn i x ys[i] H H' _ _ ey s1 yl (fun y e H4 s4 => ⟨_, s4 _ _ oD, ?_, ?_, ?_⟩) fun e H4 s4 => ⟨?_, s1.trans s4⟩
    · rw [sizeLine_eq]
      have := List.length_filterMap_le id (ys.take i)
      rw [List.length_take] at this
      omega
    · rw [upd_same, et, List.filterMap_append, e]; rfl
    · intro b u e'
      rw [upd_ne (ne_of_none e' nD)]
      exact s4 _ _ (s1 _ _ e')
    · rw [et, List.filterMap_append, e]
      simpa using s4 _ _ oD
  · obtain rfl : i = ys.length := by omega
    rw [List.take_length] at oD
    exact .inl ⟨stop H s1, fin H D nD oD s1⟩
def agree (ns known : List Str) (us u : List Int) : Bool := decide (keyR ns known u = keyR ns known us)
def leftL (ns known : List Str) (us : List Int) (tbl : List (List Int)) : List Nat := (List.range tbl.length).filter fun i => agree ns known us (tbl.getD i [])
def leftO (ns known : List Str) (us : List Int) (tbl : List (List Int)) : List (Option V) := (List.range tbl.length).map fun i => if agree ns known us (tbl.getD i []) = true then some (V.int (i : Nat)) else none
theorem opt_list {α : Type} (f : α → Bool) (g : α → V) : ∀ l : List α, (l.map fun y => if f y = true then some (g y) else none).filterMap id = (l.filter f).map g
  | [] => rfl
  | a :: l => by
    have ih := opt_list f g l
    rw [List.map_cons, List.filter_cons]
    by_cases h : f a = true
    · rw [if_pos h, if_pos h, List.map_cons, ← ih]; rfl
    · rw [if_neg h, if_neg h, ← ih]; rfl
theorem left_list (ns known : List Str) (us : List Int) (tbl : List (List Int)) : (leftO ns known us tbl).filterMap id = (leftL ns known us tbl).map fun i => V.int (i : Nat) := opt_list _ _ _
theorem leftO_len (ns known : List Str) (us : List Int) (tbl : List (List Int)) : (leftO ns known us tbl).length = tbl.length := by unfold leftO; rw [List.length_map, List.length_range]
theorem leftO_at {ns known : List Str} {us : List Int} {tbl : List (List Int)} {i : Nat} {o : Option V} (h : (leftO ns known us tbl)[i]? = some o) : ∃ u, tbl[i]? = some u ∧ o = if agree ns known us u = true then some (V.int (i : Nat)) else none := by
  unfold leftO at h
  rw [List.getElem?_map] at h
  obtain ⟨j, ej, e⟩ := Option.map_eq_some_iff.mp h
  have lt : i < tbl.length := by
    have := (List.getElem?_eq_some_iff.mp ej).1
    simpa using this
  have ji : j = i := by
    rw [List.getElem?_range lt] at ej
    exact (Option.some.inj ej).symm
  subst ji
  refine ⟨tbl[j], List.getElem?_eq_getElem lt, ?_⟩
  rw [← e, List.getD_eq_getElem?_getD, List.getElem?_eq_getElem lt]
  rfl
theorem left_mem {ns known : List Str} {us : List Int} {tbl : List (List Int)} {i : Nat} : i ∈ leftL ns known us tbl ↔ ∃ u, tbl[i]? = some u ∧ keyR ns known u = keyR ns known us := by
  unfold leftL agree
  rw [List.mem_filter, List.mem_range, decide_eq_true_eq, List.getD_eq_getElem?_getD]
  constructor
  · rintro ⟨lt, e⟩
    refine ⟨tbl[i], List.getElem?_eq_getElem lt, ?_⟩
    rw [List.getElem?_eq_getElem lt] at e
    exact e
  · rintro ⟨u, eu, e⟩
    refine ⟨(List.getElem?_eq_some_iff.mp eu).1, ?_⟩
    rw [eu]
    exact e
theorem all_agree (ns known : List Str) (us u : List Int) : (known.map fun x => decide (av ns u x = av ns us x)).all id = agree ns known us u := by
  unfold agree keyR
  rw [Bool.eq_iff_iff, List.all_map, List.all_eq_true, decide_eq_true_eq, List.map_inj_left]
  constructor
  · intro h x hx
    exact of_decide_eq_true (h x hx)
  · intro h x hx
    exact decide_eq_true (h x hx)
def spLeft (C : Addr) : Sp := fun vs H Q _ => ∃ (a g : Addr) (ns known : List Str) (us : List Int) (tbl : List (List Int)), vs = [.ref a, .ref g] ∧ TabAt H C a ns tbl ∧ Wide ns tbl ∧ H g = some (.dK (gvn ns known us)) ∧ known.Nodup ∧ (∀ x ∈ known, x ∈ ns) ∧
  ∀ H' q, H q = none → H' q = some (.lst ((leftL ns known us tbl).map fun i => V.int (i : Nat))) → Same H H' → Q (.ref q) H'
abbrev NLe : List Str := ["self", "answers", "index", "row", "name"]
theorem scLeft : FnScope NLe ["self", "answers"] (defScope sLeft) := ⟨rfl, rfl, rfl, by decide +kernel, rfl, by decide +kernel, by decide +kernel⟩
abbrev scLe : Scope := { kind := ScopeKind.function, names := [(Str.ofString ".0", NameKind.local), (Str.ofString "index", NameKind.local), (Str.ofString "row", NameKind.cell), (Str.ofString "all", NameKind.globalImplicit), (Str.ofString "answers", NameKind.cell)], isGenerator := false, isCoroutine := false }
theorem nodup_short {known ns : List Str} (nd : known.Nodup) (sub : ∀ x ∈ known, x ∈ ns) : known.length ≤ ns.length := by
  have h := List.Nodup.length_le_of_subset nd (fun x hx => sub x hx)
  exact h
theorem dk_len {ns : List Str} {us : List Int} (h : us.length = ns.length) : (dk ns us).length = ns.length := by
  unfold dk
  rw [List.length_map, List.length_zip]; omega
section
variable {P : Program} {w : World} {K : PySem.W.Frag} {mg : Str → Option Value} {base : Heap} {f C fR fA fL fK : Addr} {fd fdR fdA fdL fdK : FuncData}
theorem ok_left (F : Fun K "left" "Table.left" sLeft f fd) (T : TabC K C) (GR : FnOk P w K mg base CX0 2 fR fdR ["self"] (spRowsM C)) (FR : Fun K "rows" "Table.rows" sRowsM fR fdR) (mR : Meth K C "rows" fR)
    (GA : FnOk P w K mg base CX0 2 fA fdA ["self", "thing"] (spCkAns C)) (FA : Fun K "_check_answers" "Table._check_answers" sCkAns fA fdA) (mA : Meth K C "_check_answers" fA) (gE : mg "enumerate" = none) (gA : mg "all" = none) : FnOk P w K mg base CX0 3 f fd ["self", "answers"] (spLeft C) := by
  have bR := FR.binds (ps := ["self"]) fun _ _ _ _ _ _ us hl => match us, hl with | [_], _ => rfl
  have bA := FA.binds (ps := ["self", "thing"]) fun _ _ _ _ _ _ us hl => match us, hl with | [_, _], _ => rfl
  refine F.ok scLeft (fun vs H Q E h => by obtain ⟨a, g, ns, known, us, tbl, e, _⟩ := h; rw [e]; rfl) fun cdv A outer s H vs Q E hr hsp => ?_
  obtain ⟨a, g, ns, known, us, tbl, rfl, tab, W, og, knd, sub, hq⟩ := hsp
  obtain ⟨dx, qa, ra, ha, hqa, hra⟩ := id tab.ex
  have nd := scLeft.nd
  have hu := hu_of hr
  have w1 := W.l1
  have w2 := W.l2
  have kl : known.length ≤ ns.length := nodup_short knd sub
  refine ⟨_, pss_cons (ps_expr (pe_meth (pv 0) T.cl mA GA hr bA .nil pass0 (pa_cons (pv 1) pa_nil)))
    (pss_one (ps_ret (pe_lc (own := [("index", 2), ("row", 3)]) (te := tVar 2) (g := gTup K 2 (gCons (gName 2) (gCons (gName 3) gNil))) (tt := tB (tCB (rAll K) (tCons (tLockE (tLc (iKeys (tVar 1)) (gName 4) tYes (tOp rEq (tDGet (tVar 3) (tVar 4)) (tDGet (tVar 1) (tVar 4))) [4])) tNil))) rfl nd
      (pi_enum rfl gE (pa_cons (pe_meth0 (pv 0) T.cl mR GR hr bR .nil pass0) pa_nil)) (blkOk_by (N := NLe) (sc := defScope sLeft) (by decide +kernel))
      (fun _ _ _ _ _ => pg_tup rfl (pgs_cons (pg_name (i := 2) nd rfl (Or.inl rfl)) (pgs_cons (pg_name (i := 3) nd rfl (Or.inr rfl)) pgs_nil)))
      (fun _ _ _ _ _ => pts_one (pt_val (pe_callB (r := rAll K) (cr_all rfl) rfl gA boot_all' (pa_cons (pe_lock (pe_lc (own := [("name", 4)]) (g := gName 4) (wi := iKeys (tVar 1)) (tt := tYes) (te := tOp rEq (tDGet (tVar 3) (tVar 4)) (tDGet (tVar 1) (tVar 4))) rfl nd (pi_keys (pv 1)) (blkOk_by (N := NLe) (sc := scLe) (by decide +kernel))
        (fun _ _ _ _ _ => pg_name (i := 4) nd rfl (Or.inl rfl)) (fun _ _ _ _ _ => pts_nil) (fun _ _ _ _ _ => pe_cmpR op_eq (pe_dget hu (pv 3) (pv 4) (fun _ _ => rfl)) (pe_dget hu (pv 1) (pv 4) (fun _ _ => rfl)) (nomark _)))) pa_nil)))) (fun _ _ _ _ _ => pv 2)))), ?_⟩
  refine ⟨_, rfl, a, dx, _, rfl, ha, rfl, _, rfl, a, g, ns, known, us, tbl, rfl, tab, og, knd, sub, by omega, fun H1 k1 => ?_⟩
  refine ⟨_, rfl, a, dx, _, rfl, k1 _ _ ha, rfl, a, ns, tbl, rfl, tab.same k1, W.nd, by omega, by omega, fun H2 q as nq oq rows fresh k2 => ?_⟩
  have k12 := k1.trans k2
  have las : as.length = tbl.length := Paired.length rows
  have og2 := k12 _ _ og
  refine ⟨q, _, rfl, SqL.of oq, lc_genO (Q := fun D H' => Q (.ref D) H') (leftO ns known us tbl) (by rw [leftO_len]; omega) (fun i H' s lt => ⟨_, _, SqL.of (s _ _ oq), List.getElem?_eq_getElem (by rw [List.length_map, las, ← leftO_len ns known us tbl]; exact lt)⟩) (fun H' s => ⟨_, SqL.of (s _ _ oq), by rw [List.length_map, las, leftO_len]; omega⟩) ?_ ?_⟩
  · rintro i v o H3 H4 Cn Nn eo s3 ⟨t, x, rfl, nt, rfl, gx⟩ yes no
    obtain ⟨u, eu, rfl⟩ := leftO_at eo
    have ex := gx _ (SqL.of (s3 _ _ oq))
    rw [List.getElem?_map] at ex
    obtain ⟨r, er, rfl⟩ := Option.map_eq_some_iff.mp ex
    obtain ⟨u', eu', or, lu⟩ := paired_get (rows.same s3) er
    obtain rfl : u = u' := by rw [eu] at eu'; exact Option.some.inj eu'
    have st := same_new (o := .tup [V.int (i : Nat), .ref r]) nt
    refine ⟨t, _, rfl, SqT.of upd_same, rfl, _, _, rfl, _, _, rfl, rfl, rfl, ?_⟩
    have or4 := st _ _ or
    have og4 := st _ _ (s3 _ _ og2)
    generalize upd H3 t (.tup [V.int (i : Nat), .ref r]) = H4 at st or4 og4
    have rg : r ≠ g := fun z => by
      have := fresh r (List.mem_of_getElem? er)
      rw [z, k1 _ _ og] at this
      cases this
    refine ⟨g, _, og4, trivial, fun od => ⟨_, rfl, g, od, rfl, .inl ⟨_, upd_same, lc_gen ((known.map fun x => decide (av ns u x = av ns us x)).map V.bl) (by rw [List.length_map, List.length_map]; omega) (fun j H' s lt => ⟨s _ _ upd_same, by rw [gvn_len]; rw [List.length_map, List.length_map] at lt; exact lt⟩) (fun H' s => ⟨s _ _ upd_same, by rw [gvn_len, List.length_map, List.length_map]; exact Nat.le_refl _⟩) ?_ ?_⟩⟩⟩
    · rintro j v y H5 H6 Cm Nm ey s5 ⟨rfl, k, w', ek, rfl⟩ yes2
      obtain ⟨z, rfl, ez, hv⟩ := gvn_at knd ek
      rw [List.getElem?_map, List.getElem?_map, ez] at ey
      obtain rfl : V.bl (decide (av ns u z = av ns us z)) = y := Option.some.inj ey
      refine ⟨rfl, ?_⟩
      refine ⟨_, rfl, _, rfl, r, _, rfl, dk_av W.nd lu (sub z (List.mem_of_getElem? ez)) ▸ DGet.k (k := Sum.inr z) (s5 _ _ (by rw [upd_ne rg]; exact or4)), ?_⟩
      refine ⟨_, rfl, _, rfl, g, _, rfl, .inl ⟨_, Sum.inr z, .inr ⟨_, s5 _ _ upd_same⟩, rfl, hv.symm⟩, rfl, ?_⟩
      rw [dec_int2]
      exact yes2 _ (Same.refl _)
    · intro H5 D nD oD s5
      obtain ⟨b1, s45⟩ := lock_off og4 s5
      have Da : D ≠ g := fun z => by rw [z, upd_same] at nD; cases nD
      refine ⟨b1, D, _, rfl, SqL.of (by rw [upd_ne Da]; exact oD), _, rfl, ?_⟩
      rw [all_agree]
      cases c : agree ns known us u with
      | true => exact ⟨_, rfl, yes _ (by rw [if_pos c]) _ (st.trans s45)⟩
      | false => exact no (by rw [if_neg (by rw [c]; simp)]) _ (st.trans s45)
  · intro H3 D nD oD s3
    rw [left_list] at oD
    exact hq H3 D (k12.free nD) oD (k12.trans s3)
end
end L2.TB
namespace L2.TB
open PySem PySem.Spec PyProof.Rows
/-! != of two lists of dicts, alike one by one -/
section
open SeqAt MeetsSeq MeetsSeq2 MeetsSeq3 SeqRoads2
open AutoSeq1 (wpAny_loadPart')
variable {prog : Program} {w : World} {A : Around} {R : Result → Shared → Prop}
theorem ne_turns (l b : Addr) (xs ys : Array Value) (n n2 : Nat) {s : Shared} (gl : s.heap.get? l = some { cls := .type "list", data := .seq xs n }) (gb : s.heap.get? b = some { cls := .type "list", data := .seq ys n2 })
    (sz : xs.size = ys.size) (same : ∀ j (h1 : j < xs.size) (h2 : j < ys.size), EqIn prog w A.in1 s xs[j] ys[j] true) (fin : R (.ok (.ret (.bool false))) s) (k : Nat) :
    ∀ i : Nat, xs.size - i = k → wpAny (model prog w) A.in1 (Builtin.«list.__eq__.loop» ⟨[.ref l, .ref b, rawInt i, rawInt 3], []⟩) (GQ.FinOf prog w A R) (fun e s' => R (.error e) s') s := by
  obtain ⟨h0, gs, ds, tk, os⟩ := s
  induction k with
  | zero =>
    intro i out
    wp_walk using wpAny_loadPart' gl, wpAny_loadPart' gb
    have n1 : xs[((i : Nat) : Int).toNat]? = none := by simp; omega
    have n2' : ys[((i : Nat) : Int).toNat]? = none := by simp; omega
    rw [n1, n2']
    wp_walk using wpAny_loadPart' gl, wpAny_loadPart' gb
    show R (.ok (.ret (.bool (xs.size != ys.size)))) _
    rw [sz, bne_self_eq_false]
    exact fin
  | succ k more =>
    intro i left
    have t1 : i < xs.size := by omega
    have t2 : i < ys.size := by omega
    wp_walk using wpAny_loadPart' gl, wpAny_loadPart' gb
    have e1 : xs[((i : Nat) : Int).toNat]? = some xs[i] := by simp [t1]
    have e2 : ys[((i : Nat) : Int).toNat]? = some ys[i] := by simp [t2]
    have up : ((i : Int) + 1) = ((i + 1 : Nat) : Int) := by omega
    rw [e1, e2]
    refine wpAny_bind (same i t1 t2 _ _ ?_)
    wp_walk
    rw [up]
    have next := more (i + 1) (by omega)
    exact ⟨plainId_quiet plain_eq_loop _, codeAny_builtin entry_eq_loop (by rw [Around.under_plainId plain_eq_loop _]; exact next)⟩
theorem ne_lists (l b : Addr) (xs ys : Array Value) (n n2 : Nat) {s : Shared} (gl : s.heap.get? l = some { cls := .type "list", data := .seq xs n }) (gb : s.heap.get? b = some { cls := .type "list", data := .seq ys n2 })
    (sz : xs.size = ys.size) (same : ∀ j (h1 : j < xs.size) (h2 : j < ys.size), EqIn prog w A.in1 s xs[j] ys[j] true) (fin : R (.ok (.ret (.bool false))) s) :
    wpAny (model prog w) A.in1 (Builtin.«list.__ne__» ⟨[.ref l, .ref b], []⟩) (GQ.FinOf prog w A R) (fun e s' => R (.error e) s') s := by
  have first := ne_turns l b xs ys n n2 gl gb sz same fin _ 0 rfl
  obtain ⟨h0, gs, ds, tk, os⟩ := s
  have sub := AutoSeq1.sub_list_list
  have no : ¬ (xs.size != ys.size) = true := by simp [sz]
  wp_walk using wpAny_loadPart' gl, wpAny_loadPart' gb
  exact ⟨plainId_quiet plain_eq_loop _, codeAny_builtin entry_eq_loop (by rw [Around.under_plainId plain_eq_loop _]; exact first)⟩
end
def rNeLD : R2 := fun x y H Q => ∃ (a b : Addr) (as bs : List Addr), x = .ref a ∧ y = .ref b ∧ H a = some (.lst (as.map V.ref)) ∧ H b = some (.lst (bs.map V.ref)) ∧ as.length = bs.length ∧
  (∀ (i : Nat) (c d : Addr), as[i]? = some c → bs[i]? = some d → ∃ kvs : List (Key × V), H c = some (.dK kvs) ∧ H d = some (.dK kvs) ∧ (kvs.map (·.1)).Nodup ∧ ∀ p ∈ kvs, flatB p.2 = true) ∧ Q (.bl false) H
theorem op_neLD {X : Cx} (hu : X.A.units + 64 < cLine) : OpR X (compareOp .NotEq) rNeLD := by
  intro pins s σ H x y v u Q I rx ry h
  obtain ⟨a, b, as, bs, rfl, rfl, ha, hb, len, same, q⟩ := h
  obtain rfl : v = Value.ref a := rx
  obtain rfl : u = Value.ref b := ry
  obtain ⟨z1, xs, n1, r1, g1⟩ := I.hok a _ ha
  obtain ⟨z2, ys, n2, r2, g2⟩ := I.hok b _ hb
  have lx : xs.length = as.length := by rw [← r1.length, List.length_map]
  have ly : ys.length = bs.length := by rw [← r2.length, List.length_map]
  show wpAny _ _ (richCompare .NotEq (.ref a) (.ref b)) _ _ _
  refine wpAny_richCompare_same_room (op := .NotEq) ⟨_, g1, rfl⟩ ⟨_, g2, rfl⟩ F.slot_list_ne (GQ.call_here F.slot_list_ne ⟨_, g1, rfl⟩ F.entry_list_ne (F.args_list_ne_2 _ _) ?_) (by omega)
  refine ne_lists a b xs.toArray ys.toArray n1 n2 g1 g2 (by rw [List.size_toArray, List.size_toArray, lx, ly, len]) (fun j h1 h2 => ?_) ⟨(fun e => nomatch e), .bl false, H, I, rfl, q⟩
  have j1 : j < as.length := by rw [← lx]; simpa using h1
  have j2 : j < bs.length := by rw [← ly]; simpa using h2
  obtain ⟨kvs, oc, od, nk, flat⟩ := same j as[j] bs[j] (List.getElem?_eq_getElem j1) (List.getElem?_eq_getElem j2)
  obtain ⟨u1, e1, rel1⟩ := r1.get (show (as.map V.ref)[j]? = some (V.ref as[j]) by rw [List.getElem?_map, List.getElem?_eq_getElem j1]; rfl)
  obtain ⟨u2, e2, rel2⟩ := r2.get (show (bs.map V.ref)[j]? = some (V.ref bs[j]) by rw [List.getElem?_map, List.getElem?_eq_getElem j2]; rfl)
  obtain rfl : u1 = Value.ref as[j] := rel1
  obtain rfl : u2 = Value.ref bs[j] := rel2
  have f1 : xs.toArray[j] = Value.ref as[j] := by
    have z : xs[j]? = some xs.toArray[j] := by
      have h1' : j < xs.length := by simpa using h1
      rw [List.getElem?_eq_getElem h1'] <;> simp
    rw [z] at e1
    exact Option.some.inj e1
  have f2 : ys.toArray[j] = Value.ref bs[j] := by
    have z : ys[j]? = some ys.toArray[j] := by
      have h2' : j < ys.length := by simpa using h2
      rw [List.getElem?_eq_getElem h2'] <;> simp
    rw [z] at e2
    exact Option.some.inj e2
  rw [f1, f2]
  by_cases eq : as[j] = bs[j]
  · rw [← eq]
    exact SeqAt.EqAt.inModel (SeqAt.EqAt.same _) _ _
  · refine SeqAt.EqIn.of_refs eq fun E Q' fin => ?_
    obtain ⟨_, y1, v1, kv1, d1⟩ := (show ObjOk X.prog X.w H s.heap as[j] (.dK kvs) from I.hok _ _ oc)
    obtain ⟨_, y2, v2, kv2, d2⟩ := (show ObjOk X.prog X.w H s.heap bs[j] (.dK kvs) from I.hok _ _ od)
    have lv : v1.length = v2.length := by rw [← kv1.length, ← kv2.length]
    exact PySem.W.keq_eq (knd := mixKind X.prog X.w) (r := true) y1 y2 d1 d2 (show X.A.in1.units < cLine from by show X.A.units + _ < cLine; omega) (fun _ => hits_all kv2 kv1 fun p hp => ⟨val_at _ _ _ nk hp, flat p hp⟩) (by simpa [lv] using fin)
end L2.TB
namespace L2.TB
open PySem PySem.Spec PyProof.Rows
/-! what may be, and fewer questions -/
theorem boot_sorted : bootBuiltins "sorted" = some (.builtin "sorted") := by decide +kernel
/-- a set comprehension of whole numbers, without a test: ks is what its turns make -/
theorem sc_ints {w : World} {P : Program} {J : It} {g : TG} {tt : TT} {te : TE} {vs : List Nat} {σ : St} {H1 : Hp} {Q : Addr → Hp → Prop} (ks : List Int) (short : ks.length < 4000) (go : ∀ i H, Same H1 H → i < ks.length → J.go i H) (stop : ∀ H, Same H1 H → J.stop ks.length H)
    (turn : ∀ (i : Nat) (x : V) (k : Int) (H H' : Hp) (C : V → Hp → Prop) (N : Hp → Prop), ks[i]? = some k → Same H1 H → J.yld i H x H' → (∀ H4, Same H H4 → C (.int k) H4) → g x (wipe σ vs) H' fun σ2 H2 => wipe σ2 vs = wipe σ vs ∧ tt σ2 H2 fun b H3 => if b = true then te σ2 H3 C else N H3)
    (fin : ∀ H D S n, H1 D = none → H D = some (SetO w D S n) → (∀ k, S k = true ↔ k ∈ ks) → n ≤ ks.length → Same H1 H → Q D H) :
    ∀ D, H1 D = none → ∃ W : Nat → Nat → Hp → Prop, (∃ m, W 0 m (upd H1 D ((intSets P w).rec0 D))) ∧ ∀ i m H, W i m H → (J.stop i H ∧ Q D H) ∨ (J.go i H ∧ ∃ N : Hp → Prop, (∀ H', N H' → ∃ m', m' < m ∧ W (i + 1) m' H') ∧
      ∀ x H', J.yld i H x H' → g x (wipe σ vs) H' fun σ2 H2 => wipe σ2 vs = wipe σ vs ∧ tt σ2 H2 fun b H3 => if b = true then te σ2 H3 fun y H4 => (intSets P w).asks D y H4 N else N H3) := by
  intro D nD
  refine ⟨fun i m H => m = ks.length - i ∧ i ≤ ks.length ∧ (∃ S n, H D = some (SetO w D S n) ∧ (∀ k, S k = true ↔ k ∈ ks.take i) ∧ n ≤ i) ∧ Same H1 H, ⟨_, rfl, Nat.zero_le _, ⟨_, 0, upd_same, by simp, Nat.le_refl _⟩, same_new nD⟩, ?_⟩
  rintro i m H ⟨rfl, le, ⟨S, n, oD, hS, hn⟩, s1⟩
  by_cases lt : i < ks.length
  · refine .inr ⟨go i H s1 lt, fun H' => (∃ S n, H' D = some (SetO w D S n) ∧ (∀ k, S k = true ↔ k ∈ ks.take (i + 1)) ∧ n ≤ i + 1) ∧ Same H1 H', fun H' h => ⟨ks.length - (i + 1), by omega, rfl, lt, h⟩, fun x H' yl => ?_⟩
    have ey : ks[i]? = some ks[i] := List.getElem?_eq_getElem lt
    have et : ks.take (i + 1) = ks.take i ++ [ks[i]] := by rw [List.take_succ, ey]; rfl
    refine turn i x ks[i] H H' _ _ ey s1 yl fun H4 s4 => ⟨_, S, n, rfl, s4 _ _ oD, ?_, ⟨_, _, upd_same, ?_, ?_⟩, ?_⟩
    · show n + 1 < 4096
      omega
    · intro k
      rw [et, List.mem_append, List.mem_singleton, ← hS k]
      simp
    · split <;> omega
    · intro b u e
      rw [upd_ne (ne_of_none e nD)]
      exact s4 _ _ (s1 _ _ e)
  · obtain rfl : i = ks.length := by omega
    rw [List.take_length] at hS
    exact .inl ⟨stop H s1, fin H D S n nD oD hS hn s1⟩
def spMayBe (C : Addr) : Sp := fun vs H Q _ => ∃ (a g : Addr) (ns known : List Str) (us : List Int) (tbl : List (List Int)) (x : Str), vs = [.ref a, .ref g, .str x] ∧ TabAt H C a ns tbl ∧ Wide ns tbl ∧ tbl.length < 60 ∧ H g = some (.dK (gvn ns known us)) ∧ known.Nodup ∧ (∀ x ∈ known, x ∈ ns) ∧ x ∈ ns ∧
  ∀ H' q (ks : List Int), H q = none → H' q = some (.lst (ks.map V.int)) → ks.Pairwise (· < ·) → (∀ k, k ∈ ks ↔ ∃ u ∈ tbl, keyR ns known u = keyR ns known us ∧ av ns u x = k) → Same H H' → Q (.ref q) H'
def spOnly (C : Addr) : Sp := fun vs H Q _ => ∃ (a b : Addr) (ns known : List Str) (tbl : List (List Int)), vs = [.ref a, .ref b] ∧ TabAt H C a ns tbl ∧ Wide ns tbl ∧ H b = some (.lst (known.map V.str)) ∧ known.Nodup ∧ (∀ x ∈ known, x ∈ ns) ∧ known ≠ [] ∧
  ∀ H' c, H c = none → TabAt H' C c known (tbl.map (keyR ns known)) → Same H H' → Q (.ref c) H'
abbrev NMb : List Str := ["self", "answers", "asked", "rows", "index"]
theorem scMayBe : FnScope NMb ["self", "answers", "asked"] (defScope sMayBe) := ⟨rfl, rfl, rfl, by decide +kernel, rfl, by decide +kernel, by decide +kernel⟩
abbrev NOn : List Str := ["self", "names", "row", "name"]
theorem scOnly : FnScope NOn ["self", "names"] (defScope sOnly) := ⟨rfl, rfl, rfl, by decide +kernel, rfl, by decide +kernel, by decide +kernel⟩
abbrev scOn : Scope := { kind := ScopeKind.function, names := [(Str.ofString ".0", NameKind.local), (Str.ofString "row", NameKind.cell), (Str.ofString "names", NameKind.cell)], isGenerator := false, isCoroutine := false }
theorem gvn_dk (ns known : List Str) (us : List Int) : gvn ns known us = dk known (keyR ns known us) := by
  unfold gvn dk keyR
  induction known with
  | nil => rfl
  | cons x l ih => rw [List.map_cons, List.map_cons, List.zip_cons_cons, List.map_cons, ih]
section
variable {P : Program} {w : World} {K : PySem.W.Frag} {mg : Str → Option Value} {base : Heap} {f C fR fA fL fI aF aL aO aK aA aB : Addr} {fd fdR fdA fdL fdI : FuncData}
theorem ok_mayBe (F : Fun K "may_be" "Table.may_be" sMayBe f fd) (T : TabC K C) (GR : FnOk P w K mg base CX0 2 fR fdR ["self"] (spRowsM C)) (FR : Fun K "rows" "Table.rows" sRowsM fR fdR) (mR : Meth K C "rows" fR)
    (GA : FnOk P w K mg base CX0 2 fA fdA ["self", "thing"] (spCkAns C)) (FA : Fun K "_check_answers" "Table._check_answers" sCkAns fA fdA) (mA : Meth K C "_check_answers" fA)
    (GL : FnOk P w K mg base CX0 3 fL fdL ["self", "answers"] (spLeft C)) (FL : Fun K "left" "Table.left" sLeft fL fdL) (mL : Meth K C "left" fL) (Ck : Chk K mg aF aL aO aK aA aB) (gSo : mg "sorted" = none) : FnOk P w K mg base CX0 4 f fd ["self", "answers", "asked"] (spMayBe C) := by
  have bR := FR.binds (ps := ["self"]) fun _ _ _ _ _ _ us hl => match us, hl with | [_], _ => rfl
  have bA := FA.binds (ps := ["self", "thing"]) fun _ _ _ _ _ _ us hl => match us, hl with | [_, _], _ => rfl
  have bL := FL.binds (ps := ["self", "answers"]) fun _ _ _ _ _ _ us hl => match us, hl with | [_, _], _ => rfl
  obtain ⟨fdC, FC⟩ := Ck.CA
  have GC := ok_ckA (P := P) (w := w) (base := base) Ck FC
  have bC := FC.binds (ps := ["names", "asked"]) fun _ _ _ _ _ _ us hl => match us, hl with | [_, _], _ => rfl
  refine F.ok scMayBe (fun vs H Q E h => by obtain ⟨a, g, ns, known, us, tbl, x, e, _⟩ := h; rw [e]; rfl) fun cdv A outer s H vs Q E hr hsp => ?_
  obtain ⟨a, g, ns, known, us, tbl, x, rfl, tab, W, t60, og, knd, sub, xin, hq⟩ := hsp
  obtain ⟨dx, qa, ra, ha, hqa, hra⟩ := id tab.ex
  have nd := scMayBe.nd
  have hu := hu_of hr
  have w1 := W.l1
  have kl : known.length ≤ ns.length := nodup_short knd sub
  refine ⟨_, pss_cons (ps_expr (pe_meth (pv 0) T.cl mA GA (hr.mono (by decide)) bA .nil pass0 (pa_cons (pv 1) pa_nil)))
    (pss_cons (ps_expr (pe_call GC (hr.mono (by decide)) rfl Ck.gCA FC.kp bC .nil pass0 (pa_cons (pe_fld (pv 0) rfl) (pa_cons (pv 2) pa_nil))))
    (pss_cons (ps_set (i := 3) nd rfl (Or.inr rfl) (pe_meth0 (pv 0) T.cl mR GR (hr.mono (by decide)) bR .nil pass0))
    (pss_one (ps_ret (pe_callB (cr_sortedSet rfl) rfl gSo boot_sorted (pa_cons (pe_scG (intSets P w) (own := [("index", 4)]) (g := gName 4) (tt := tYes) (te := tDGet (tOp (rIxL K) (tVar 3) (tVar 4)) (tVar 2)) rfl nd (pi_list (pe_meth (pv 0) T.cl mL GL hr bL .nil pass0 (pa_cons (pv 1) pa_nil))) (blkOk_by (N := NMb) (sc := defScope sMayBe) (by decide +kernel))
      (fun _ _ _ _ _ => pg_name (i := 4) nd rfl (Or.inl rfl)) (fun _ _ _ _ _ => pts_nil) (fun _ _ _ _ _ => pe_dget hu (pe_ix (r := rIxL K) ix_list (pv 3) (pv 4) (fun _ _ => rfl)) (pv 2) (fun _ _ => rfl))) pa_nil)))))), ?_⟩
  refine ⟨_, rfl, a, dx, _, rfl, ha, rfl, _, rfl, a, g, ns, known, us, tbl, rfl, tab, og, knd, sub, by omega, fun H1 k1 => ?_⟩
  refine ⟨_, rfl, a, C, dx, _, _, rfl, k1 _ _ ha, T.cl, T.nQ, rfl, _, rfl, qa, ns, x, rfl, SqL.of (k1 _ _ hqa), xin, ?_⟩
  refine ⟨_, rfl, a, dx, _, rfl, k1 _ _ ha, rfl, a, ns, tbl, rfl, tab.same k1, W.nd, by omega, by omega, fun H2 r as nr or rows _ k2 => ?_⟩
  have k12 := k1.trans k2
  refine ⟨_, rfl, a, dx, _, rfl, k12 _ _ ha, rfl, _, rfl, a, g, ns, known, us, tbl, rfl, tab.same k12, W, k12 _ _ og, knd, sub, fun H3 q nq oq k3 => ?_⟩
  have or3 := k3 _ _ or
  have rows3 := rows.same k3
  have las : as.length = tbl.length := Paired.length rows
  refine ⟨q, rfl, ⟨_, SqL.of oq⟩, ?_⟩
  have ll : (leftL ns known us tbl).length ≤ tbl.length := by
    have := List.length_filter_le (fun i => agree ns known us (tbl.getD i [])) (List.range tbl.length)
    rw [List.length_range] at this
    exact this
  refine sc_ints (J := Itl K q) ((leftL ns known us tbl).map fun i => av ns (tbl.getD i []) x) (by rw [List.length_map]; omega) (fun i H' s lt => ⟨_, _, SqL.of (s _ _ oq), List.getElem?_eq_getElem (by rw [List.length_map] at lt ⊢; exact lt)⟩) (fun H' s => ⟨_, SqL.of (s _ _ oq), by rw [List.length_map, List.length_map]; omega⟩) ?_ ?_
  · rintro i v k H4 H5 Cn Nn ek s4 ⟨rfl, ex⟩ yes
    have ex := ex _ (SqL.of (s4 _ _ oq))
    rw [List.getElem?_map] at ek ex
    obtain ⟨j, ej, rfl⟩ := Option.map_eq_some_iff.mp ex
    rw [ej] at ek
    obtain rfl : av ns (tbl.getD j []) x = k := Option.some.inj ek
    obtain ⟨u, eu, _⟩ := left_mem.mp (List.mem_of_getElem? ej)
    have eg : tbl.getD j [] = u := by rw [List.getD_eq_getElem?_getD, eu]; rfl
    have jl : j < as.length := by rw [las]; exact (List.getElem?_eq_some_iff.mp eu).1
    obtain ⟨u', eu', oc, lu⟩ := paired_get (rows3.same s4) (List.getElem?_eq_getElem jl)
    obtain rfl : u = u' := by rw [eu] at eu'; exact Option.some.inj eu'
    refine ⟨rfl, ?_⟩
    refine ⟨_, rfl, _, rfl, _, _, _, _, rfl, rfl, SqL.of (s4 _ _ or3), atI_nat (by rw [List.getElem?_map, List.getElem?_eq_getElem jl]; rfl), _, rfl, as[j], _, rfl, dk_av W.nd lu xin ▸ DGet.k (k := Sum.inr x) oc, ?_⟩
    rw [eg] at yes
    exact yes _ (Same.refl _)
  · intro H4 D S n nD oD hS hn s4
    rw [List.length_map] at hn
    refine ⟨D, S, n, rfl, oD, by omega, fun ks p up mem len np => ?_⟩
    have sp := same_new (o := .lst (ks.map V.int)) np
    have k14 := (k12.trans k3).trans s4
    refine hq _ p ks (k14.free np) upd_same up (fun k => ?_) (k14.trans sp)
    rw [mem k, hS k, List.mem_map]
    constructor
    · rintro ⟨i, hi, e⟩
      obtain ⟨u, eu, ku⟩ := left_mem.mp hi
      refine ⟨u, List.mem_of_getElem? eu, ku, ?_⟩
      rw [List.getD_eq_getElem?_getD, eu] at e
      exact e
    · rintro ⟨u, hu', ku, e⟩
      obtain ⟨i, hi, ei⟩ := List.getElem_of_mem hu'
      have eu : tbl[i]? = some u := by rw [List.getElem?_eq_getElem hi, ei]
      refine ⟨i, left_mem.mpr ⟨u, eu, ku⟩, ?_⟩
      rw [List.getD_eq_getElem?_getD, eu]
      exact e
theorem ok_only (F : Fun K "only" "Table.only" sOnly f fd) (T : TabC K C) (GR : FnOk P w K mg base CX0 2 fR fdR ["self"] (spRowsM C)) (FR : Fun K "rows" "Table.rows" sRowsM fR fdR) (mR : Meth K C "rows" fR)
    (M : Mk K C fI) (GI : FnOk P w K mg base CX0 3 fI fdI ["self", "rows"] (spInit C)) (FI : Fun K "__init__" "Table.__init__" sInit fI fdI) (gC : mg "Table" = some (.ref C)) (Ck : Chk K mg aF aL aO aK aA aB) (gN : mg "len" = none) : FnOk P w K mg base CX0 5 f fd ["self", "names"] (spOnly C) := by
  have bR := FR.binds (ps := ["self"]) fun _ _ _ _ _ _ us hl => match us, hl with | [_], _ => rfl
  have bI := FI.binds (ps := ["self", "rows"]) fun _ _ _ _ _ _ us hl => match us, hl with | [_, _], _ => rfl
  obtain ⟨fdK, FK⟩ := Ck.CK
  have GK := ok_ckK (P := P) (w := w) (base := base) Ck FK
  have bK := FK.binds (ps := ["names", "known"]) fun _ _ _ _ _ _ us hl => match us, hl with | [_, _], _ => rfl
  refine F.ok scOnly (fun vs H Q E h => by obtain ⟨a, b, ns, known, tbl, e, _⟩ := h; rw [e]; rfl) fun cdv A outer s H vs Q E hr hsp => ?_
  obtain ⟨a, b, ns, known, tbl, rfl, tab, W, ob, knd, sub, kne, hq⟩ := hsp
  obtain ⟨dx, qa, ra, ha, hqa, hra⟩ := id tab.ex
  have nd := scOnly.nd
  have hu := hu_of hr
  have w1 := W.l1
  have w2 := W.l2
  have kl : known.length ≤ ns.length := nodup_short knd sub
  have kpos : 0 < known.length := List.length_pos_iff.mpr kne
  refine ⟨_, pss_cons (ps_expr (pe_call GK (hr.mono (by decide)) rfl Ck.gCK FK.kp bK .nil pass0 (pa_cons (pe_fld (pv 0) rfl) (pa_cons (pv 1) pa_nil))))
    (pss_cons (ps_if (pt_cmpR op_eq (pe_callB call_len_seq rfl gN boot_len (pa_cons (pv 1) pa_nil)) pe_int (nomark _)) (pss_one ps_never) pss_nil)
    (pss_one (ps_ret (pe_make M GI hr rfl gC bI .nil pass0 (pa_cons (pe_lc (own := [("row", 2)]) (tt := tYes) (te := tDc (iList K (tVar 1)) (gName 3) tYes (tVar 3) (tDGet (tVar 2) (tVar 3)) [3]) rfl nd (pi_list (pe_meth0 (pv 0) T.cl mR GR (hr.mono (by decide)) bR .nil pass0)) (blkOk_by (N := NOn) (sc := defScope sOnly) (by decide +kernel))
      (fun _ _ _ _ _ => pg_name (i := 2) nd rfl (Or.inr rfl)) (fun _ _ _ _ _ => pts_nil)
      (fun _ _ _ _ _ => pe_dc (own := [("name", 3)]) (wi := iList K (tVar 1)) (g := gName 3) (tt := tYes) (tk := tVar 3) (tv := tDGet (tVar 2) (tVar 3)) rfl nd (pi_list (pv 1)) (blkOk_by (N := NOn) (sc := scOn) (by decide +kernel)) (fun _ _ _ _ _ => pg_name (i := 3) nd rfl (Or.inl rfl)) (fun _ _ _ _ _ => pts_nil) (fun _ _ _ _ _ => pv 3) (fun _ _ _ _ _ => pe_dget hu (pv 2) (pv 3) (fun _ _ => rfl)))) pa_nil))))), ?_⟩
  refine ⟨_, rfl, a, C, dx, _, _, rfl, ha, T.cl, T.nQ, rfl, _, rfl, qa, b, ns, known, rfl, hqa, .inl ob, knd, sub, by omega, fun H1 k1 => ?_⟩
  refine ⟨_, rfl, b, _, rfl, .inl (SqL.of (k1 _ _ ob)), rfl, _, rfl, ?_⟩
  rw [dec_int2, List.length_map, decide_eq_false (by omega : ¬ ((known.length : Nat) : Int) = 0)]
  refine iteF ?_
  refine ⟨_, rfl, a, dx, _, rfl, k1 _ _ ha, rfl, a, ns, tbl, rfl, tab.same k1, W.nd, by omega, by omega, fun H2 r as nr or rows _ k2 => ?_⟩
  have k12 := k1.trans k2
  have las : as.length = tbl.length := Paired.length rows
  have ob2 := k12 _ _ ob
  refine ⟨r, rfl, ⟨_, SqL.of or⟩, ?_⟩
  refine lc_made tbl.length (by omega) (fun i H' k lt => ⟨_, _, SqL.of (k _ _ or), List.getElem?_eq_getElem (by rw [List.length_map]; omega)⟩) (fun H' k => ⟨_, SqL.of (k _ _ or), by rw [List.length_map]; omega⟩)
    (fun i y H' => ∃ t us, y = V.ref t ∧ tbl[i]? = some us ∧ H' t = some (.dK (gvn ns known us))) ?_ ?_ ?_
  · rintro i y H3 H4 D l ⟨t, us, rfl, eu, ot⟩ oD keep
    exact ⟨t, us, rfl, eu, keep _ _ (ne_of ot oD (by intro z; cases z)) ot⟩
  · rintro i x H3 H4 Cn Nn lt s3 ⟨rfl, ex⟩ yes
    have ex := ex _ (SqL.of (s3 _ _ or))
    rw [List.getElem?_map] at ex
    obtain ⟨p, ep, rfl⟩ := Option.map_eq_some_iff.mp ex
    obtain ⟨us, eu, op, lu⟩ := paired_get (rows.same s3) ep
    refine ⟨rfl, ?_⟩
    refine ⟨_, rfl, b, rfl, ⟨_, SqL.of (s3 _ _ ob2)⟩, dc_gen (Q := fun D H' => Cn (.ref D) H') (gvn ns known us) (by rw [gvn_len]; omega) (gvn_nd knd) (fun j H' s lt => ⟨_, _, SqL.of (s _ _ (s3 _ _ ob2)), List.getElem?_eq_getElem (by rw [List.length_map]; rw [gvn_len] at lt; exact lt)⟩) (fun H' s => ⟨_, SqL.of (s _ _ (s3 _ _ ob2)), by rw [List.length_map, gvn_len]; omega⟩) ?_ fun H5 D nD oD s5 => yes _ _ ⟨D, us, rfl, eu, oD⟩ s5⟩
    rintro j v k z H5 H6 Cm Nm ekv s5 ⟨rfl, ev⟩ yes2
    have ev := ev _ (SqL.of (s5 _ _ (s3 _ _ ob2)))
    obtain ⟨y, rfl, ey, hv⟩ := gvn_at knd ekv
    have ez : z = V.int (av ns us y) := by
      have q := val_at _ _ _ (gvn_nd knd) (List.mem_of_getElem? ekv)
      rw [hv] at q
      exact (Option.some.inj q).symm
    subst ez
    rw [List.getElem?_map, ey] at ev
    obtain rfl : V.str y = v := Option.some.inj ev
    refine ⟨rfl, ?_⟩
    exact ⟨_, rfl, _, rfl, _, rfl, p, _, rfl, dk_av W.nd lu (sub y (List.mem_of_getElem? ey)) ▸ DGet.k (k := Sum.inr y) (s5 _ _ op), yes2 _ (Same.refl _)⟩
  · intro H3 D ys nD oD ly ry s3
    obtain ⟨bs, rfl, pa⟩ := addrs_of (H := H3) (P := fun i t => ∃ us, tbl[i]? = some us ∧ H3 t = some (.dK (gvn ns known us))) ys 0 fun j y e => by
      obtain ⟨t, us, e1, e2, e3⟩ := ry j y e
      exact ⟨t, e1, us, by simpa using e2, e3⟩
    have lb : bs.length = tbl.length := by rw [← ly, List.length_map]
    have dd : DRows H3 known bs (tbl.map (keyR ns known)) := paired_of bs _ (by rw [lb, List.length_map]) fun i t us et eu => by
      rw [List.getElem?_map] at eu
      obtain ⟨u, eu2, rfl⟩ := Option.map_eq_some_iff.mp eu
      obtain ⟨u', e2, e3⟩ := pa i t et
      rw [Nat.zero_add, eu2] at e2
      cases e2
      rw [gvn_dk] at e3
      exact ⟨e3, by unfold keyR; rw [List.length_map]⟩
    have k13 := k12.trans s3
    refine fun x dy nx ndy nex => ?_
    have kx : Same H3 (upd (upd H3 dy (.own x)) x (.ins C dy [])) := fun b o e => by rw [upd_ne (ne_of_none e nx), upd_ne (ne_of_none e ndy)]; exact e
    refine ⟨x, dy, D, bs, known, tbl.map (keyR ns known), rfl, upd_same, kx _ _ oD, dd.same kx, by simp [W.t], by rw [List.length_map]; omega, kne, knd, fun y hy => W.ok y (sub y hy), by omega, fun H6 T6 fr => ⟨rfl, ?_⟩⟩
    exact hq H6 x (k13.free nx) T6 fun b o e => fr b o (ne_of_none (k13 _ _ e) nx) (kx _ _ (k13 _ _ e))
end
end L2.TB
namespace L2.TB
open PySem PySem.Spec PyProof.Rows
/-! the law's look at the answers at hand -/
theorem ints_shape : ∀ ks : List Int, PyData.canLayAll0 (ks.map PyData.int) = true ∧ PyData.depthAll (ks.map PyData.int) = 0
  | [] => ⟨by simp [PyData.canLayAll0], by simp [PyData.depthAll]⟩
  | b :: bs => by
    obtain ⟨h1, h2⟩ := ints_shape bs
    exact ⟨by simp [PyData.canLayAll0, PyData.canLay0, h1], by simp [PyData.depthAll, PyData.depth, h2]⟩
theorem ints_shaped (ks : List Int) : SeqAt.shaped (.list (ks.map PyData.int)) = true := by
  obtain ⟨h1, h2⟩ := ints_shape ks
  unfold SeqAt.shaped
  simp [PyData.canLay0, PyData.depth, h1, h2]
theorem ints_eqvAll : ∀ a b : List Int, PyData.eqvAll (a.map PyData.int) (b.map PyData.int) = decide (a = b)
  | [], [] => by simp [PyData.eqvAll]
  | [], _ :: _ => by simp [PyData.eqvAll]
  | _ :: _, [] => by simp [PyData.eqvAll]
  | x :: a, y :: b => by
    rw [List.map_cons, List.map_cons, PyData.eqvAll, ints_eqvAll a b, PyData.eqv]
    by_cases h1 : x = y
    · by_cases h2 : a = b <;> simp [h1, h2]
    · simp [h1]
theorem ints_eqv (a b : List Int) : PyData.eqv (.list (a.map PyData.int)) (.list (b.map PyData.int)) = decide (a = b) := by rw [PyData.eqv, ints_eqvAll]
theorem dp_intsB {K : PySem.W.Frag} {H : Hp} : ∀ ks : List Int, DpAll K H (ks.map V.int) (ks.map PyData.int)
  | [] => .nil
  | k :: ks => .cons (.int k) (dp_intsB ks)
theorem dp_intsL {K : PySem.W.Frag} {H : Hp} {a : Addr} {ks : List Int} (h : H a = some (.lst (ks.map V.int))) : Dp K H (.ref a) (.list (ks.map PyData.int)) := .lst (SqL.of h) (dp_intsB ks)
/-- an ascending list with just one thing in it -/
theorem one_only {ks : List Int} {k : Int} (up : ks.Pairwise (· < ·)) (h : ∀ j, j ∈ ks ↔ j = k) : ks = [k] := by
  match ks, up, h with
  | [], _, h => exact absurd ((h k).mpr rfl) (by simp)
  | [a], _, h => rw [(h a).mp (by simp)]
  | a :: b :: l, up, h =>
    have e1 := (h a).mp (by simp)
    have e2 := (h b).mp (by simp)
    have := (List.pairwise_cons.mp up).1 b (by simp)
    omega
/-- ascending lists with the same things are one -/
theorem sorted_one : ∀ {xs ys : List Int}, xs.Perm ys → xs.Pairwise (· ≤ ·) → ys.Pairwise (· < ·) → xs = ys
  | [], ys, p, _, _ => (List.nil_perm.mp p).symm
  | x :: xs, [], p, _, _ => absurd p.length_eq (by simp)
  | x :: xs, y :: ys, p, hx, hy => by
    have h1 := List.pairwise_cons.mp hx
    have h2 := List.pairwise_cons.mp hy
    have e : x = y := by
      have m1 : x ∈ y :: ys := p.mem_iff.mp List.mem_cons_self
      have m2 : y ∈ x :: xs := p.mem_iff.mpr List.mem_cons_self
      rcases List.mem_cons.mp m1 with z | z
      · exact z
      · rcases List.mem_cons.mp m2 with z' | z'
        · exact z'.symm
        · have a := h1.1 _ z'
          have b := h2.1 _ z
          omega
    subst e
    rw [sorted_one (List.Perm.cons_inv p) h1.2 h2.2]
/-- pairs of names and answers -/
theorem given_lc {J : It} {K : PySem.W.Frag} {g : TG} {tt : TT} {te : TE} {vs : List Nat} {σ : St} {H1 : Hp} {Q : Addr → Hp → Prop} (ns known : List Str) (us : List Int) (short : known.length < 1000) (go : ∀ i H, Same H1 H → i < known.length → J.go i H) (stop : ∀ H, Same H1 H → J.stop known.length H)
    (turn : ∀ (i : Nat) (v : V) (x : Str) (H H' : Hp) (C : V → Hp → Prop) (N : Hp → Prop), known[i]? = some x → Same H1 H → J.yld i H v H' → (∀ t H4, H4 t = some (.tup [V.str x, V.int (av ns us x)]) → Same H H4 → C (.ref t) H4) → g v (wipe σ vs) H' fun σ2 H2 => wipe σ2 vs = wipe σ vs ∧ tt σ2 H2 fun b H3 => if b = true then te σ2 H3 C else N H3)
    (fin : ∀ H D ps, H1 D = none → H D = some (.lst ((ps : List Addr).map V.ref)) → Paired (fun p (kv : Key × V) => SqT K H p [kV kv.1, kv.2]) ps (gvn ns known us) → Same H1 H → Q D H) : LcW J g tt te vs σ H1 Q := by
  refine lc_made known.length (by omega) go stop (fun i y H' => ∃ t x, y = V.ref t ∧ known[i]? = some x ∧ H' t = some (.tup [V.str x, V.int (av ns us x)])) ?_ ?_ ?_
  · rintro i y H2 H3 D l ⟨t, x, rfl, ex, ot⟩ oD keep
    exact ⟨t, x, rfl, ex, keep _ _ (ne_of ot oD (by intro z; cases z)) ot⟩
  · intro i v H2 H3 C N lt s2 yl yes
    have ex : known[i]? = some known[i] := List.getElem?_eq_getElem lt
    exact turn i v known[i] H2 H3 C N ex s2 yl fun t H4 ot s4 => yes _ _ ⟨t, _, rfl, ex, ot⟩ s4
  · intro H2 D ys nD oD ly ry s2
    obtain ⟨ps, rfl, pa⟩ := addrs_of (H := H2) (P := fun i t => ∃ x, known[i]? = some x ∧ H2 t = some (.tup [V.str x, V.int (av ns us x)])) ys 0 fun j y e => by
      obtain ⟨t, x, e1, e2, e3⟩ := ry j y e
      exact ⟨t, e1, x, by simpa using e2, e3⟩
    refine fin H2 D ps nD oD (paired_of ps _ (by rw [gvn_len, ← ly, List.length_map]) fun i t kv et ekv => ?_) s2
    obtain ⟨x, e2, e3⟩ := pa i t et
    rw [Nat.zero_add] at e2
    unfold gvn at ekv
    rw [List.getElem?_map, e2] at ekv
    obtain rfl : ((Sum.inr x : Key), V.int (av ns us x)) = kv := Option.some.inj ekv
    exact SqT.of e3
theorem gvn_merge {ns known : List Str} {us : List Int} (nd : known.Nodup) : mergeK [] (gvn ns known us) = gvn ns known us := merge_nd (gvn_nd nd)
def spAtHand (C : Addr) : Sp := fun vs H Q _ => ∃ (q r c : Addr) (as : List Addr) (ns known : List Str) (x : Str) (tbl : List (List Int)), vs = [.ref q, .ref r, .ref c, .str x] ∧ TabAt H C q ns tbl ∧ Wide ns tbl ∧ tbl.length < 60 ∧ H r = some (.lst (as.map V.ref)) ∧ DRows H ns as tbl ∧
  H c = some (.lst (known.map V.str)) ∧ known.Nodup ∧ (∀ x ∈ known, x ∈ ns) ∧ x ∈ ns ∧ ∀ H', Same H H' → Q (.bl (decide (Tells ns tbl known x))) H'
abbrev NAh : List Str := ["table", "rows", "known", "asked", "row", "given", "name"]
theorem scAtHand : FnScope NAh ["table", "rows", "known", "asked"] (defScope sAtHand) := ⟨rfl, rfl, rfl, by decide +kernel, rfl, by decide +kernel, by decide +kernel⟩
/-- one row: what may be is its own answer alone -/
def Alone (ns known : List Str) (tbl : List (List Int)) (x : Str) (u : List Int) : Prop := ∀ v ∈ tbl, keyR ns known v = keyR ns known u → av ns v x = av ns u x
section
variable {P : Program} {w : World} {K : PySem.W.Frag} {mg : Str → Option Value} {base : Heap} {f C fM : Addr} {fd fdM : FuncData}
theorem ok_atHand (F : Fun K "_law_at_hand" "_law_at_hand" sAtHand f fd) (T : TabC K C) (GM : FnOk P w K mg base CX0 4 fM fdM ["self", "answers", "asked"] (spMayBe C)) (FM : Fun K "may_be" "Table.may_be" sMayBe fM fdM) (mM : Meth K C "may_be" fM) (gD : mg "dict" = none) : FnOk P w K mg base CX0 5 f fd ["table", "rows", "known", "asked"] (spAtHand C) := by
  have bM := FM.binds (ps := ["self", "answers", "asked"]) fun _ _ _ _ _ _ us hl => match us, hl with | [_, _, _], _ => rfl
  refine F.ok scAtHand (fun vs H Q E h => by obtain ⟨q, r, c, as, ns, known, x, tbl, e, _⟩ := h; rw [e]; rfl) fun cdv A outer s H vs Q E hr hsp => ?_
  obtain ⟨q, r, c, as, ns, known, x, tbl, rfl, tab, W, t60, or, rows, oc, knd, sub, xin, hq⟩ := hsp
  obtain ⟨dx, qa, ra, ha, hqa, hra⟩ := id tab.ex
  have nd := scAtHand.nd
  have hu := hu_of hr
  have hu64 := hr.units
  have w1 := W.l1
  have kl : known.length ≤ ns.length := nodup_short knd sub
  have las : as.length = tbl.length := Paired.length rows
  refine ⟨_, pss_cons (ps_for PassesOwn.never rfl (pi_list (pv 1)) (pg_name (i := 4) nd rfl (Or.inr rfl))
      (pss_cons (ps_set (i := 5) nd rfl (Or.inl rfl) (pe_callTy (call_dictP rfl) rfl gD (by decide +kernel) (pa_cons (pe_lc (own := [("name", 6)]) (tt := tYes) rfl nd (pi_list (pv 2)) (blkOk_by (N := NAh) (sc := defScope sAtHand) (by decide +kernel)) (fun _ _ _ _ _ => pg_name (i := 6) nd rfl (Or.inl rfl)) (fun _ _ _ _ _ => pts_nil)
        (fun _ _ _ _ _ => pe_tup (pa_cons (pv 6) (pa_cons (pe_dget hu (pv 4) (pv 6) (fun _ _ => rfl)) pa_nil)))) pa_nil)))
      (pss_one (ps_if (pt_cmpR (op_neD hu64) (pe_meth (pv 0) T.cl mM GM hr bM .nil pass0 (pa_cons (pv 5) (pa_cons (pv 3) pa_nil))) (pe_lst (pa_cons (pe_dget hu (pv 4) (pv 3) (fun _ _ => rfl)) pa_nil)) (nomark _)) (pss_one (ps_ret pe_bl)) pss_nil))))
    (pss_one (ps_ret pe_bl)), ?_⟩
  refine ⟨_, rfl, r, rfl, ⟨_, SqL.of or⟩, for_list (xs := as.map V.ref) (fun i σ H' => Same H H' ∧ (∀ j < i, ∀ u, tbl[j]? = some u → Alone ns known tbl x u) ∧ ∃ s4 s5 s6, σ = [some (.ref q), some (.ref r), some (.ref c), some (.str x), s4, s5, s6])
    ⟨Same.refl _, fun j lt => absurd lt (Nat.not_lt_zero _), _, _, _, rfl⟩ (fun i σ H' _ h => SqL.of (h.1 _ _ or)) ?_ ?_⟩
  · rintro i v σ H2 ev ⟨k2, fine, s4, s5, s6, rfl⟩
    rw [List.getElem?_map] at ev
    obtain ⟨a, ea, rfl⟩ := Option.map_eq_some_iff.mp ev
    obtain ⟨us, eu, oa, lu⟩ := paired_get (rows.same k2) ea
    have uin := List.mem_of_getElem? eu
    refine ⟨_, rfl, c, rfl, ⟨_, SqL.of (k2 _ _ oc)⟩, given_lc (K := K) ns known us (by omega) (fun j H' s lt => ⟨_, _, SqL.of (s _ _ (k2 _ _ oc)), List.getElem?_eq_getElem (by rw [List.length_map]; exact lt)⟩) (fun H' s => ⟨_, SqL.of (s _ _ (k2 _ _ oc)), by rw [List.length_map]; omega⟩) ?_ ?_⟩
    · rintro j v y H3 H4 Cn Nn ey s3 ⟨rfl, ev⟩ yes
      have ev := ev _ (SqL.of (s3 _ _ (k2 _ _ oc)))
      rw [List.getElem?_map, ey] at ev
      obtain rfl : V.str y = v := Option.some.inj ev
      refine ⟨rfl, ?_⟩
      refine ⟨_, rfl, _, rfl, _, rfl, a, _, rfl, dk_av W.nd lu (sub y (List.mem_of_getElem? ey)) ▸ DGet.k (k := Sum.inr y) (s3 _ _ oa), (by rw [sizeLine_eq]; show 2 ≤ _; omega), fun t nt => ?_⟩
      exact yes t _ upd_same (same_new nt)
    · intro H3 D ps nD oD pr k3
      refine ⟨D, ps, _, rfl, SqL.of oD, pr, fun g ng => ?_⟩
      rw [gvn_merge knd]
      have kg := same_new (o := .dK (gvn ns known us)) ng
      have og : upd H3 g (.dK (gvn ns known us)) g = some (.dK (gvn ns known us)) := upd_same
      have k4 := (k2.trans k3).trans kg
      have oa4 := kg _ _ (k3 _ _ oa)
      generalize upd H3 g (.dK (gvn ns known us)) = H4 at og k4 oa4
      refine ⟨_, rfl, q, dx, _, rfl, k4 _ _ ha, rfl, _, rfl, _, rfl, q, g, ns, known, us, tbl, x, rfl, tab.same k4, W, t60, og, knd, sub, xin, fun H5 l ks nl ol up mem k5 => ?_⟩
      refine ⟨_, rfl, _, rfl, a, _, rfl, dk_av W.nd lu xin ▸ DGet.k (k := Sum.inr x) (k5 _ _ oa4), (by rw [sizeLine_eq]; show 1 ≤ _; omega), fun m nm => ?_⟩
      have km := same_new (o := .lst [V.int (av ns us x)]) nm
      have om : upd H5 m (.lst [V.int (av ns us x)]) m = some (.lst ([av ns us x].map V.int)) := upd_same
      refine ⟨_, _, dp_intsL (km _ _ ol), dp_intsL om, ints_shaped _, ints_shaped _, _, rfl, ?_⟩
      rw [ints_eqv]
      have k6 := (k4.trans k5).trans km
      by_cases c1 : Alone ns known tbl x us
      · have e : ks = [av ns us x] := one_only up fun j => by
          rw [mem j]
          constructor
          · rintro ⟨v, hv, kv, e⟩
            rw [← e]
            exact c1 v hv kv
          · rintro rfl
            exact ⟨us, uin, rfl, rfl⟩
        rw [decide_eq_true e]
        refine iteF ⟨k6, fun j lt u eu' => ?_, _, _, _, rfl⟩
        rcases Nat.lt_succ_iff_lt_or_eq.mp lt with z | rfl
        · exact fine j z u eu'
        · rw [eu] at eu'
          cases eu'
          exact c1
      · have ne : ¬ ks = [av ns us x] := fun e => c1 fun v hv kv => by
          have m := (mem (av ns v x)).mpr ⟨v, hv, kv, rfl⟩
          rw [e, List.mem_singleton] at m
          exact m
        rw [decide_eq_false ne]
        refine iteT ?_
        have no : ¬ Tells ns tbl known x := fun h => c1 fun v hv kv => h v hv us uin kv
        have z := hq _ k6
        rw [decide_eq_false no] at z
        exact z
  · rintro σ H2 ⟨k2, fine, s4, s5, s6, rfl⟩
    have yes : Tells ns tbl known x := fun u hu' v hv e => by
      obtain ⟨i, hi, ei⟩ := List.getElem_of_mem hv
      exact fine i (by rw [List.length_map, las]; exact hi) v (by rw [List.getElem?_eq_getElem hi, ei]) u hu' e
    have z := hq _ k2
    rw [decide_eq_true yes] at z
    exact z
end
end L2.TB
namespace L2.TB
open PySem PySem.Spec PyProof.Rows
/-! the law's look at the rows that are left -/
theorem inV_nums (k : Int) : ∀ xs : List Int, inV (.int k) (xs.map V.int) = decide (k ∈ xs)
  | [] => by simp [inV]
  | a :: xs => by
    have e := inV_nums k xs
    unfold inV at e ⊢
    rw [List.map_cons, List.any_cons, e]
    have q : eqV (V.int a) (V.int k) = decide (a = k) := by
      show (a == k) = decide (a = k)
      by_cases h : a = k
      · subst h; simp
      · simp [h]
    rw [q]
    by_cases h : a = k
    · subst h; simp
    · by_cases h2 : k ∈ xs
      · simp [h2]
      · have h' : ¬ k = a := fun z => h z.symm
        simp [h, h', h2]
theorem flat_nums (xs : List Int) : (xs.map V.int).all flatV = true := by
  rw [List.all_map]; exact List.all_eq_true.mpr fun _ _ => rfl
def leftK (ns known : List Str) (us : List Int) (tbl : List (List Int)) : List Int := (leftL ns known us tbl).map fun i : Nat => (i : Int)
theorem leftK_map (ns known : List Str) (us : List Int) (tbl : List (List Int)) : ((leftL ns known us tbl).map fun i => V.int (i : Nat)) = (leftK ns known us tbl).map V.int := by
  unfold leftK
  rw [List.map_map]
  rfl
theorem leftK_up (ns known : List Str) (us : List Int) (tbl : List (List Int)) : (leftK ns known us tbl).Pairwise (· < ·) := by
  unfold leftK leftL
  refine List.Pairwise.map _ (fun a b h => ?_) (List.Pairwise.filter _ List.pairwise_lt_range)
  exact Int.ofNat_lt.mpr h
def leftT (ns known : List Str) (us : List Int) (tbl : List (List Int)) : List (List Int) := (leftL ns known us tbl).map fun i => tbl.getD i []
theorem leftT_mem {ns known : List Str} {us : List Int} {tbl : List (List Int)} {u : List Int} (h : u ∈ leftT ns known us tbl) : u ∈ tbl ∧ keyR ns known u = keyR ns known us := by
  unfold leftT at h
  obtain ⟨i, hi, e⟩ := List.mem_map.mp h
  obtain ⟨v, ev, kv⟩ := left_mem.mp hi
  rw [List.getD_eq_getElem?_getD, ev] at e
  have e : v = u := e
  subst e
  exact ⟨List.mem_of_getElem? ev, kv⟩
def spLeftR (C : Addr) : Sp := fun vs H Q _ => ∃ (q r c n : Addr) (as : List Addr) (ns known : List Str) (tbl : List (List Int)), vs = [.ref q, .ref r, .ref c, .ref n] ∧ TabAt H C q ns tbl ∧ Wide ns tbl ∧ tbl.length < 60 ∧ H r = some (.lst (as.map V.ref)) ∧ DRows H ns as tbl ∧
  H c = some (.lst (known.map V.str)) ∧ known.Nodup ∧ (∀ x ∈ known, x ∈ ns) ∧ H n = some (.lst (ns.map V.str)) ∧ ∀ H', Same H H' → Q (.bl true) H'
abbrev NLr : List Str := ["table", "rows", "known", "names", "given", "left", "fewer", "told", "name", "k"]
theorem scLeftR : FnScope NLr ["table", "rows", "known", "names"] (defScope sLeftR) := ⟨rfl, rfl, rfl, by decide +kernel, rfl, by decide +kernel, by decide +kernel⟩
section
variable {P : Program} {w : World} {K : PySem.W.Frag} {mg : Str → Option Value} {base : Heap} {f C fL fR fI fQ fT : Addr} {fd fdL fdR fdI fdQ fdT : FuncData}
theorem ok_leftR (F : Fun K "_law_left_right" "_law_left_right" sLeftR f fd) (T : TabC K C) (GL : FnOk P w K mg base CX0 3 fL fdL ["self", "answers"] (spLeft C)) (FL : Fun K "left" "Table.left" sLeft fL fdL) (mL : Meth K C "left" fL)
    (GR : FnOk P w K mg base CX0 2 fR fdR ["self"] (spRowsM C)) (FR : Fun K "rows" "Table.rows" sRowsM fR fdR) (mR : Meth K C "rows" fR) (M : Mk K C fI) (GI : FnOk P w K mg base CX0 3 fI fdI ["self", "rows"] (spInit C)) (FI : Fun K "__init__" "Table.__init__" sInit fI fdI)
    (FQ : Fun K "questions" "Table.questions" sQs fQ fdQ) (mQ : Meth K C "questions" fQ) (GT : FnOk P w K mg base CX0 6 fT fdT ["field", "known"] (spToldBy K C)) (FT : Fun K "told_by" "told_by" sTold fT fdT) (gT : mg "told_by" = some (.ref fT))
    (gC : mg "Table" = some (.ref C)) (gD : mg "dict" = none) (gSo : mg "sorted" = none) (gA : mg "all" = none) (gL : mg "list" = none) : FnOk P w K mg base CX0 7 f fd ["table", "rows", "known", "names"] (spLeftR C) := by
  have GQ : FnOk P w K mg base CX0 1 fQ fdQ ["self"] (spQs K C) := ok_qs FQ T gL
  have bQ := FQ.binds (ps := ["self"]) fun _ _ _ _ _ _ us hl => match us, hl with | [_], _ => rfl
  have bL := FL.binds (ps := ["self", "answers"]) fun _ _ _ _ _ _ us hl => match us, hl with | [_, _], _ => rfl
  have bR := FR.binds (ps := ["self"]) fun _ _ _ _ _ _ us hl => match us, hl with | [_], _ => rfl
  have bI := FI.binds (ps := ["self", "rows"]) fun _ _ _ _ _ _ us hl => match us, hl with | [_, _], _ => rfl
  have bT := FT.binds (ps := ["field", "known"]) fun _ _ _ _ _ _ us hl => match us, hl with | [_, _], _ => rfl
  refine F.ok scLeftR (fun vs H Q E h => by obtain ⟨q, r, c, n, as, ns, known, tbl, e, _⟩ := h; rw [e]; rfl) fun cdv A outer s H vs Q E hr hsp => ?_
  obtain ⟨q, r, c, n, as, ns, known, tbl, rfl, tab, W, t60, or, rows, oc, knd, sub, on, hq⟩ := hsp
  obtain ⟨dx, qa, ra, ha, hqa, hra⟩ := id tab.ex
  have nd := scLeftR.nd
  have hu := hu_of hr
  have hu64 := hr.units
  have w1 := W.l1
  have kl : known.length ≤ ns.length := nodup_short knd sub
  have las : as.length = tbl.length := Paired.length rows
  have pos : 0 < tbl.length := List.length_pos_iff.mpr W.t
  refine ⟨_, pss_cons (ps_set (i := 4) nd rfl (Or.inl rfl) (pe_callTy (call_dictP rfl) rfl gD (by decide +kernel) (pa_cons (pe_lc (own := [("name", 8)]) (tt := tYes) (g := gName 8) (te := tTup (tCons (tVar 8) (tCons (tDGet (tOp (rIxL K) (tVar 1) (tC (.int 0))) (tVar 8)) tNil))) rfl nd (pi_list (pv 2)) (blkOk_by (N := NLr) (sc := defScope sLeftR) (by decide +kernel)) (fun _ _ _ _ _ => pg_name (i := 8) nd rfl (Or.inl rfl)) (fun _ _ _ _ _ => pts_nil)
        (fun _ _ _ _ _ => pe_tup (pa_cons (pv 8) (pa_cons (pe_dget hu (pe_ix (r := rIxL K) ix_list (pv 1) pe_int (fun _ _ => rfl)) (pv 8) (fun _ _ => rfl)) pa_nil)))) pa_nil)))
    (pss_cons (ps_set (i := 5) nd rfl (Or.inl rfl) (pe_meth (pv 0) T.cl mL GL (hr.mono (by decide)) bL .nil pass0 (pa_cons (pv 4) pa_nil)))
    (pss_cons (ps_if (PW.pt (pw_or (pt_cmpR op_notIn_seq pe_int (pv 5) rfl) (pw_or1 (pt_cmpR (op_neD hu64) (pv 5) (pe_callB cr_sorted rfl gSo boot_sorted (pa_cons (pv 5) pa_nil)) (nomark _))))) (pss_one ps_never) pss_nil)
    (pss_cons (ps_set (i := 6) nd rfl (Or.inl rfl) (pe_make M GI (hr.mono (by decide)) rfl gC bI .nil pass0 (pa_cons (pe_lc (own := [("k", 9)]) (tt := tYes) (g := gName 9) (te := tOp (rIxL K) (tMeth C "rows" (spRowsM C) [] E0 (tVar 0) tNil) (tVar 9)) rfl nd (pi_list (pv 5)) (blkOk_by (N := NLr) (sc := defScope sLeftR) (by decide +kernel)) (fun _ _ _ _ _ => pg_name (i := 9) nd rfl (Or.inl rfl)) (fun _ _ _ _ _ => pts_nil)
        (fun _ _ _ _ _ => pe_ix (r := rIxL K) ix_list (pe_meth0 (pv 0) T.cl mR GR (hr.mono (by decide)) bR .nil pass0) (pv 9) (fun _ _ => rfl))) pa_nil)))
    (pss_cons (ps_set (i := 7) nd rfl (Or.inr rfl) (pe_call GT hr rfl gT FT.kp bT .nil pass0 (pa_cons (pv 6) (pa_cons (pe_lst pa_nil) pa_nil))))
    (pss_one (ps_ret (pe_and (pe_callB (cr_all rfl) rfl gA boot_all' (pa_cons (pe_lc (own := [("name", 8)]) (tt := tYes) (g := gName 8) (te := tOp (rIn K false) (tVar 8) (tVar 7)) rfl nd (pi_list (pv 2)) (blkOk_by (N := NLr) (sc := defScope sLeftR) (by decide +kernel)) (fun _ _ _ _ _ => pg_name (i := 8) nd rfl (Or.inl rfl)) (fun _ _ _ _ _ => pts_nil)
        (fun _ _ _ _ _ => pe_cmpR op_in_seq (pv 8) (pv 7) rfl)) pa_nil)) (pe_one (pe_cmpR (op_eqD hu64) (pe_meth0 (pv 6) T.cl mQ GQ (hr.mono (by decide)) bQ .nil pass0) (pv 3) (nomark _)))))))))), ?_⟩
  obtain ⟨a0, ea0⟩ : ∃ a0, as[0]? = some a0 := ⟨as[0]'(by omega), List.getElem?_eq_getElem _⟩
  obtain ⟨us, eus, oa0, lu⟩ := paired_get rows ea0
  have at0' : atI (as.map V.ref) ((0 : Nat) : Int) = some (.ref a0) := atI_nat (by rw [List.getElem?_map, ea0]; rfl)
  refine ⟨_, rfl, c, rfl, ⟨_, SqL.of oc⟩, given_lc (K := K) ns known us (by omega) (fun j H' s lt => ⟨_, _, SqL.of (s _ _ oc), List.getElem?_eq_getElem (by rw [List.length_map]; exact lt)⟩) (fun H' s => ⟨_, SqL.of (s _ _ oc), by rw [List.length_map]; omega⟩) ?_ ?_⟩
  · rintro j v y H3 H4 Cn Nn ey s3 ⟨rfl, ev⟩ yes
    have ev := ev _ (SqL.of (s3 _ _ oc))
    rw [List.getElem?_map, ey] at ev
    obtain rfl : V.str y = v := Option.some.inj ev
    refine ⟨rfl, ?_⟩
    refine ⟨_, rfl, _, rfl, _, _, _, _, rfl, rfl, SqL.of (s3 _ _ or), at0', _, rfl, a0, _, rfl, dk_av W.nd lu (sub y (List.mem_of_getElem? ey)) ▸ DGet.k (k := Sum.inr y) (s3 _ _ oa0), (by rw [sizeLine_eq]; show 2 ≤ _; omega), fun t nt => ?_⟩
    exact yes t _ upd_same (same_new nt)
  intro H1 D ps nD oD pr k1
  refine ⟨D, ps, _, rfl, SqL.of oD, pr, fun g ng => ?_⟩
  rw [gvn_merge knd]
  have kg := same_new (o := .dK (gvn ns known us)) ng
  have og : upd H1 g (.dK (gvn ns known us)) g = some (.dK (gvn ns known us)) := upd_same
  have k2 := k1.trans kg
  generalize upd H1 g (.dK (gvn ns known us)) = H2 at og k2
  refine ⟨_, rfl, q, dx, _, rfl, k2 _ _ ha, rfl, _, rfl, q, g, ns, known, us, tbl, rfl, tab.same k2, W, og, knd, sub, fun H3 l nl ol k3 => ?_⟩
  rw [leftK_map] at ol
  have k03 := k2.trans k3
  have zin : 0 ∈ leftL ns known us tbl := left_mem.mpr ⟨us, eus, rfl⟩
  have zinK : (0 : Int) ∈ leftK ns known us tbl := List.mem_map.mpr ⟨0, zin, rfl⟩
  have ll : (leftL ns known us tbl).length ≤ tbl.length := by
    have := List.length_filter_le (fun i => agree ns known us (tbl.getD i [])) (List.range tbl.length)
    rw [List.length_range] at this
    exact this
  have lk : (leftK ns known us tbl).length = (leftL ns known us tbl).length := by unfold leftK; rw [List.length_map]
  refine ⟨_, rfl, l, _, rfl, .inl (SqL.of ol), rfl, flat_nums _, _, rfl, ?_⟩
  rw [inV_nums, decide_eq_true zinK]
  refine iteF ?_
  refine ⟨_, rfl, _, rfl, l, _, rfl, SqL.of ol, by omega, fun ms p perm up np => ?_⟩
  obtain rfl : ms = leftK ns known us tbl := sorted_one perm up (leftK_up _ _ _ _)
  have kp := same_new (o := .lst ((leftK ns known us tbl).map V.int)) np
  refine ⟨_, _, dp_intsL (kp _ _ ol), dp_intsL upd_same, ints_shaped _, ints_shaped _, _, rfl, ?_⟩
  rw [ints_eqv, decide_eq_true rfl]
  refine iteF ?_
  have k04 := k03.trans kp
  have ol4 := kp _ _ ol
  generalize upd H3 p (.lst ((leftK ns known us tbl).map V.int)) = H4 at k04 ol4
  refine ⟨_, rfl, l, rfl, ⟨_, SqL.of ol4⟩, lc_made (leftK ns known us tbl).length (by omega) (fun i H' k lt => ⟨_, _, SqL.of (k _ _ ol4), List.getElem?_eq_getElem (by rw [List.length_map]; exact lt)⟩) (fun H' k => ⟨_, SqL.of (k _ _ ol4), by rw [List.length_map]; omega⟩)
    (fun i y H' => ∃ t u, y = V.ref t ∧ (leftT ns known us tbl)[i]? = some u ∧ H' t = some (.dK (dk ns u)) ∧ u.length = ns.length) ?_ ?_ ?_⟩
  · rintro i y H5 H6 D l ⟨t, u, rfl, eu, ot, lu⟩ oD keep
    exact ⟨t, u, rfl, eu, keep _ _ (ne_of ot oD (by intro z; cases z)) ot, lu⟩
  · rintro i v H5 H6 Cn Nn lt s5 ⟨rfl, ev⟩ yes
    have ev := ev _ (SqL.of (s5 _ _ ol4))
    rw [List.getElem?_map] at ev
    obtain ⟨z, ez, rfl⟩ := Option.map_eq_some_iff.mp ev
    unfold leftK at ez
    rw [List.getElem?_map] at ez
    obtain ⟨j, ej, rfl⟩ := Option.map_eq_some_iff.mp ez
    obtain ⟨u, eu, ku⟩ := left_mem.mp (List.mem_of_getElem? ej)
    have k05 := k04.trans s5
    refine ⟨rfl, ?_⟩
    refine ⟨_, rfl, q, dx, _, rfl, k05 _ _ ha, rfl, q, ns, tbl, rfl, tab.same k05, W.nd, by omega, by omega, fun H6 l2 bs nl2 ol2 rows2 _ k6 => ?_⟩
    have lbs : bs.length = tbl.length := Paired.length rows2
    have jl : j < bs.length := by rw [lbs]; exact (List.getElem?_eq_some_iff.mp eu).1
    obtain ⟨u', eu', ob, lu'⟩ := paired_get rows2 (List.getElem?_eq_getElem jl)
    obtain rfl : u = u' := by rw [eu] at eu'; exact Option.some.inj eu'
    refine ⟨_, rfl, _, _, _, _, rfl, rfl, SqL.of ol2, atI_nat (by rw [List.getElem?_map, List.getElem?_eq_getElem jl]; rfl), yes _ _ ⟨bs[j], u, rfl, ?_, ob, lu'⟩ k6⟩
    unfold leftT
    rw [List.getElem?_map, ej, Option.map_some, List.getD_eq_getElem?_getD, eu]
    rfl
  intro H5 D2 ys nD2 oD2 ly ry k5
  have lt : (leftT ns known us tbl).length = (leftL ns known us tbl).length := by unfold leftT; rw [List.length_map]
  obtain ⟨bs, rfl, pa⟩ := addrs_of (H := H5) (P := fun i t => ∃ u, (leftT ns known us tbl)[i]? = some u ∧ H5 t = some (.dK (dk ns u)) ∧ u.length = ns.length) ys 0 fun j y e => by
    obtain ⟨t, u, e1, e2, e3, e4⟩ := ry j y e
    exact ⟨t, e1, u, by simpa using e2, e3, e4⟩
  have dd : DRows H5 ns bs (leftT ns known us tbl) := paired_of bs _ (by rw [lt, ← lk, ← ly, List.length_map]) fun i t u et eu => by
    obtain ⟨u', e2, e3, e4⟩ := pa i t et
    rw [Nat.zero_add, eu] at e2
    cases e2
    exact ⟨e3, e4⟩
  have k05 := k04.trans k5
  refine fun x dy nx ndy nex => ?_
  have kx : Same H5 (upd (upd H5 dy (.own x)) x (.ins C dy [])) := fun b o e => by rw [upd_ne (ne_of_none e nx), upd_ne (ne_of_none e ndy)]; exact e
  have tne : leftT ns known us tbl ≠ [] := by
    intro z
    have : (leftL ns known us tbl) = [] := by unfold leftT at z; exact List.map_eq_nil_iff.mp z
    rw [this] at zin
    cases zin
  refine ⟨x, dy, D2, bs, ns, leftT ns known us tbl, rfl, upd_same, kx _ _ oD2, dd.same kx, tne, by omega, W.ne, W.nd, W.ok, by omega, fun H6 T6 fr => ⟨rfl, ?_⟩⟩
  have k06 : Same H H6 := fun b o e => fr b o (ne_of_none (k05 _ _ e) nx) (kx _ _ (k05 _ _ e))
  refine ⟨_, rfl, Nat.zero_le _, fun e0 ne0 => ?_⟩
  have ke := same_new (o := .lst []) ne0
  have oe : upd H6 e0 (.lst []) e0 = some (.lst []) := upd_same
  have T7 := T6.same ke
  have k07 := k06.trans ke
  generalize upd H6 e0 (.lst []) = H7 at oe T7 k07
  refine ⟨x, e0, ns, [], leftT ns known us tbl, rfl, ⟨T7, .inl oe, List.nodup_nil, fun y hy => absurd hy (by simp), by omega, by omega, W.nd⟩, fun H8 td ntd otd k8 => ?_⟩
  have k08 := k07.trans k8
  have T8 := T7.same k8
  refine ⟨_, rfl, c, rfl, ⟨_, SqL.of (k08 _ _ oc)⟩, lc_gen (bools known.length) (by rw [bools_len]; omega) (fun j H' s lt => ⟨_, _, SqL.of (s _ _ (k08 _ _ oc)), List.getElem?_eq_getElem (by rw [List.length_map]; rw [bools_len] at lt; exact lt)⟩) (fun H' s => ⟨_, SqL.of (s _ _ (k08 _ _ oc)), by rw [List.length_map, bools_len]; omega⟩) ?_ ?_⟩
  · rintro j v y H9 H10 Cn Nn ey s9 ⟨rfl, ev⟩ yes
    obtain ⟨rfl, lt⟩ := bools_at ey
    have ev := ev _ (SqL.of (s9 _ _ (k08 _ _ oc)))
    rw [List.getElem?_map] at ev
    obtain ⟨y, ey2, rfl⟩ := Option.map_eq_some_iff.mp ev
    have yk := List.mem_of_getElem? ey2
    refine ⟨rfl, ?_⟩
    refine ⟨_, rfl, _, rfl, td, _, rfl, .inl (SqL.of (s9 _ _ otd)), rfl, flat_strs _, ?_⟩
    have yin : y ∈ toldL ns (leftT ns known us tbl) [] := told_mem.mpr ⟨sub y yk, fun u hu v hv _ => by
      have e1 := key_mem (leftT_mem hu).2 y yk
      have e2 := key_mem (leftT_mem hv).2 y yk
      rw [e1, e2]⟩
    have z := yes _ (Same.refl _)
    rw [show V.bl true = V.bl (decide (y ∈ toldL ns (leftT ns known us tbl) [])) from by rw [decide_eq_true yin], ← inV_strs] at z
    exact z
  intro H9 D3 nD3 oD3 k9
  rw [bools_map] at oD3
  refine ⟨D3, _, rfl, SqL.of oD3, _, rfl, ?_⟩
  rw [all_true]
  refine iteT ?_
  have T9 := T8.same k9
  obtain ⟨dz, qz, rz, hz, hqz, hrz⟩ := id T9.ex
  have k09 := k08.trans k9
  refine ⟨_, rfl, x, dz, _, rfl, hz, rfl, x, ns, _, rfl, T9, fun H10 q2 nq2 oq2 k10 => ?_⟩
  have k010 := k09.trans k10
  have tok : ∀ y ∈ ns, PyData.strOk y = true := fun y hy => nm_strOk (W.ok y hy)
  refine ⟨_, rfl, _, _, dp_list oq2, dp_list (k010 _ _ on), strs_shaped _ tok, strs_shaped _ tok, ?_⟩
  rw [strs_eqv, decide_eq_true rfl]
  exact hq _ k010
end
end L2.TB
namespace L2.TB
open PySem PySem.Spec PyProof.Rows
/-! the law: a turn's rows -/
/-- what the law reads -/
structure LawU (P : Program) (w : World) (K : PySem.W.Frag) (mg : Str → Option Value) (base : Heap) (C fIn : Addr) : Prop where
  T : TabC K C
  start : ∃ f fd, mg "_law_start" = some (.ref f) ∧ Fun K "_law_start" "_law_start" sStart f fd
  draw : ∃ f fd, mg "_law_draw" = some (.ref f) ∧ Fun K "_law_draw" "_law_draw" sDraw f fd
  rows : ∃ f fd, mg "_law_t_rows" = some (.ref f) ∧ Fun K "_law_t_rows" "_law_t_rows" sRows f fd ∧ FnOk P w K mg base CX0 4 f fd ["stream", "many", "rows", "values"] spRows
  sm : ∃ f fd, mg "_law_t_some" = some (.ref f) ∧ Fun K "_law_t_some" "_law_t_some" sSome f fd ∧ FnOk P w K mg base CX0 3 f fd ["stream", "names"] (spSome K)
  mixed : ∃ f fd, mg "_law_mixed" = some (.ref f) ∧ Fun K "_law_mixed" "_law_mixed" sMixed f fd ∧ FnOk P w K mg base CX0 2 f fd ["stream", "some"] (spMixed K)
  same : ∃ f fd, mg "_law_same" = some (.ref f) ∧ Fun K "_law_same" "_law_same" sSame f fd ∧ FnOk P w K mg base CX0 1 f fd ["found", "due"] spSameB
  told : ∃ f fd, mg "told_by" = some (.ref f) ∧ Fun K "told_by" "told_by" sTold f fd ∧ FnOk P w K mg base CX0 6 f fd ["field", "known"] (spToldBy K C)
  hand : ∃ f fd, mg "_law_at_hand" = some (.ref f) ∧ Fun K "_law_at_hand" "_law_at_hand" sAtHand f fd ∧ FnOk P w K mg base CX0 5 f fd ["table", "rows", "known", "asked"] (spAtHand C)
  leftR : ∃ f fd, mg "_law_left_right" = some (.ref f) ∧ Fun K "_law_left_right" "_law_left_right" sLeftR f fd ∧ FnOk P w K mg base CX0 7 f fd ["table", "rows", "known", "names"] (spLeftR C)
  add : ∃ f fd, Meth K C "__add__" f ∧ Fun K "__add__" "Table.__add__" sAdd f fd ∧ FnOk P w K mg base CX0 5 f fd ["self", "other"] (spAdd C)
  len : ∃ f fd, Meth K C "__len__" f ∧ Fun K "__len__" "Table.__len__" sLen f fd ∧ FnOk P w K mg base CX0 1 f fd ["self"] (spLen C)
  rowsM : ∃ f fd, Meth K C "rows" f ∧ Fun K "rows" "Table.rows" sRowsM f fd ∧ FnOk P w K mg base CX0 2 f fd ["self"] (spRowsM C)
  only : ∃ f fd, Meth K C "only" f ∧ Fun K "only" "Table.only" sOnly f fd ∧ FnOk P w K mg base CX0 5 f fd ["self", "names"] (spOnly C)
  tells : ∃ f fd, Meth K C "is_told" f ∧ Fun K "is_told" "Table.is_told" sIsTold f fd ∧ FnOk P w K mg base CX0 5 f fd ["self", "known", "asked"] (spIsTold K C)
  made : Mk K C fIn
  init : ∃ fd, Fun K "__init__" "Table.__init__" sInit fIn fd ∧ FnOk P w K mg base CX0 3 fIn fd ["self", "rows"] (spInit C)
  gC : mg "Table" = some (.ref C)
  sf : PySem.W.selfFirst K C = true
  nR : mg "range" = none
  nD : mg "dict" = none
  M : Sm mg
abbrev NLw : List Str := ["script", "stream", "turn", "rows", "names", "more", "k", "name", "whole", "table", "other", "fewer", "known", "told", "few", "row", "one"]
theorem scLaw : FnScope NLw ["script"] (defScope sLaw) := ⟨rfl, rfl, rfl, by decide +kernel, rfl, by decide +kernel, by decide +kernel⟩
def forB : Stmt → List Stmt
  | .For _ _ b _ _ => b
  | _ => []
abbrev bodyT : List Stmt := forB ((defBody sLaw).getD 1 (.Pass ⟨0, 0, 0, 0⟩))
structure Dr0 (H : Hp) (l ls rr n mo : Addr) (as bs : List Addr) (ns : List Str) (tbl t2 : List (List Int)) (N : Int) : Prop where
  S : Strm H l ls N
  orr : H rr = some (.lst (as.map V.ref))
  rl : rr ≠ l
  rls : rr ≠ ls
  R : RowsAt H l ls ns as tbl
  on : H n = some (.lst (ns.map V.str))
  nl : n ≠ l
  nls : n ≠ ls
  om : H mo = some (.lst (bs.map V.ref))
  M : RowsAt H l ls ns bs t2
  om2 : mo ≠ l ∧ mo ≠ ls
  W : Wide ns tbl
  few : tbl.length ≤ 20
  mne : t2 ≠ []
  few2 : t2.length ≤ 4
section
variable {P : Program} {w : World} {K : PySem.W.Frag} {mg : Str → Option Value} {base : Heap} {f C fIn : Addr} {fd : FuncData}
theorem turn_a (L : LawU P w K mg base C fIn) {cdv : Value} {A : Around} {outer : List Env} {s : Shared} {H : Hp} {E : XK} (hr : Room 7 (A.deeper (envOfC "law" (defScope sLaw) s.heap.objs.size f cdv))) {rest : List Stmt} {u : TS} (hrest : PSs (cxOf CX0 P w K mg base NLw "law" (defScope sLaw) f cdv A outer s H E).nox rest u) :
    ∃ t, PSs (cxOf CX0 P w K mg base NLw "law" (defScope sLaw) f cdv A outer s H E).nox (bodyT.take 4 ++ rest) t ∧ ∀ (D : Ends) (H0 : Hp) (s0 s2 s3 s4 s5 s6 s7 s8 s9 s10 s11 s12 s13 s14 s15 s16 : Option V) (l ls : Addr) (N : Int), Strm H0 l ls N → N ≤ 400000 →
      (∀ H' rr n mo k' nm' as bs ns tbl t2, Dr0 H' l ls rr n mo as bs ns tbl t2 (N + 1100) → u D [s0, some (.ref l), s2, some (.ref rr), some (.ref n), some (.ref mo), k', nm', s8, s9, s10, s11, s12, s13, s14, s15, s16] H') →
      t D [s0, some (.ref l), s2, s3, s4, s5, s6, s7, s8, s9, s10, s11, s12, s13, s14, s15, s16] H0 := by
  obtain ⟨fR, fdR, gR, FR, GR⟩ := L.rows
  obtain ⟨fD, fdD, gD, FD⟩ := L.draw
  have GD : FnOk P w K mg base CX0 1 fD fdD ["stream", "many"] spDraw := ok_draw FD L.M.nInt
  have bD := FD.binds (ps := ["stream", "many"]) fun _ _ _ _ _ _ us hl => match us, hl with | [_, _], _ => rfl
  have bR := FR.binds (ps := ["stream", "many", "rows", "values"]) fun _ _ _ _ _ _ us hl => match us, hl with | [_, _, _, _], _ => rfl
  have nd := scLaw.nd
  have hu := hu_of hr
  refine ⟨_, pss_cons (ps_set (i := 3) nd rfl (Or.inl rfl) (pe_call GR (hr.mono (by decide)) rfl gR FR.kp bR .nil pass0 (pa_cons (pv 1) (pa_cons pe_int (pa_cons pe_int (pa_cons pe_int pa_nil))))))
    (pss_cons (ps_set (i := 4) nd rfl (Or.inl rfl) (pe_callTy (call_listD rfl) rfl L.M.nL boot_list' (pa_cons (pe_ix ix_list (pv 3) pe_int (fun _ _ => rfl)) pa_nil)))
    (pss_cons (ps_set (i := 5) nd rfl (Or.inl rfl) (pe_lst pa_nil))
    (pss_cons (ps_for PassesOwn.never rfl (pi_range1 rfl L.nR (pa_cons (pe_op op_add pe_int (pe_call GD (hr.mono (by decide)) rfl gD FD.kp bD .nil pass0 (pa_cons (pv 1) (pa_cons pe_int pa_nil)))) pa_nil)) (pg_name (i := 6) nd rfl (Or.inl rfl))
      (pss_one (ps_expr (pe_bm PySem.F.plainAttrs_list PySem.F.slot_list_append PySem.F.type_list_append mt_append (pv 5) (pa_cons (pe_callTy (call_dictP rfl) rfl L.nD (by decide +kernel) (pa_cons (pe_lc (own := [("name", 7)]) (tt := tYes) rfl nd (pi_list (pv 4)) (blkOk_by (N := NLw) (sc := defScope sLaw) (by decide +kernel))
        (fun _ _ _ _ _ => pg_name (i := 7) nd rfl (Or.inl rfl)) (fun _ _ _ _ _ => pts_nil) (fun _ _ _ _ _ => pe_tup (pa_cons (pv 7) (pa_cons (pe_op op_sub (pe_call GD (hr.mono (by decide)) rfl gD FD.kp bD .nil pass0 (pa_cons (pv 1) (pa_cons pe_int pa_nil))) pe_int) pa_nil)))) pa_nil)) pa_nil))))) hrest))), ?_⟩
  intro D H0 s0 s2 s3 s4 s5 s6 s7 s8 s9 s10 s11 s12 s13 s14 s15 s16 l ls N S0 hN fin
  refine ⟨_, rfl, l, ls, 5, 7, 3, N, rfl, S0, by omega, by decide, by decide, by decide, by decide, by decide, by decide, fun H1 rr as ns tbl lns nn nnd nok ltbl tn nrr rl rls orr R S1 B1 => ?_⟩
  have D1 : DRows H1 ns as tbl := Paired.mapP R fun a vs h => ⟨h.1, h.2.1⟩
  have pos : 0 < tbl.length := List.length_pos_iff.mpr tn
  have las : as.length = tbl.length := Paired.length D1
  obtain ⟨a0, ea0⟩ : ∃ a0, as[0]? = some a0 := ⟨as[0]'(by omega), List.getElem?_eq_getElem _⟩
  obtain ⟨vs0, ev0, oa0, lv0⟩ := paired_get D1 ea0
  have at0' : atI (as.map V.ref) ((0 : Nat) : Int) = some (.ref a0) := atI_nat (by rw [List.getElem?_map, ea0]; rfl)
  have ekeys : ((dk ns vs0).map fun kv => kV kv.1) = ns.map V.str := by
    have z := congrArg (List.map kV) (dk_keys lv0.symm)
    rw [List.map_map, List.map_map] at z
    exact z
  refine ⟨_, rfl, _, _, _, _, rfl, rfl, SqL.of orr, at0', a0, _, rfl, .inl oa0, fun c nc => ?_⟩
  rw [ekeys]
  have k2 := same_new (o := .lst (ns.map V.str)) nc
  have oc := upd_same (H := H1) (a := c) (o := .lst (ns.map V.str))
  have ac := S1.apart (Same.refl _) nc
  have S2 := S1.same k2
  have R2 : RowsAt (upd H1 c (.lst (ns.map V.str))) l ls ns as tbl := Paired.mapP R fun a vs h => ⟨k2 _ _ h.1, h.2⟩
  have orr2 := k2 _ _ orr
  generalize upd H1 c (.lst (ns.map V.str)) = H2 at k2 oc S2 R2 orr2
  refine ⟨Nat.zero_le _, fun q nq => ?_⟩
  have aq := S2.apart (Same.refl _) nq
  have k3 := same_new (o := .lst []) nq
  have cq : c ≠ q := fun z => by rw [z, nq] at oc; cases oc
  refine ⟨_, rfl, l, ls, 3, _, rfl, S2.same k3, by omega, by decide, by decide, fun H3 r' r0' r1' S3 B3 => ?_⟩
  have B23 : But l ls H2 H3 := (But.of k3).trans B3
  have oc3 := B23 _ _ ac.1 ac.2 oc
  have oq3 := B3 _ _ aq.1 aq.2 (upd_same (H := H2) (a := q) (o := .lst []))
  refine ⟨_, _, rfl, rfl, 1 + r', rfl, by omega, by omega, for_range (n := (1 + r').toNat) (fun i σ H' => (∃ bs t2, H' q = some (.lst ((bs : List Addr).map V.ref)) ∧ RowsAt H' l ls ns bs t2 ∧ t2.length = i) ∧ H' c = some (.lst (ns.map V.str)) ∧ Strm H' l ls (N + 1010 + 12 * i) ∧ But l ls H2 H' ∧
    ∃ s6 s7, σ = [s0, some (.ref l), s2, some (.ref rr), some (.ref c), some (.ref q), s6, s7, s8, s9, s10, s11, s12, s13, s14, s15, s16]) ⟨⟨[], [], oq3, .nil, rfl⟩, oc3, S3.mono (by omega), B23, _, _, rfl⟩ ?_ ?_⟩
  · rintro i σ H4 hi ⟨⟨bs, t2, oq4, R4, lt4⟩, oc4, S4, B4, s6, s7, rfl⟩
    have hi2 : (i : Int) < 3 := by omega
    refine ⟨_, rfl, .inl ⟨rfl, _, SqL.of oq4⟩, _, rfl, c, rfl, ⟨_, SqL.of oc4⟩, fun D nD => ?_⟩
    have aD := S4.apart (Same.refl _) nD
    have Dq : D ≠ q := fun z => by rw [z, oq4] at nD; cases nD
    refine lc_list (xs := ns.map V.str) (fun j H' => ∃ ps vs, H' D = some (.lst ((ps : List Addr).map V.ref)) ∧ Paired (fun p (kv : Str × Int) => H' p = some (.tup [.str kv.1, .int kv.2]) ∧ p ≠ l ∧ p ≠ ls) ps ((ns.take j).zip vs) ∧ vs.length = j ∧
      Strm H' l ls (N + 1010 + 12 * i + j) ∧ But l ls H4 H') ⟨[], [], upd_same, .nil, rfl, by simpa using S4.same (same_new nD), But.of (same_new nD)⟩ (fun j H' _ h => SqL.of (h.choose_spec.choose_spec.2.2.2.2 _ _ ac.1 ac.2 oc4)) ?_ ?_
    · rintro j v H5 ev ⟨ps, vs, oD, pr, lv, S5, B5⟩
      rw [List.getElem?_map] at ev
      obtain ⟨x, ex, rfl⟩ := Option.map_eq_some_iff.mp ev
      have hj : j < ns.length := (List.getElem?_eq_some_iff.mp ex).1
      have et : ns.take (j + 1) = ns.take j ++ [x] := by rw [List.take_succ, ex]; rfl
      refine ⟨rfl, ?_⟩
      refine ⟨_, rfl, _, rfl, l, ls, 3, _, rfl, S5, by omega, by decide, by decide, fun H6 z z0 z1 S6 B6 => ?_⟩
      refine ⟨_, _, rfl, rfl, (by rw [sizeLine_eq]; show 2 ≤ _; omega), fun p np => ?_⟩
      have ap := S6.apart (Same.refl _) np
      have k6 := same_new (o := .tup [.str x, .int (z - 1)]) np
      have oD6 := B6 _ _ aD.1 aD.2 oD
      have pD : p ≠ D := fun y => by rw [y, oD6] at np; cases np
      have lps : ps.length = j := by
        have e := Paired.length pr
        rw [List.length_zip, List.length_take] at e
        omega
      refine ⟨_, k6 _ _ oD6, (by rw [sizeLine_eq, List.length_map]; omega), ps ++ [p], vs ++ [z - 1], by rw [upd_same]; simp, ?_, by simp [lv], ?_, ?_⟩
      · rw [et, List.zip_append (by rw [List.length_take]; omega)]
        refine paired_snoc ⟨by rw [upd_ne pD, upd_same], ap⟩ (Paired.mapP pr fun a kv h => ⟨?_, h.2⟩)
        have na : a ≠ D := fun y => by rw [y, oD] at h; cases h.1
        rw [upd_ne na]
        exact k6 _ _ (B6 _ _ h.2.1 h.2.2 h.1)
      · obtain ⟨cs', g, k, m, S⟩ := S6.same k6
        exact Strm.mono ⟨cs', g, k, m, by rw [upd_ne (Ne.symm aD.1)]; exact S.o, by rw [upd_ne (Ne.symm aD.2)]; exact S.c, S.ne, S.g0, S.k0, S.k1, S.m0, S.m1, S.sz⟩ (by omega)
      · intro b' o h1 h2 e
        have nb : b' ≠ D := ne_of_none e nD
        rw [upd_ne nb]
        exact k6 _ _ (B6 _ _ h1 h2 (B5 _ _ h1 h2 e))
    · rintro H5 ⟨ps, vs, oD, pr, lv, S5, B5⟩
      have etk : ns.take (ns.map V.str).length = ns := List.take_of_length_le (by rw [List.length_map]; omega)
      rw [etk] at pr
      have lv2 : vs.length = ns.length := by rw [lv, List.length_map]
      refine ⟨D, ps, dk ns vs, rfl, SqL.of oD, paired_map (Paired.mapP pr fun p kv h => SqT.of h.1), fun p np => ?_⟩
      rw [merge_nd (dk_nd lv2.symm nnd)]
      have ap := S5.apart (Same.refl _) np
      have k5 := same_new (o := .dK (dk ns vs)) np
      have oq5 := k5 _ _ (B5 _ _ aq.1 aq.2 oq4)
      have las : bs.length = i := by rw [Paired.length R4, lt4]
      have pq : p ≠ q := fun y => by rw [y, B5 _ _ aq.1 aq.2 oq4] at np; cases np
      refine ⟨q, bs.map V.ref, .ref p, rfl, rfl, oq5, (by rw [sizeLine_eq, List.length_map]; omega), ⟨bs ++ [p], t2 ++ [vs], by rw [upd_same]; simp, ?_, by simp [lt4]⟩, ?_, ?_, ?_, _, _, rfl⟩
      · refine paired_snoc ⟨by rw [upd_ne pq, upd_same], lv2, ap⟩ (Paired.mapP R4 fun a vs' h => ⟨?_, h.2⟩)
        have na : a ≠ q := fun y => by rw [y, oq4] at h; cases h.1
        rw [upd_ne na]
        exact k5 _ _ (B5 _ _ h.2.2.1 h.2.2.2 h.1)
      · rw [upd_ne cq]
        exact k5 _ _ (B5 _ _ ac.1 ac.2 oc4)
      · obtain ⟨cs', g, k, m, S⟩ := S5.same k5
        have lx : (ns.map V.str).length ≤ 10 := by rw [List.length_map]; omega
        exact Strm.mono ⟨cs', g, k, m, by rw [upd_ne (Ne.symm aq.1)]; exact S.o, by rw [upd_ne (Ne.symm aq.2)]; exact S.c, S.ne, S.g0, S.k0, S.k1, S.m0, S.m1, S.sz⟩ (by omega)
      · intro b' o h1 h2 e
        have nb : b' ≠ q := ne_of_none e nq
        rw [upd_ne nb]
        exact k5 _ _ (B5 _ _ h1 h2 (B4 _ _ h1 h2 e))
  · rintro σ H4 ⟨⟨bs, t2, oq4, R4, lt4⟩, oc4, S4, B4, s6, s7, rfl⟩
    have mn : t2 ≠ [] := fun z => by
      rw [z] at lt4
      have e : (0 : Nat) = (1 + r').toNat := lt4
      omega
    exact fin H4 rr c q _ _ as bs ns tbl t2 ⟨S4.mono (by omega), B4 _ _ rl rls orr2, rl, rls, R2.but B4, oc4, ac.1, ac.2, oq4, R4, aq, ⟨nnd, nn, nok, lns, by omega, tn⟩, ltbl, mn, by omega⟩
end
end L2.TB
namespace L2.TB
open PySem PySem.Spec PyProof.Rows
/-! the law: a turn's tables -/
theorem made_tab {C r : Addr} {as : List Addr} {ns : List Str} {tbl : List (List Int)} {H : Hp} {E : XK} {Q : Addr → Hp → Prop} (orr : H r = some (.lst (as.map V.ref))) (D : DRows H ns as tbl) (W : Wide ns tbl) (fin : ∀ H' x, H x = none → TabAt H' C x ns tbl → Same H H' → Q x H') :
    ∀ x dx, H x = none → H dx = none → dx ≠ x → spInit C (.ref x :: ([.ref r] ++ [])) (upd (upd H dx (.own x)) x (.ins C dx [])) (fun v H2 => v = .non ∧ Q x H2) E := by
  intro x dx nx ndx nex
  have kx : Same H (upd (upd H dx (.own x)) x (.ins C dx [])) := fun b o e => by rw [upd_ne (ne_of_none e nx), upd_ne (ne_of_none e ndx)]; exact e
  have w1 := W.l1
  have w2 := W.l2
  exact ⟨x, dx, r, as, ns, tbl, rfl, upd_same, kx _ _ orr, D.same kx, W.t, by omega, W.ne, W.nd, W.ok, by omega, fun H2 T fr => ⟨rfl, fin H2 x nx T fun b o e => fr b o (ne_of_none e nx) (kx _ _ e)⟩⟩
theorem pick_rows {H : Hp} {ns : List Str} {tbl : List (List Int)} : ∀ zs : List V, (∀ z ∈ zs, ∃ a u, z = V.ref a ∧ u ∈ tbl ∧ H a = some (.dK (dk ns u)) ∧ u.length = ns.length) → ∃ cs tf, zs = (cs : List Addr).map V.ref ∧ DRows H ns cs tf ∧ ∀ u ∈ tf, u ∈ tbl
  | [], _ => ⟨[], [], rfl, .nil, fun u h => by cases h⟩
  | z :: zs, h => by
    obtain ⟨a, u, rfl, uin, oa, lu⟩ := h z List.mem_cons_self
    obtain ⟨cs, tf, rfl, D, sub⟩ := pick_rows zs fun z hz => h z (List.mem_cons_of_mem _ hz)
    refine ⟨a :: cs, u :: tf, rfl, .cons ⟨oa, lu⟩ D, fun v hv => ?_⟩
    rcases List.mem_cons.mp hv with rfl | hv
    · exact uin
    · exact sub v hv
structure Dr1 (K : PySem.W.Frag) (H : Hp) (C l ls rr n mo wh tb ot fw kn td : Addr) (as bs : List Addr) (ns known : List Str) (tbl t2 tf : List (List Int)) (N : Int) : Prop where
  S : Strm H l ls N
  orr : H rr = some (.lst (as.map V.ref))
  D : DRows H ns as tbl
  on : H n = some (.lst (ns.map V.str))
  om : H mo = some (.lst (bs.map V.ref))
  DM : DRows H ns bs t2
  twh : TabAt H C wh ns (tbl ++ t2)
  ttb : TabAt H C tb ns tbl
  tot : TabAt H C ot ns t2
  tfw : TabAt H C fw ns tf
  fsub : ∀ u ∈ tf, u ∈ tbl
  lf : tf.length ≤ 20
  okn : H kn = some (.lst (known.map V.str))
  nd : known.Nodup
  sub : ∀ x ∈ known, x ∈ ns
  otd : H td = some (.lst ((toldL ns tbl known).map V.str))
  W : Wide ns tbl
  few : tbl.length ≤ 20
  mne : t2 ≠ []
  few2 : t2.length ≤ 4
section
variable {P : Program} {w : World} {K : PySem.W.Frag} {mg : Str → Option Value} {base : Heap} {f C fIn : Addr} {fd : FuncData}
theorem turn_b (L : LawU P w K mg base C fIn) {cdv : Value} {A : Around} {outer : List Env} {s : Shared} {H : Hp} {E : XK} (hr : Room 7 (A.deeper (envOfC "law" (defScope sLaw) s.heap.objs.size f cdv))) {rest : List Stmt} {u : TS} (hrest : PSs (cxOf CX0 P w K mg base NLw "law" (defScope sLaw) f cdv A outer s H E).nox rest u) :
    ∃ t, PSs (cxOf CX0 P w K mg base NLw "law" (defScope sLaw) f cdv A outer s H E).nox ((bodyT.drop 4).take 5 ++ rest) t ∧ ∀ (D : Ends) (H0 : Hp) (s0 s2 s6 s7 s8 s9 s10 s11 s12 s13 s14 s15 s16 : Option V) (l ls rr n mo : Addr) (as bs : List Addr) (ns : List Str) (tbl t2 : List (List Int)) (N : Int), Dr0 H0 l ls rr n mo as bs ns tbl t2 N → N ≤ 500000 →
      (∀ H' wh tb ot fw kn td known tf, Dr1 K H' C l ls rr n mo wh tb ot fw kn td as bs ns known tbl t2 tf (N + 400) → u D [s0, some (.ref l), s2, some (.ref rr), some (.ref n), some (.ref mo), s6, s7, some (.ref wh), some (.ref tb), some (.ref ot), some (.ref fw), some (.ref kn), some (.ref td), s14, s15, s16] H') →
      t D [s0, some (.ref l), s2, some (.ref rr), some (.ref n), some (.ref mo), s6, s7, s8, s9, s10, s11, s12, s13, s14, s15, s16] H0 := by
  obtain ⟨fD, fdD, gD, FD⟩ := L.draw
  have GD : FnOk P w K mg base CX0 1 fD fdD ["stream", "many"] spDraw := ok_draw FD L.M.nInt
  have bD := FD.binds (ps := ["stream", "many"]) fun _ _ _ _ _ _ us hl => match us, hl with | [_, _], _ => rfl
  obtain ⟨fM, fdM, gM, FM, GM⟩ := L.mixed
  have bM := FM.binds (ps := ["stream", "some"]) fun _ _ _ _ _ _ us hl => match us, hl with | [_, _], _ => rfl
  obtain ⟨fS, fdS, gS, FS, GS⟩ := L.sm
  have bS := FS.binds (ps := ["stream", "names"]) fun _ _ _ _ _ _ us hl => match us, hl with | [_, _], _ => rfl
  obtain ⟨fT, fdT, gT, FT, GT⟩ := L.told
  have bT := FT.binds (ps := ["field", "known"]) fun _ _ _ _ _ _ us hl => match us, hl with | [_, _], _ => rfl
  obtain ⟨fdI, FI, GI⟩ := L.init
  have bI := FI.binds (ps := ["self", "rows"]) fun _ _ _ _ _ _ us hl => match us, hl with | [_, _], _ => rfl
  obtain ⟨fA, fdA, mA, FA, GA⟩ := L.add
  have bA := FA.binds (ps := ["self", "other"]) fun _ _ _ _ _ _ us hl => match us, hl with | [_, _], _ => rfl
  have nd := scLaw.nd
  have hu := hu_of hr
  refine ⟨_, pss_cons (ps_set (i := 8) nd rfl (Or.inl rfl) (pe_op (op_addI (E := E0) GA (hr.mono (by decide)) mA L.sf bA pass0) (pe_make L.made GI (hr.mono (by decide)) rfl L.gC bI .nil pass0 (pa_cons (pv 3) pa_nil)) (pe_make L.made GI (hr.mono (by decide)) rfl L.gC bI .nil pass0 (pa_cons (pv 5) pa_nil))))
    (pss_cons (ps_par (i := 9) (j := 10) rfl nd rfl rfl (by decide) rfl rfl (pa_cons (pe_make L.made GI (hr.mono (by decide)) rfl L.gC bI .nil pass0 (pa_cons (pv 3) pa_nil)) (pa_cons (pe_make L.made GI (hr.mono (by decide)) rfl L.gC bI .nil pass0 (pa_cons (pv 5) pa_nil)) pa_nil)) (by rfl))
    (pss_cons (ps_set (i := 11) nd rfl (Or.inr rfl) (pe_make L.made GI (hr.mono (by decide)) rfl L.gC bI .nil pass0 (pa_cons (pe_slice sl_list (pe_call GM (hr.mono (by decide)) rfl gM FM.kp bM .nil pass0 (pa_cons (pv 1) (pa_cons (pv 3) pa_nil))) po_none (po_some (pe_op op_add pe_int (pe_call GD (hr.mono (by decide)) rfl gD FD.kp bD .nil pass0 (pa_cons (pv 1) (pa_cons (pe_callB call_len rfl L.M.nN boot_len (pa_cons (pv 3) pa_nil)) pa_nil)))))) pa_nil)))
    (pss_cons (ps_set (i := 12) nd rfl (Or.inr rfl) (pe_call GS (hr.mono (by decide)) rfl gS FS.kp bS .nil pass0 (pa_cons (pv 1) (pa_cons (pv 4) pa_nil))))
    (pss_cons (ps_set (i := 13) nd rfl (Or.inl rfl) (pe_call GT (hr.mono (by decide)) rfl gT FT.kp bT .nil pass0 (pa_cons (pv 9) (pa_cons (pv 12) pa_nil)))) hrest)))), ?_⟩
  intro D H0 s0 s2 s6 s7 s8 s9 s10 s11 s12 s13 s14 s15 s16 l ls rr n mo as bs ns tbl t2 N d hN fin
  have W := d.W
  have w1 := W.l1
  have few := d.few
  have few2 := d.few2
  have W2 : Wide ns t2 := ⟨W.nd, W.ne, W.ok, W.l1, by omega, d.mne⟩
  have D0 : DRows H0 ns as tbl := Paired.mapP d.R fun a vs h => ⟨h.1, h.2.1⟩
  have M0 : DRows H0 ns bs t2 := Paired.mapP d.M fun a vs h => ⟨h.1, h.2.1⟩
  have las : as.length = tbl.length := Paired.length D0
  have pos : 0 < tbl.length := List.length_pos_iff.mpr W.t
  refine ⟨_, rfl, made_tab d.orr D0 W fun H1 x nx Tx k1 => ?_⟩
  refine ⟨_, rfl, made_tab (k1 _ _ d.om) (M0.same k1) W2 fun H2 y ny Ty k2 => ?_⟩
  obtain ⟨dx, _, _, hx, _, _⟩ := (Tx.same k2).ex
  obtain ⟨dy, _, _, hy, _, _⟩ := Ty.ex
  refine ⟨x, y, dx, dy, _, _, rfl, rfl, hx, hy, x, y, ns, tbl, t2, rfl, Tx.same k2, Ty, W, by omega, fun H3 wh nwh Twh k3 => ⟨wh, rfl, ?_⟩⟩
  have k03 := (k1.trans k2).trans k3
  refine ⟨_, rfl, made_tab (k03 _ _ d.orr) (D0.same k03) W fun H4 tb ntb Ttb k4 => ?_⟩
  refine ⟨_, rfl, made_tab (k4 _ _ (k03 _ _ d.om)) ((M0.same k03).same k4) W2 fun H6 ot not Tot k5 => ?_⟩
  refine ⟨_, _, rfl, ?_⟩
  have k06 := (k03.trans k4).trans k5
  have Twh6 := (Twh.same k4).same k5
  have Ttb6 := Ttb.same k5
  have Tot6 := Tot
  have S6 := d.S.same k06
  have orr6 := k06 _ _ d.orr
  have R6 : RowsAt H6 l ls ns as tbl := Paired.mapP d.R fun a vs h => ⟨k06 _ _ h.1, h.2⟩
  have M6 : RowsAt H6 l ls ns bs t2 := Paired.mapP d.M fun a vs h => ⟨k06 _ _ h.1, h.2⟩
  refine ⟨_, rfl, _, rfl, l, ls, rr, as.map V.ref, N, rfl, S6, by omega, SqL.of orr6, by rw [List.length_map]; omega, fun H7 q ys pm nq oq S7 B7 => ?_⟩
  have aq := S6.apart (Same.refl _) nq
  have orr7 := B7 _ _ d.rl d.rls orr6
  refine ⟨_, rfl, _, rfl, .ref rr, (as.map V.ref).length, rfl, .inl ⟨_, SqL.of orr7, rfl⟩, l, ls, _, _, rfl, S7, by rw [List.length_map]; omega, by rw [List.length_map]; omega, by rw [List.length_map]; omega, fun H8 z z0 z1 S8 B8 => ?_⟩
  have oq8 := B8 _ _ aq.1 aq.2 oq
  refine ⟨_, _, rfl, rfl, ?_⟩
  refine ⟨1 + z, rfl, q, ys, rfl, SqL.of oq8, fun p np => ?_⟩
  have ly : ys.length = as.length := by rw [pm.length_eq, List.length_map]
  rw [List.length_map] at z1
  rw [cut_to ys (1 + z) (by omega) (by rw [ly]; omega)]
  have kp := same_new (o := .lst (ys.take (1 + z).toNat)) np
  have B68 := B7.trans B8
  have B69 : But l ls H6 (upd H8 p (.lst (ys.take (1 + z).toNat))) := B68.trans (But.of kp)
  have S9 := S8.same kp
  have R9 := R6.but B69
  have D9 : DRows (upd H8 p (.lst (ys.take (1 + z).toNat))) ns as tbl := Paired.mapP R9 fun a vs h => ⟨h.1, h.2.1⟩
  have op : upd H8 p (.lst (ys.take (1 + z).toNat)) p = some (.lst (ys.take (1 + z).toNat)) := upd_same
  generalize upd H8 p (.lst (ys.take (1 + z).toNat)) = H9 at B69 S9 R9 D9 op
  obtain ⟨cs, tf, ec, Df, fsub⟩ := pick_rows (H := H9) (ns := ns) (tbl := tbl) (ys.take (1 + z).toNat) fun v hv => by
    have m : v ∈ as.map V.ref := pm.mem_iff.mp (List.mem_of_mem_take hv)
    obtain ⟨a, ha, rfl⟩ := List.mem_map.mp m
    obtain ⟨i, hi, e⟩ := List.getElem_of_mem ha
    obtain ⟨us, eu, oa, lu⟩ := paired_get D9 (show as[i]? = some a by rw [List.getElem?_eq_getElem hi, e])
    exact ⟨a, us, rfl, List.mem_of_getElem? eu, oa, lu⟩
  rw [ec] at op
  have lcs : cs.length = min (1 + z).toNat as.length := by
    have e := congrArg List.length ec
    rw [List.length_take, List.length_map, ly] at e
    exact e.symm
  have ltf : tf.length = cs.length := (Paired.length Df).symm
  have tfne : tf ≠ [] := fun e => by
    rw [e] at ltf
    simp at ltf
    omega
  have Wf : Wide ns tf := ⟨W.nd, W.ne, W.ok, W.l1, by omega, tfne⟩
  refine made_tab op Df Wf fun H10 fw nfw Tfw k10 => ?_
  have S10 := S9.same k10
  have B610 : But l ls H6 H10 := B69.trans (But.of k10)
  have on10 := B610 _ _ d.nl d.nls (k06 _ _ d.on)
  refine ⟨_, rfl, _, rfl, l, ls, n, ns.map V.str, _, rfl, S10, by rw [List.length_map]; omega, on10, d.nl, d.nls, by rw [List.length_map]; omega, fun H11 c ws vs pm2 nc oc S11 B11 => ?_⟩
  have yin : ∀ y ∈ ws, ∃ x, y = V.str x := fun y hy => by
    have z : y ∈ ns.map V.str := pm2.mem_iff.mp (List.mem_append_left _ hy)
    obtain ⟨x, _, rfl⟩ := List.mem_map.mp z
    exact ⟨x, rfl⟩
  obtain ⟨known, rfl⟩ := strs_of ws yin
  have ndall : (known.map V.str ++ vs).Nodup := pm2.nodup_iff.mpr (List.Pairwise.map V.str (fun a b h e => h (V.str.inj e)) W.nd)
  have knd : known.Nodup := by
    have z := (List.nodup_append.mp ndall).1
    exact (List.pairwise_map.mp z).imp fun h e => h (congrArg V.str e)
  have ksub : ∀ x ∈ known, x ∈ ns := fun x hx => by
    have z : V.str x ∈ ns.map V.str := pm2.mem_iff.mp (List.mem_append_left _ (List.mem_map_of_mem hx))
    obtain ⟨y, hy, e⟩ := List.mem_map.mp z
    exact V.str.inj e ▸ hy
  have kl : known.length ≤ ns.length := nodup_short knd ksub
  have B611 := B610.trans B11
  have Ttb11 := Ttb6.but S6 B611 W.ne W.t
  refine ⟨_, rfl, _, rfl, tb, c, ns, known, tbl, rfl, ⟨Ttb11, .inl oc, knd, ksub, by omega, by omega, W.nd⟩, fun H12 td ntd otd k12 => ?_⟩
  have B612 : But l ls H6 H12 := B611.trans (But.of k12)
  have om6 := k06 _ _ d.om
  have mol : mo ≠ l ∧ mo ≠ ls := d.om2
  refine fin H12 wh tb ot fw c td known tf ⟨(S11.same k12).mono (by rw [List.length_map]; omega), B612 _ _ d.rl d.rls orr6, Paired.mapP (R6.but B612) fun a vs h => ⟨h.1, h.2.1⟩, B612 _ _ d.nl d.nls (k06 _ _ d.on), B612 _ _ mol.1 mol.2 om6, Paired.mapP (M6.but B612) fun a vs h => ⟨h.1, h.2.1⟩,
    Twh6.but S6 B612 W.ne (by simp [W.t]), Ttb6.but S6 B612 W.ne W.t, Tot6.but S6 B612 W.ne d.mne, (Tfw.but S10 (B11.trans (But.of k12)) W.ne tfne), fsub, by omega, k12 _ _ oc, knd, ksub, otd, W, d.few, d.mne, d.few2⟩
end
end L2.TB
namespace L2.TB
open PySem PySem.Spec PyProof.Rows
/-! the law: what tables of fewer and of more rows tell -/
theorem Dr1.same {K : PySem.W.Frag} {H H' : Hp} {C l ls rr n mo wh tb ot fw kn td : Addr} {as bs : List Addr} {ns known : List Str} {tbl t2 tf : List (List Int)} {N : Int} (d : Dr1 K H C l ls rr n mo wh tb ot fw kn td as bs ns known tbl t2 tf N) (s : Same H H') :
    Dr1 K H' C l ls rr n mo wh tb ot fw kn td as bs ns known tbl t2 tf N :=
  ⟨d.S.same s, s _ _ d.orr, d.D.same s, s _ _ d.on, s _ _ d.om, d.DM.same s, d.twh.same s, d.ttb.same s, d.tot.same s, d.tfw.same s, d.fsub, d.lf, s _ _ d.okn, d.nd, d.sub, s _ _ d.otd, d.W, d.few, d.mne, d.few2⟩
theorem tells_less {ns K : List Str} {t1 t2 : List (List Int)} {x : Str} (sub : ∀ u ∈ t1, u ∈ t2) (h : Tells ns t2 K x) : Tells ns t1 K x := fun u hu v hv e => h u (sub u hu) v (sub v hv) e
section
variable {P : Program} {w : World} {K : PySem.W.Frag} {mg : Str → Option Value} {base : Heap} {f C fIn : Addr} {fd : FuncData}
abbrev bodyN : List Stmt := forB (bodyT.getD 10 (.Pass ⟨0, 0, 0, 0⟩))
theorem turn_c2 (L : LawU P w K mg base C fIn) {cdv : Value} {A : Around} {outer : List Env} {s : Shared} {H : Hp} {E : XK} (hr : Room 7 (A.deeper (envOfC "law" (defScope sLaw) s.heap.objs.size f cdv))) :
    ∃ t, PSs (cxOf CX0 P w K mg base NLw "law" (defScope sLaw) f cdv A outer s H E).nox (bodyN.drop 1) t ∧ ∀ (D : Ends) (H0 : Hp) (s0 s2 s6 s14 s15 s16 : Option V) (x : Str) (l ls rr n mo wh tb ot fw kn td : Addr) (as bs : List Addr) (ns known : List Str) (tbl t2 tf : List (List Int)) (N : Int), Dr1 K H0 C l ls rr n mo wh tb ot fw kn td as bs ns known tbl t2 tf N → x ∈ ns →
      (∀ H', Same H0 H' → D.nx [s0, some (.ref l), s2, some (.ref rr), some (.ref n), some (.ref mo), s6, some (.str x), some (.ref wh), some (.ref tb), some (.ref ot), some (.ref fw), some (.ref kn), some (.ref td), s14, s15, s16] H') →
      t D [s0, some (.ref l), s2, some (.ref rr), some (.ref n), some (.ref mo), s6, some (.str x), some (.ref wh), some (.ref tb), some (.ref ot), some (.ref fw), some (.ref kn), some (.ref td), s14, s15, s16] H0 := by
  obtain ⟨fI, fdI, mI, FI, GI⟩ := L.tells
  have bI := FI.binds (ps := ["self", "known", "asked"]) fun _ _ _ _ _ _ us hl => match us, hl with | [_, _, _], _ => rfl
  obtain ⟨fS, fdS, gS, FS, GB⟩ := L.same
  have bS := FS.binds (ps := ["found", "due"]) fun _ _ _ _ _ _ us hl => match us, hl with | [_, _], _ => rfl
  obtain ⟨fH, fdH, gH, FH, GH⟩ := L.hand
  have bH := FH.binds (ps := ["table", "rows", "known", "asked"]) fun _ _ _ _ _ _ us hl => match us, hl with | [_, _, _, _], _ => rfl
  have T := L.T
  refine ⟨_, pss_one (ps_if (pt_not (pt_val (pe_call GB (hr.mono (by decide)) rfl gS FS.kp bS .nil pass0 (pa_cons (pe_meth (pv 9) T.cl mI GI (hr.mono (by decide)) bI .nil pass0 (pa_cons (pv 12) (pa_cons (pv 7) pa_nil)))
        (pa_cons (pe_call GH (hr.mono (by decide)) rfl gH FH.kp bH .nil pass0 (pa_cons (pv 9) (pa_cons (pv 3) (pa_cons (pv 12) (pa_cons (pv 7) pa_nil))))) pa_nil))))) (pss_one ps_never) pss_nil), ?_⟩
  intro D H0 s0 s2 s6 s14 s15 s16 x l ls rr n mo wh tb ot fw kn td as bs ns known tbl t2 tf N d xin fin
  have W := d.W
  have w1 := W.l1
  have few := d.few
  have kl : known.length ≤ ns.length := nodup_short d.nd d.sub
  obtain ⟨dt, _, _, htb, _, _⟩ := id d.ttb.ex
  refine ⟨_, rfl, tb, dt, _, rfl, htb, rfl, _, rfl, _, rfl, tb, kn, ns, known, x, tbl, rfl, ⟨d.ttb, .inl d.okn, d.nd, d.sub, by omega, by omega, W.nd⟩, xin, fun H1 k1 => ?_⟩
  have d1 := d.same k1
  refine ⟨_, rfl, _, rfl, _, rfl, _, rfl, tb, rr, kn, as, ns, known, x, tbl, rfl, d1.ttb, W, by omega, d1.orr, d1.D, d1.okn, d.nd, d.sub, xin, fun H2 k2 => ?_⟩
  refine ⟨_, _, rfl, fun H3 k3 => ⟨_, rfl, ?_⟩⟩
  rw [decide_eq_true rfl]
  exact iteF (fin _ ((k1.trans k2).trans k3))
theorem turn_c (L : LawU P w K mg base C fIn) {cdv : Value} {A : Around} {outer : List Env} {s : Shared} {H : Hp} {E : XK} (hr : Room 7 (A.deeper (envOfC "law" (defScope sLaw) s.heap.objs.size f cdv))) {rest : List Stmt} {u : TS} (hrest : PSs (cxOf CX0 P w K mg base NLw "law" (defScope sLaw) f cdv A outer s H E).nox rest u) :
    ∃ t, PSs (cxOf CX0 P w K mg base NLw "law" (defScope sLaw) f cdv A outer s H E).nox ((bodyT.drop 9).take 3 ++ rest) t ∧ ∀ (D : Ends) (H0 : Hp) (s0 s2 s6 s7 s14 s15 s16 : Option V) (l ls rr n mo wh tb ot fw kn td : Addr) (as bs : List Addr) (ns known : List Str) (tbl t2 tf : List (List Int)) (N : Int), Dr1 K H0 C l ls rr n mo wh tb ot fw kn td as bs ns known tbl t2 tf N →
      (∀ H' s7, Same H0 H' → u D [s0, some (.ref l), s2, some (.ref rr), some (.ref n), some (.ref mo), s6, s7, some (.ref wh), some (.ref tb), some (.ref ot), some (.ref fw), some (.ref kn), some (.ref td), s14, s15, s16] H') →
      t D [s0, some (.ref l), s2, some (.ref rr), some (.ref n), some (.ref mo), s6, s7, some (.ref wh), some (.ref tb), some (.ref ot), some (.ref fw), some (.ref kn), some (.ref td), s14, s15, s16] H0 := by
  obtain ⟨fI, fdI, mI, FI, GI⟩ := L.tells
  have bI := FI.binds (ps := ["self", "known", "asked"]) fun _ _ _ _ _ _ us hl => match us, hl with | [_, _, _], _ => rfl
  obtain ⟨u2, p2, r2⟩ := turn_c2 L (outer := outer) (H := H) (E := E) hr
  obtain ⟨fR, fdR, gR, FR, GR⟩ := L.leftR
  have bR := FR.binds (ps := ["table", "rows", "known", "names"]) fun _ _ _ _ _ _ us hl => match us, hl with | [_, _, _, _], _ => rfl
  have T := L.T
  have nd := scLaw.nd
  refine ⟨_, pss_cons (ps_if (pt_not (pt_val (pe_callB (cr_all rfl) rfl L.M.nA boot_all' (pa_cons (pe_lc (own := [("name", 7)]) (tt := tYes) (g := gName 7) (te := tMeth C "is_told" (spIsTold K C) [] E0 (tVar 11) (tCons (tVar 12) (tCons (tVar 7) tNil))) rfl nd (pi_list (pv 13)) (blkOk_by (N := NLw) (sc := defScope sLaw) (by decide +kernel)) (fun _ _ _ _ _ => pg_name (i := 7) nd rfl (Or.inl rfl)) (fun _ _ _ _ _ => pts_nil)
      (fun _ _ _ _ _ => pe_meth (pv 11) T.cl mI GI (hr.mono (by decide)) bI .nil pass0 (pa_cons (pv 12) (pa_cons (pv 7) pa_nil)))) pa_nil)))) (pss_one ps_never) pss_nil)
    (pss_cons (ps_for PassesOwn.never rfl (pi_list (pv 4)) (pg_name (i := 7) nd rfl (Or.inl rfl))
      (pss_cons (ps_if (PW.pt (pw_and (pt_val (pe_meth (pv 8) T.cl mI GI (hr.mono (by decide)) bI .nil pass0 (pa_cons (pv 12) (pa_cons (pv 7) pa_nil))))
          (pw_and1 (pt_not (PW.pt (pw_and (pt_cmpR op_in_seq (pv 7) (pv 13) rfl) (pw_and1 (pt_val (pe_meth (pv 10) T.cl mI GI (hr.mono (by decide)) bI .nil pass0 (pa_cons (pv 12) (pa_cons (pv 7) pa_nil)))))))))))
        (pss_one ps_never) pss_nil)
      p2))
    (pss_cons (ps_if (pt_not (pt_val (pe_call GR hr rfl gR FR.kp bR .nil pass0 (pa_cons (pv 9) (pa_cons (pv 3) (pa_cons (pv 12) (pa_cons (pv 4) pa_nil))))))) (pss_one ps_never) pss_nil) hrest)), ?_⟩
  intro D H0 s0 s2 s6 s7 s14 s15 s16 l ls rr n mo wh tb ot fw kn td as bs ns known tbl t2 tf N d fin
  have W := d.W
  have w1 := W.l1
  have few := d.few
  have few2 := d.few2
  have lf := d.lf
  have kl : known.length ≤ ns.length := nodup_short d.nd d.sub
  have tl : (toldL ns tbl known).length ≤ ns.length := List.length_filter_le _ _
  obtain ⟨df, _, _, hfw, _, _⟩ := id d.tfw.ex
  obtain ⟨dw, _, _, hwh, _, _⟩ := id d.twh.ex
  obtain ⟨do', _, _, hot, _, _⟩ := id d.tot.ex
  obtain ⟨dt, _, _, htb, _, _⟩ := id d.ttb.ex
  refine ⟨_, rfl, td, rfl, ⟨_, SqL.of d.otd⟩, lc_gen (bools (toldL ns tbl known).length) (by rw [bools_len]; omega) (fun j H' s lt => ⟨_, _, SqL.of (s _ _ d.otd), List.getElem?_eq_getElem (by rw [List.length_map]; rw [bools_len] at lt; exact lt)⟩) (fun H' s => ⟨_, SqL.of (s _ _ d.otd), by rw [List.length_map, bools_len]; omega⟩) ?_ ?_⟩
  · rintro j v y H4 H5 Cn Nn ey s4 ⟨rfl, ev⟩ yes
    obtain ⟨rfl, lt⟩ := bools_at ey
    have ev := ev _ (SqL.of (s4 _ _ d.otd))
    rw [List.getElem?_map] at ev
    obtain ⟨x, ex, rfl⟩ := Option.map_eq_some_iff.mp ev
    have xin := told_mem.mp (List.mem_of_getElem? ex)
    refine ⟨rfl, ?_⟩
    refine ⟨_, rfl, fw, df, _, rfl, s4 _ _ hfw, rfl, _, rfl, _, rfl, fw, kn, ns, known, x, tf, rfl, ⟨d.tfw.same s4, .inl (s4 _ _ d.okn), d.nd, d.sub, by omega, by omega, W.nd⟩, xin.1, fun H6 s6 => ?_⟩
    rw [decide_eq_true (tells_less d.fsub xin.2)]
    exact yes _ s6
  intro H1 D1 nD1 oD1 k1
  rw [bools_map] at oD1
  refine ⟨D1, _, rfl, SqL.of oD1, _, rfl, ?_⟩
  rw [all_true]
  refine iteF ?_
  refine ⟨_, rfl, n, rfl, ⟨_, SqL.of (k1 _ _ d.on)⟩, for_list (xs := ns.map V.str) (fun i σ H' => Same H0 H' ∧ ∃ s7, σ = [s0, some (.ref l), s2, some (.ref rr), some (.ref n), some (.ref mo), s6, s7, some (.ref wh), some (.ref tb), some (.ref ot), some (.ref fw), some (.ref kn), some (.ref td), s14, s15, s16])
    ⟨k1, _, rfl⟩ (fun i σ H' _ h => SqL.of (h.1 _ _ d.on)) ?_ ?_⟩
  · rintro i v σ H2 ev ⟨k2, t7, rfl⟩
    rw [List.getElem?_map] at ev
    obtain ⟨x, ex, rfl⟩ := Option.map_eq_some_iff.mp ev
    have xin := List.mem_of_getElem? ex
    have d2 := d.same k2
    refine ⟨_, rfl, wh, dw, _, rfl, k2 _ _ hwh, rfl, _, rfl, _, rfl, wh, kn, ns, known, x, tbl ++ t2, rfl, ⟨d2.twh, .inl d2.okn, d.nd, d.sub, by omega, by rw [List.length_append]; omega, W.nd⟩, xin, fun H3 k3 => ⟨_, rfl, ?_⟩⟩
    have k03 := k2.trans k3
    have d3 := d.same k03
    by_cases hw : Tells ns (tbl ++ t2) known x
    · have h1 : Tells ns tbl known x := tells_less (fun u hu => List.mem_append_left _ hu) hw
      have h2 : Tells ns t2 known x := tells_less (fun u hu => List.mem_append_right _ hu) hw
      rw [decide_eq_true hw]
      refine iteT ⟨_, rfl, _, rfl, td, _, rfl, .inl (SqL.of d3.otd), rfl, flat_strs _, _, rfl, ?_⟩
      rw [inV_strs, decide_eq_true (told_mem.mpr ⟨xin, h1⟩ : x ∈ toldL ns tbl known)]
      refine iteT ⟨_, rfl, ot, do', _, rfl, k03 _ _ hot, rfl, _, rfl, _, rfl, ot, kn, ns, known, x, t2, rfl, ⟨d3.tot, .inl d3.okn, d.nd, d.sub, by omega, by omega, W.nd⟩, xin, fun H4 k4 => ⟨_, rfl, ?_⟩⟩
      rw [decide_eq_true h2]
      refine iteF ?_
      exact r2 _ H4 s0 s2 s6 s14 s15 s16 x l ls rr n mo wh tb ot fw kn td as bs ns known tbl t2 tf N (d.same (k03.trans k4)) xin fun H5 k5 => ⟨(k03.trans k4).trans k5, _, rfl⟩
    · rw [decide_eq_false hw]
      refine iteF (iteF ?_)
      exact r2 _ H3 s0 s2 s6 s14 s15 s16 x l ls rr n mo wh tb ot fw kn td as bs ns known tbl t2 tf N (d.same k03) xin fun H5 k5 => ⟨k03.trans k5, _, rfl⟩
  · rintro σ H2 ⟨k2, t7, rfl⟩
    have d2 := d.same k2
    refine ⟨_, rfl, _, rfl, _, rfl, _, rfl, tb, rr, kn, n, as, ns, known, tbl, rfl, d2.ttb, W, by omega, d2.orr, d2.D, d2.okn, d.nd, d.sub, d2.on, fun H3 k3 => ⟨_, rfl, iteF ?_⟩⟩
    exact fin H3 _ (k2.trans k3)
end
end L2.TB
namespace L2.TB
open PySem PySem.Spec PyProof.Rows
/-! the law: fewer questions, more rows -/
theorem cut_from (xs : List V) (k : Nat) (h : k ≤ xs.length) : cutV xs (some (k : Int)) none = xs.drop k := by
  have e1 : HT.sIx xs.length 0 (some (k : Int)) = k := by
    unfold HT.sIx
    simp only []
    rw [if_neg (show ¬ (k : Int) < 0 by omega)]
    omega
  have e2 : HT.sIx xs.length xs.length none = xs.length := rfl
  unfold cutV
  rw [e1, e2]
  exact List.take_of_length_le (by rw [List.length_drop]; exact Nat.le_refl _)
theorem paired_drop {α β : Type} {R : α → β → Prop} : ∀ (k : Nat) {xs : List α} {ys : List β}, Paired R xs ys → Paired R (xs.drop k) (ys.drop k)
  | 0, _, _, h => h
  | k + 1, _, _, .nil => .nil
  | k + 1, _, _, .cons _ t => paired_drop k t
theorem flat_dk (ns : List Str) (us : List Int) : ∀ p ∈ dk ns us, flatB p.2 = true := by
  intro p hp
  unfold dk at hp
  obtain ⟨q, _, rfl⟩ := List.mem_map.mp hp
  rfl
/-- two lists of rows alike -/
theorem rows_alike {H : Hp} {ns : List Str} {as bs : List Addr} {tbl : List (List Int)} (nd : ns.Nodup) (d1 : DRows H ns as tbl) (d2 : DRows H ns bs tbl) : as.length = bs.length ∧ ∀ (i : Nat) (c d : Addr), as[i]? = some c → bs[i]? = some d → ∃ kvs : List (Key × V), H c = some (.dK kvs) ∧ H d = some (.dK kvs) ∧ (kvs.map (·.1)).Nodup ∧ ∀ p ∈ kvs, flatB p.2 = true := by
  refine ⟨(Paired.length d1).trans (Paired.length d2).symm, fun i c d ec ed => ?_⟩
  obtain ⟨u, eu, oc, lu⟩ := paired_get d1 ec
  obtain ⟨v, ev, od, _⟩ := paired_get d2 ed
  rw [eu] at ev
  cases ev
  exact ⟨_, oc, od, dk_nd lu.symm nd, flat_dk _ _⟩
section
variable {P : Program} {w : World} {K : PySem.W.Frag} {mg : Str → Option Value} {base : Heap} {f C fIn : Addr} {fd : FuncData}
theorem turn_e (L : LawU P w K mg base C fIn) {cdv : Value} {A : Around} {outer : List Env} {s : Shared} {H : Hp} {E : XK} (hr : Room 7 (A.deeper (envOfC "law" (defScope sLaw) s.heap.objs.size f cdv))) :
    ∃ t, PSs (cxOf CX0 P w K mg base NLw "law" (defScope sLaw) f cdv A outer s H E).nox (bodyT.drop 15) t ∧ ∀ (D : Ends) (H0 : Hp) (s0 s2 s6 s7 s14 s15 s16 : Option V) (l ls rr n mo wh tb ot fw kn td : Addr) (as bs : List Addr) (ns known : List Str) (tbl t2 tf : List (List Int)) (N : Int), Dr1 K H0 C l ls rr n mo wh tb ot fw kn td as bs ns known tbl t2 tf N →
      (∀ H', Same H0 H' → D.nx [s0, some (.ref l), s2, some (.ref rr), some (.ref n), some (.ref mo), s6, s7, some (.ref wh), some (.ref tb), some (.ref ot), some (.ref fw), some (.ref kn), some (.ref td), s14, s15, s16] H') →
      t D [s0, some (.ref l), s2, some (.ref rr), some (.ref n), some (.ref mo), s6, s7, some (.ref wh), some (.ref tb), some (.ref ot), some (.ref fw), some (.ref kn), some (.ref td), s14, s15, s16] H0 := by
  obtain ⟨fR, fdR, mR, FR, GR⟩ := L.rowsM
  have bR := FR.binds (ps := ["self"]) fun _ _ _ _ _ _ us hl => match us, hl with | [_], _ => rfl
  obtain ⟨fL, fdL, mL, FL, GL⟩ := L.len
  have bL := FL.binds (ps := ["self"]) fun _ _ _ _ _ _ us hl => match us, hl with | [_], _ => rfl
  have T := L.T
  have hu64 := hr.units
  refine ⟨_, pss_one (ps_if (PW.pt (pw_or (pt_cmpR op_ne (pe_callB (call_lenI (E := E0) GL (hr.mono (by decide)) mL bL pass0) rfl L.M.nN boot_len (pa_cons (pv 8) pa_nil)) (pe_op op_add (pe_callB call_len rfl L.M.nN boot_len (pa_cons (pv 3) pa_nil)) (pe_callB call_len rfl L.M.nN boot_len (pa_cons (pv 5) pa_nil))) (nomark _))
      (pw_or1 (pt_cmpR (op_neLD hu64) (pe_slice sl_list (pe_meth0 (pv 8) T.cl mR GR (hr.mono (by decide)) bR .nil pass0) (po_some (pe_callB call_len rfl L.M.nN boot_len (pa_cons (pv 3) pa_nil))) po_none) (pv 5) (nomark _))))) (pss_one ps_never) pss_nil), ?_⟩
  intro D H0 s0 s2 s6 s7 s14 s15 s16 l ls rr n mo wh tb ot fw kn td as bs ns known tbl t2 tf N d fin
  have W := d.W
  have w1 := W.l1
  have few := d.few
  have few2 := d.few2
  have las : as.length = tbl.length := Paired.length d.D
  have lbs : bs.length = t2.length := Paired.length d.DM
  obtain ⟨dw, _, _, hwh, _, _⟩ := id d.twh.ex
  refine ⟨_, rfl, wh, dw, _, rfl, hwh, ⟨wh, ns, tbl ++ t2, rfl, d.twh, by rw [List.length_append]; omega, _, rfl, ⟨by omega, by rw [List.length_append]; omega⟩, ?_⟩⟩
  refine ⟨_, rfl, _, (as.map V.ref).length, rfl, .inl ⟨_, SqL.of d.orr, rfl⟩, _, rfl, _, (bs.map V.ref).length, rfl, .inl ⟨_, SqL.of d.om, rfl⟩, _, _, rfl, rfl, rfl, _, rfl, ?_⟩
  rw [List.length_append, List.length_map, List.length_map, las, lbs, dec_int2, decide_eq_true (by omega : (((tbl.length + t2.length : Nat) : Int) = (tbl.length : Int) + (t2.length : Int)))]
  refine iteF ?_
  refine ⟨_, rfl, wh, dw, _, rfl, hwh, rfl, wh, ns, tbl ++ t2, rfl, d.twh, W.nd, by omega, by rw [List.length_append]; omega, fun H1 q cs nq oq rows _ k1 => ?_⟩
  have lcs : cs.length = tbl.length + t2.length := by rw [Paired.length rows, List.length_append]
  refine ⟨_, rfl, _, (as.map V.ref).length, rfl, .inl ⟨_, SqL.of (k1 _ _ d.orr), rfl⟩, _, rfl, ?_⟩
  refine ⟨q, _, rfl, SqL.of oq, fun p np => ?_⟩
  rw [List.length_map, cut_from _ _ (by rw [List.length_map]; omega), ← List.map_drop]
  have kp := same_new (o := .lst ((cs.drop as.length).map V.ref)) np
  have k2 := k1.trans kp
  have op : upd H1 p (.lst ((cs.drop as.length).map V.ref)) p = some (.lst ((cs.drop as.length).map V.ref)) := upd_same
  have rows2 := rows.same kp
  generalize upd H1 p (.lst ((cs.drop as.length).map V.ref)) = H2 at k2 op rows2
  have e : (tbl ++ t2).drop as.length = t2 := by rw [las, List.drop_left]
  have rows3 : DRows H2 ns (cs.drop as.length) t2 := by
    have z := paired_drop as.length rows2
    rw [e] at z
    exact z
  obtain ⟨len, alike⟩ := rows_alike W.nd rows3 (d.DM.same k2)
  exact ⟨_, rfl, p, mo, _, bs, rfl, rfl, op, k2 _ _ d.om, len, alike, _, rfl, iteF (fin _ k2)⟩
end
end L2.TB
namespace L2.TB
open PySem PySem.Spec PyProof.Rows
/-! the law: fewer questions, and the whole -/
section
variable {P : Program} {w : World} {K : PySem.W.Frag} {mg : Str → Option Value} {base : Heap} {f C fIn : Addr} {fd : FuncData}
theorem turn_d (L : LawU P w K mg base C fIn) {cdv : Value} {A : Around} {outer : List Env} {s : Shared} {H : Hp} {E : XK} (hr : Room 7 (A.deeper (envOfC "law" (defScope sLaw) s.heap.objs.size f cdv))) {rest : List Stmt} {u : TS} (hrest : PSs (cxOf CX0 P w K mg base NLw "law" (defScope sLaw) f cdv A outer s H E).nox rest u) :
    ∃ t, PSs (cxOf CX0 P w K mg base NLw "law" (defScope sLaw) f cdv A outer s H E).nox ((bodyT.drop 12).take 3 ++ rest) t ∧ ∀ (D : Ends) (H0 : Hp) (s0 s2 s6 s7 s14 s15 s16 : Option V) (l ls rr n mo wh tb ot fw kn td : Addr) (as bs : List Addr) (ns known : List Str) (tbl t2 tf : List (List Int)) (N : Int), Dr1 K H0 C l ls rr n mo wh tb ot fw kn td as bs ns known tbl t2 tf N →
      (∀ H' s14 s15 s16, Same H0 H' → u D [s0, some (.ref l), s2, some (.ref rr), some (.ref n), some (.ref mo), s6, s7, some (.ref wh), some (.ref tb), some (.ref ot), some (.ref fw), some (.ref kn), some (.ref td), s14, s15, s16] H') →
      t D [s0, some (.ref l), s2, some (.ref rr), some (.ref n), some (.ref mo), s6, s7, some (.ref wh), some (.ref tb), some (.ref ot), some (.ref fw), some (.ref kn), some (.ref td), s14, s15, s16] H0 := by
  obtain ⟨fR, fdR, mR, FR, GR⟩ := L.rowsM
  have bR := FR.binds (ps := ["self"]) fun _ _ _ _ _ _ us hl => match us, hl with | [_], _ => rfl
  obtain ⟨fO, fdO, mO, FO, GO⟩ := L.only
  have bO := FO.binds (ps := ["self", "names"]) fun _ _ _ _ _ _ us hl => match us, hl with | [_, _], _ => rfl
  have T := L.T
  have nd := scLaw.nd
  have hu := hu_of hr
  have hu64 := hr.units
  refine ⟨_, pss_cons (ps_set (i := 14) nd rfl (Or.inl rfl) (pe_lst pa_nil))
    (pss_cons (ps_for PassesOwn.never rfl (pi_list (pv 3)) (pg_name (i := 15) nd rfl (Or.inr rfl))
      (pss_one (ps_expr (pe_bm PySem.F.plainAttrs_list PySem.F.slot_list_append PySem.F.type_list_append mt_append (pv 14) (pa_cons (pe_callTy (call_dictP rfl) rfl L.nD (by decide +kernel) (pa_cons (pe_lc (own := [("one", 16)]) (tt := tYes) rfl nd (pi_list (pv 12)) (blkOk_by (N := NLw) (sc := defScope sLaw) (by decide +kernel)) (fun _ _ _ _ _ => pg_name (i := 16) nd rfl (Or.inl rfl)) (fun _ _ _ _ _ => pts_nil)
        (fun _ _ _ _ _ => pe_tup (pa_cons (pv 16) (pa_cons (pe_dget hu (pv 15) (pv 16) (fun _ _ => rfl)) pa_nil)))) pa_nil)) pa_nil)))))
    (pss_cons (ps_if (PW.pt (pw_and (pt_cmpR (op_neD hu64) (pv 12) (pe_lst pa_nil) (nomark _)) (pw_and1 (pt_cmpR (op_neLD hu64) (pe_meth0 (pe_meth (pv 9) T.cl mO GO (hr.mono (by decide)) bO .nil pass0 (pa_cons (pv 12) pa_nil)) T.cl mR GR (hr.mono (by decide)) bR .nil pass0) (pv 14) (nomark _))))) (pss_one ps_never) pss_nil) hrest)), ?_⟩
  intro D H0 s0 s2 s6 s7 s14 s15 s16 l ls rr n mo wh tb ot fw kn td as bs ns known tbl t2 tf N d fin
  have W := d.W
  have w1 := W.l1
  have few := d.few
  have kl : known.length ≤ ns.length := nodup_short d.nd d.sub
  have las : as.length = tbl.length := Paired.length d.D
  refine ⟨Nat.zero_le _, fun q nq => ?_⟩
  have kq := same_new (o := .lst []) nq
  have oq : upd H0 q (.lst []) q = some (.lst ([] : List V)) := upd_same
  generalize upd H0 q (.lst []) = H1 at kq oq
  refine ⟨_, rfl, rr, rfl, ⟨_, SqL.of (kq _ _ d.orr)⟩, for_list (xs := as.map V.ref) (fun i σ H' => (∃ cs, H' q = some (.lst ((cs : List Addr).map V.ref)) ∧ DRows H' known cs ((tbl.take i).map (keyR ns known))) ∧ Same H0 H' ∧
      ∃ s15 s16, σ = [s0, some (.ref l), s2, some (.ref rr), some (.ref n), some (.ref mo), s6, s7, some (.ref wh), some (.ref tb), some (.ref ot), some (.ref fw), some (.ref kn), some (.ref td), some (.ref q), s15, s16])
    ⟨⟨[], oq, .nil⟩, kq, _, _, rfl⟩ (fun i σ H' _ h => SqL.of (h.2.1 _ _ d.orr)) ?_ ?_⟩
  · rintro i v σ H2 ev ⟨⟨cs, oq2, dc⟩, k2, t15, t16, rfl⟩
    rw [List.getElem?_map] at ev
    obtain ⟨a, ea, rfl⟩ := Option.map_eq_some_iff.mp ev
    obtain ⟨us, eu, oa, lu⟩ := paired_get (d.D.same k2) ea
    have okn2 := k2 _ _ d.okn
    have hi : i < tbl.length := (List.getElem?_eq_some_iff.mp eu).1
    refine ⟨_, rfl, .inl ⟨rfl, _, SqL.of oq2⟩, _, rfl, kn, rfl, ⟨_, SqL.of okn2⟩, given_lc (K := K) ns known us (by omega) (fun j H' s lt => ⟨_, _, SqL.of (s _ _ okn2), List.getElem?_eq_getElem (by rw [List.length_map]; exact lt)⟩) (fun H' s => ⟨_, SqL.of (s _ _ okn2), by rw [List.length_map]; omega⟩) ?_ ?_⟩
    · rintro j v y H3 H4 Cn Nn ey s3 ⟨rfl, ev⟩ yes
      have ev := ev _ (SqL.of (s3 _ _ okn2))
      rw [List.getElem?_map, ey] at ev
      obtain rfl : V.str y = v := Option.some.inj ev
      refine ⟨rfl, ?_⟩
      refine ⟨_, rfl, _, rfl, _, rfl, a, _, rfl, dk_av W.nd lu (d.sub y (List.mem_of_getElem? ey)) ▸ DGet.k (k := Sum.inr y) (s3 _ _ oa), (by rw [sizeLine_eq]; show 2 ≤ _; omega), fun t nt => ?_⟩
      exact yes t _ upd_same (same_new nt)
    · intro H3 D1 ps nD1 oD1 pr k3
      refine ⟨D1, ps, _, rfl, SqL.of oD1, pr, fun g ng => ?_⟩
      rw [gvn_merge d.nd, gvn_dk]
      have kg := same_new (o := .dK (dk known (keyR ns known us))) ng
      have og : upd H3 g (.dK (dk known (keyR ns known us))) g = some (.dK (dk known (keyR ns known us))) := upd_same
      have k34 := k3.trans kg
      generalize upd H3 g (.dK (dk known (keyR ns known us))) = H4 at og k34
      have oq4 := k34 _ _ oq2
      have lc : cs.length = i := by rw [Paired.length dc, List.length_map, List.length_take]; omega
      have gq : g ≠ q := ne_of og oq4 (by intro z; cases z)
      refine ⟨q, cs.map V.ref, .ref g, rfl, rfl, oq4, (by rw [sizeLine_eq, List.length_map]; omega), ⟨cs ++ [g], by rw [upd_same]; simp, ?_⟩, fun b o e => ?_, _, _, rfl⟩
      · have et : tbl.take (i + 1) = tbl.take i ++ [us] := by rw [List.take_succ, eu]; rfl
        rw [et, List.map_append]
        refine paired_snoc ⟨by rw [upd_ne gq]; exact og, by unfold keyR; rw [List.length_map]⟩ (Paired.mapP dc fun c vs h => ⟨?_, h.2⟩)
        rw [upd_ne (ne_of h.1 oq2 (by intro z; cases z))]
        exact k34 _ _ h.1
      · rw [upd_ne (ne_of_none e nq)]
        exact k34 _ _ (k2 _ _ e)
  · rintro σ H2 ⟨⟨cs, oq2, dc⟩, k2, t15, t16, rfl⟩
    have et : tbl.take (as.map V.ref).length = tbl := List.take_of_length_le (by rw [List.length_map]; omega)
    rw [et] at dc
    have d2 := d.same k2
    refine ⟨_, rfl, Nat.zero_le _, fun e0 ne0 => ?_⟩
    have ke := same_new (o := .lst []) ne0
    have oe : upd H2 e0 (.lst []) e0 = some (.lst (([] : List Str).map V.str)) := upd_same
    have tok : ∀ x ∈ known, PyData.strOk x = true := fun x hx => nm_strOk (W.ok x (d.sub x hx))
    refine ⟨_, _, dp_list (ke _ _ d2.okn), dp_list oe, strs_shaped _ tok, strs_shaped _ (fun x hx => by cases hx), _, rfl, ?_⟩
    rw [strs_eqv]
    have d3 := d2.same ke
    have k3 := k2.trans ke
    have oq3 := ke _ _ oq2
    have dc3 := dc.same ke
    generalize upd H2 e0 (.lst []) = H3 at d3 k3 oq3 dc3
    by_cases kz : known = []
    · rw [decide_eq_true kz]
      exact iteF (iteF (fin _ _ _ _ k3))
    · rw [decide_eq_false kz]
      refine iteT ?_
      obtain ⟨dt, _, _, htb, _, _⟩ := id d3.ttb.ex
      refine ⟨_, rfl, tb, dt, _, rfl, htb, rfl, _, rfl, tb, kn, ns, known, tbl, rfl, d3.ttb, W, d3.okn, d.nd, d.sub, kz, fun H4 x nx Tx k4 => ?_⟩
      obtain ⟨dx, _, _, hx, _, _⟩ := id Tx.ex
      refine ⟨x, dx, _, rfl, hx, rfl, x, known, tbl.map (keyR ns known), rfl, Tx, d.nd, by omega, by rw [List.length_map]; omega, fun H5 p ps np op rows _ k5 => ?_⟩
      have k45 := k4.trans k5
      obtain ⟨len, alike⟩ := rows_alike d.nd rows (dc3.same k45)
      exact ⟨_, rfl, p, q, _, cs, rfl, rfl, op, k45 _ _ oq3, len, alike, _, rfl, iteF (fin _ _ _ _ (k3.trans k45))⟩
def spLaw (K : PySem.W.Frag) : Sp := fun vs H Q _ => ∃ (a : Addr) (ns : List Int), vs = [.ref a] ∧ SqL K H a (ns.map V.int) ∧ ns.length ≤ 63 ∧ ∀ H', Q (.bl true) H'
theorem ok_law (F : Fun K "law" "law" sLaw f fd) (L : LawU P w K mg base C fIn) : FnOk P w K mg base CX0 8 f fd ["script"] (spLaw K) := by
  obtain ⟨fS, fdS, gS, FS⟩ := L.start
  have GS : FnOk P w K mg base CX0 1 fS fdS ["script"] (spStart K) := ok_start FS L.M.nL
  have bS := FS.binds (ps := ["script"]) fun _ _ _ _ _ _ us hl => match us, hl with | [_], _ => rfl
  refine F.ok scLaw (fun vs H Q E h => by obtain ⟨a, ns, e, _⟩ := h; rw [e]; rfl) fun cdv A outer s H vs Q E hr hsp => ?_
  obtain ⟨a, cs, rfl, hS, hn, hq⟩ := hsp
  have nd := scLaw.nd
  obtain ⟨tE, pE, rE⟩ := turn_e L (outer := outer) (H := H) (E := E) hr
  obtain ⟨tD, pD, rD⟩ := turn_d L (outer := outer) (H := H) (E := E) hr pE
  obtain ⟨tC, pC, rC⟩ := turn_c L (outer := outer) (H := H) (E := E) hr pD
  obtain ⟨tB, pB, rB⟩ := turn_b L (outer := outer) (H := H) (E := E) hr pC
  obtain ⟨tA, pA, rA⟩ := turn_a L (outer := outer) (H := H) (E := E) hr pB
  refine ⟨_, pss_cons (ps_set (i := 1) nd rfl (Or.inr rfl) (pe_call GS (hr.mono (by decide)) rfl gS FS.kp bS .nil pass0 (pa_cons (pv 0) pa_nil)))
    (pss_cons (ps_for PassesOwn.never rfl (pi_range1 rfl L.nR (pa_cons pe_int pa_nil)) (pg_name (i := 2) nd rfl (Or.inl rfl)) pA)
    (pss_one (ps_ret pe_bl))), ?_⟩
  refine ⟨_, rfl, a, cs, rfl, hS, by omega, fun H1 l ls nl k1 S1 nls => ?_⟩
  refine ⟨4, rfl, by decide, by decide, for_range (n := 4) (fun i σ H' => Strm H' l ls (1500 * (i : Int)) ∧ ∃ s2 s3 s4 s5 s6 s7 s8 s9 s10 s11 s12 s13 s14 s15 s16, σ = [some (.ref a), some (.ref l), s2, s3, s4, s5, s6, s7, s8, s9, s10, s11, s12, s13, s14, s15, s16])
    ⟨by simpa using S1, _, _, _, _, _, _, _, _, _, _, _, _, _, _, _, rfl⟩ ?_ ?_⟩
  · rintro i σ H2 hi ⟨S2, s2, s3, s4, s5, s6, s7, s8, s9, s10, s11, s12, s13, s14, s15, s16, rfl⟩
    refine rA _ H2 _ _ s3 s4 s5 s6 s7 s8 s9 s10 s11 s12 s13 s14 s15 s16 l ls _ S2 (by omega) fun H3 rr n mo k' nm' as bs ns tbl t2 d0 => ?_
    refine rB _ H3 _ _ k' nm' s8 s9 s10 s11 s12 s13 s14 s15 s16 l ls rr n mo as bs ns tbl t2 _ d0 (by omega) fun H4 wh tb ot fw kn td known tf d1 => ?_
    refine rC _ H4 _ _ k' nm' s14 s15 s16 l ls rr n mo wh tb ot fw kn td as bs ns known tbl t2 tf _ d1 fun H5 t7 k5 => ?_
    have d2 := d1.same k5
    refine rD _ H5 _ _ k' t7 s14 s15 s16 l ls rr n mo wh tb ot fw kn td as bs ns known tbl t2 tf _ d2 fun H6 t14 t15 t16 k6 => ?_
    have d3 := d2.same k6
    refine rE _ H6 _ _ k' t7 t14 t15 t16 l ls rr n mo wh tb ot fw kn td as bs ns known tbl t2 tf _ d3 fun H7 k7 => ?_
    exact ⟨(d3.S.same k7).mono (by omega), _, _, _, _, _, _, _, _, _, _, _, _, _, _, _, rfl⟩
  · rintro σ H2 ⟨S2, s2, s3, s4, s5, s6, s7, s8, s9, s10, s11, s12, s13, s14, s15, s16, rfl⟩
    exact hq H2
end
end L2.TB
namespace L2.TB
open PySem PySem.Spec PyProof.Rows
section
variable {K : PySem.W.Frag} {h : Heap} {mg : Str → Option Value}
theorem def_at (c : He.SaysE faT fnT K) (X : K.In h) (G : h.Ns mainGlobals mg) (i j k : Nat) {x : Str} {st : Stmt} (ei : faT[i]? = some (.glo x)) (ej : faT[j]? = some (.keep x)) (ek : fnT[k]? = some (dd (x, none) x x st)) :
    mg x = some (.ref (He.ga K x)) ∧ ∃ fd, Fun K x x st (He.ga K x) fd := by
  obtain ⟨oc, od, osl, kV, doc, pm, an, cdv, ct, lk, hc⟩ := c.def_ k ek
  exact ⟨He.glo_ok X G (c.fact i ei), _, ⟨⟨oc, od, kV, doc, pm, an, cdv, ct, osl, rfl, lk, hc⟩, He.keep_ok (c.fact j ej)⟩⟩
theorem meth_at (c : He.SaysE faT fnT K) (i k : Nat) {m q : Str} {st : Stmt} (ei : faT[i]? = some (.meth "Table" m)) (ek : fnT[k]? = some (dd ("Table", some m) m q st)) :
    Meth K (He.ga K "Table") m (He.ma K (He.ga K "Table") m) ∧ ∃ fd, Fun K m q st (He.ma K (He.ga K "Table") m) fd := by
  obtain ⟨oc, od, osl, kV, doc, pm, an, cdv, ct, lk, hc⟩ := c.def_ k ek
  have M := He.meth_ok (c.fact i ei)
  exact ⟨M, _, ⟨⟨oc, od, kV, doc, pm, an, cdv, ct, osl, rfl, lk, hc⟩, M.kp⟩⟩
end
theorem facts {P : Program} {w : World} {K : PySem.W.Frag} {h : Heap} {mg : Str → Option Value} {f : Addr} (X : K.In h) (G : h.Ns mainGlobals mg) (hfa : mg ("law" : Str) = some (.ref f)) (c : He.SaysE faT fnT K) (more : moreB K = true) :
    ∃ fd : FuncData, (∀ (s : Shared) (v : Value), BindsTo s fd ⟨[v], []⟩ [("script", v)]) ∧ ∀ base : Heap, K.In base → base.Ns mainGlobals mg → FnOk P w K mg base CX0 8 f fd ["script"] (spLaw K) := by
  obtain ⟨gStart, dStart, FStart⟩ := def_at c X G 0 22 0 (x := "_law_start") (st := sStart) rfl rfl rfl
  obtain ⟨gDraw, dDraw, FDraw⟩ := def_at c X G 1 23 1 (x := "_law_draw") (st := sDraw) rfl rfl rfl
  obtain ⟨gPick, dPick, FPick⟩ := def_at c X G 2 24 2 (x := "_law_pick") (st := sPick) rfl rfl rfl
  obtain ⟨gMixed, dMixed, FMixed⟩ := def_at c X G 3 25 3 (x := "_law_mixed") (st := sMixed) rfl rfl rfl
  obtain ⟨gSome, dSome, FSome⟩ := def_at c X G 4 26 4 (x := "_law_t_some") (st := sSome) rfl rfl rfl
  obtain ⟨gNames, dNames, FNames⟩ := def_at c X G 5 27 5 (x := "_law_t_names") (st := sNames) rfl rfl rfl
  obtain ⟨gRows, dRows, FRows⟩ := def_at c X G 6 28 6 (x := "_law_t_rows") (st := sRows) rfl rfl rfl
  obtain ⟨gSame, dSame, FSame⟩ := def_at c X G 7 29 7 (x := "_law_same") (st := sSame) rfl rfl rfl
  obtain ⟨gAtHand, dAtHand, FAtHand⟩ := def_at c X G 8 30 8 (x := "_law_at_hand") (st := sAtHand) rfl rfl rfl
  obtain ⟨gLeftR, dLeftR, FLeftR⟩ := def_at c X G 9 31 9 (x := "_law_left_right") (st := sLeftR) rfl rfl rfl
  obtain ⟨gLaw, dLaw, FLaw⟩ := def_at c X G 10 32 10 (x := "law") (st := sLaw) rfl rfl rfl
  obtain ⟨gIsInt, dIsInt, FIsInt⟩ := def_at c X G 11 33 11 (x := "is_integer") (st := sIsInt) rfl rfl rfl
  obtain ⟨gIsList, dIsList, FIsList⟩ := def_at c X G 12 34 12 (x := "is_list") (st := sIsList) rfl rfl rfl
  obtain ⟨gIsName, dIsName, FIsName⟩ := def_at c X G 13 35 13 (x := "is_name") (st := sIsName) rfl rfl rfl
  obtain ⟨gIsOne, dIsOne, FIsOne⟩ := def_at c X G 14 36 14 (x := "is_one_of") (st := sIsOne) rfl rfl rfl
  obtain ⟨gFirst, dFirst, FFirst⟩ := def_at c X G 15 37 15 (x := "first_bad") (st := sFirst) rfl rfl rfl
  obtain ⟨gCkK, dCkK, FCkK⟩ := def_at c X G 16 38 16 (x := "check_known") (st := sCkK) rfl rfl rfl
  obtain ⟨gCkA, dCkA, FCkA⟩ := def_at c X G 17 39 17 (x := "check_asked") (st := sCkA) rfl rfl rfl
  obtain ⟨gCkB, dCkB, FCkB⟩ := def_at c X G 18 40 18 (x := "check_both") (st := sCkB) rfl rfl rfl
  obtain ⟨gTold, dTold, FTold⟩ := def_at c X G 19 41 19 (x := "told_by") (st := sTold) rfl rfl rfl
  obtain ⟨gHasJust, dHasJust, FHasJust⟩ := def_at c X G 20 42 20 (x := "has_just") (st := sHasJust) rfl rfl rfl
  obtain ⟨gBadRow, dBadRow, FBadRow⟩ := def_at c X G 21 43 21 (x := "_first_bad_row") (st := sBadRow) rfl rfl rfl
  obtain ⟨mInit, dInit, FInit⟩ := meth_at c 75 22 (m := "__init__") (q := "Table.__init__") (st := sInit) rfl rfl
  obtain ⟨mQs, dQs, FQs⟩ := meth_at c 63 23 (m := "questions") (q := "Table.questions") (st := sQs) rfl rfl
  obtain ⟨mIsTold, dIsTold, FIsTold⟩ := meth_at c 64 24 (m := "is_told") (q := "Table.is_told") (st := sIsTold) rfl rfl
  obtain ⟨mPlaces, dPlaces, FPlaces⟩ := meth_at c 65 25 (m := "_places") (q := "Table._places") (st := sPlaces) rfl rfl
  obtain ⟨mParting, dParting, FParting⟩ := meth_at c 66 26 (m := "_parting_rows") (q := "Table._parting_rows") (st := sParting) rfl rfl
  obtain ⟨mLen, dLen, FLen⟩ := meth_at c 67 27 (m := "__len__") (q := "Table.__len__") (st := sLen) rfl rfl
  obtain ⟨mAdd, dAdd, FAdd⟩ := meth_at c 68 28 (m := "__add__") (q := "Table.__add__") (st := sAdd) rfl rfl
  obtain ⟨mRowsM, dRowsM, FRowsM⟩ := meth_at c 69 29 (m := "rows") (q := "Table.rows") (st := sRowsM) rfl rfl
  obtain ⟨mLeft, dLeft, FLeft⟩ := meth_at c 70 30 (m := "left") (q := "Table.left") (st := sLeft) rfl rfl
  obtain ⟨mMayBe, dMayBe, FMayBe⟩ := meth_at c 71 31 (m := "may_be") (q := "Table.may_be") (st := sMayBe) rfl rfl
  obtain ⟨mOnly, dOnly, FOnly⟩ := meth_at c 72 32 (m := "only") (q := "Table.only") (st := sOnly) rfl rfl
  obtain ⟨mDictOf, dDictOf, FDictOf⟩ := meth_at c 73 33 (m := "_dict_of") (q := "Table._dict_of") (st := sDictOf) rfl rfl
  obtain ⟨mCkAns, dCkAns, FCkAns⟩ := meth_at c 74 34 (m := "_check_answers") (q := "Table._check_answers") (st := sCkAns) rfl rfl
  have n_list : mg "list" = none := He.free_ok X G (c.fact 45 rfl)
  have n_len : mg "len" = none := He.free_ok X G (c.fact 46 rfl)
  have n_int : mg "int" = none := He.free_ok X G (c.fact 47 rfl)
  have n_range : mg "range" = none := He.free_ok X G (c.fact 48 rfl)
  have n_dict : mg "dict" = none := He.free_ok X G (c.fact 49 rfl)
  have n_tuple : mg "tuple" = none := He.free_ok X G (c.fact 50 rfl)
  have n_str : mg "str" = none := He.free_ok X G (c.fact 51 rfl)
  have n_bool : mg "bool" = none := He.free_ok X G (c.fact 52 rfl)
  have n_isinstance : mg "isinstance" = none := He.free_ok X G (c.fact 53 rfl)
  have n_all : mg "all" = none := He.free_ok X G (c.fact 54 rfl)
  have n_enumerate : mg "enumerate" = none := He.free_ok X G (c.fact 55 rfl)
  have n_zip : mg "zip" = none := He.free_ok X G (c.fact 56 rfl)
  have n_sorted : mg "sorted" = none := He.free_ok X G (c.fact 57 rfl)
  have gC : mg "Table" = some (.ref (He.ga K "Table")) := He.glo_ok X G (c.fact 44 rfl)
  have gLo := He.int_ok X G (c.fact (f := .int "LONGEST" 40) 58 rfl)
  have gSg := He.str_ok X G (c.fact (f := .str "SIGNS" "abcdefghijklmnopqrstuvwxyz0123456789.") 59 rfl)
  have T0 : TabC K (He.ga K "Table") := ⟨He.cls_ok (c.fact 60 rfl), He.noat_ok (c.fact 61 rfl), He.noat_ok (c.fact 62 rfl)⟩
  have T : TabM K (He.ga K "Table") _ _ _ _ := ⟨T0, ⟨_, FQs⟩, ⟨_, FIsTold⟩, ⟨_, FPlaces⟩, ⟨_, FParting⟩, mQs, mIsTold, mPlaces, mParting⟩
  have Ck : Chk K mg _ _ _ _ _ _ := ⟨⟨_, FFirst⟩, ⟨_, FIsList⟩, ⟨_, FIsOne⟩, ⟨_, FCkK⟩, ⟨_, FCkA⟩, ⟨_, FCkB⟩, gFirst, gIsList, gIsOne, gCkK, gCkA, gCkB, n_isinstance, n_list, n_tuple, n_str, n_enumerate⟩
  have M : Sm mg := ⟨n_isinstance, n_list, n_tuple, n_int, n_bool, n_len, n_all, n_zip⟩
  have Mk := He.mkr_ok (c.fact (f := .mkr "Table") 76 rfl)
  obtain ⟨m1, more⟩ := He.ba more
  obtain ⟨m2, more⟩ := He.ba more
  obtain ⟨m3, more⟩ := He.ba more
  obtain ⟨m4, m5⟩ := He.ba more
  have IC : C8.InsC K (He.ga K "Table") := ⟨T0.cl, He.eqO_ok m2, He.eqO_ok m3, of_decide_eq_true m4, of_decide_eq_true m5, by unfold PySem.W.kitOne; rw [if_pos (by simp)]⟩
  have U : ∀ base : Heap, LawU P w K mg base (He.ga K "Table") (He.ma K (He.ga K "Table") "__init__") := by
   intro base
   have GR := ok_rowsM (P := P) (w := w) (mg := mg) (base := base) FRowsM T0 FDictOf mDictOf n_zip
   have GI := ok_init (P := P) (w := w) (base := base) FInit T0 (ok_badRow FBadRow FIsList gIsList FIsInt gIsInt FIsName gIsName FHasJust gHasJust n_isinstance n_list n_tuple n_str n_enumerate n_len n_all n_dict n_int n_bool gLo gSg) FBadRow gBadRow n_list n_tuple
   have GA := ok_ckAns (P := P) (w := w) (base := base) FCkAns T0 FIsOne gIsOne FIsInt gIsInt n_isinstance n_dict n_all n_str n_int n_bool
   have GL := ok_left (P := P) (w := w) (base := base) FLeft T0 GR FRowsM mRowsM GA FCkAns mCkAns n_enumerate n_all
   have GM := ok_mayBe (P := P) (w := w) (base := base) FMayBe T0 GR FRowsM mRowsM GA FCkAns mCkAns GL FLeft mLeft Ck n_sorted
   have GT := ok_told (P := P) (w := w) (base := base) FTold T Ck
   exact ⟨T0, ⟨_, _, gStart, FStart⟩, ⟨_, _, gDraw, FDraw⟩, ⟨_, _, gRows, FRows, ok_rows FRows FNames gNames FPick gPick FDraw gDraw n_int n_len n_range n_dict⟩, ⟨_, _, gSome, FSome, ok_some FSome FMixed gMixed FDraw gDraw n_int n_len n_list n_range⟩,
     ⟨_, _, gMixed, FMixed, ok_mixed FMixed FDraw gDraw n_int n_len n_list n_range⟩, ⟨_, _, gSame, FSame, ok_sameB FSame M⟩, ⟨_, _, gTold, FTold, GT⟩, ⟨_, _, gAtHand, FAtHand, ok_atHand FAtHand T0 GM FMayBe mMayBe n_dict⟩,
     ⟨_, _, gLeftR, FLeftR, ok_leftR FLeftR T0 GL FLeft mLeft GR FRowsM mRowsM Mk GI FInit FQs mQs GT FTold gTold gC n_dict n_sorted n_all n_list⟩, ⟨_, _, mAdd, FAdd, ok_add FAdd T0 IC FQs mQs GR FRowsM mRowsM Mk GI FInit gC n_isinstance n_list⟩, ⟨_, _, mLen, FLen, ok_len FLen T0 n_len⟩, ⟨_, _, mRowsM, FRowsM, GR⟩,
     ⟨_, _, mOnly, FOnly, ok_only FOnly T0 GR FRowsM mRowsM Mk GI FInit gC Ck n_len⟩, ⟨_, _, mIsTold, FIsTold, ok_isTold FIsTold T Ck⟩, Mk, ⟨_, FInit, GI⟩, gC, m1, n_range, n_dict, M⟩
  have e := hfa.symm.trans gLaw
  cases e
  obtain ⟨oc, od, kV, doc, pm, an, cdv, ct, osl, rfl, lk, hcd⟩ := FLaw.ex
  exact ⟨_, fun s v => .of_eq rfl, fun base _ _ => ok_law (C := He.ga K "Table") FLaw (U base)⟩
end L2.TB
open PySem PySem.W PySem.Calls PyProof.Rows
set_option maxHeartbeats 0 in
theorem PySem.Challenge.cw_twoworlds_k13_whole_rows_fewer_and_more_holds : PySem.Challenge.rw_twoworlds_k13_whole_rows_fewer_and_more.Holds := by
  w_on; o_law
  refine HandSHeadRun.head_any (r := L2.TB.HdR.R) (q := L2.TB.HdR.qv) (H := L2.TB.hookK) (ob := L2.TB.obT) (M := 16000) (loose := L2.TB.HdR.names)
    (d := HandSHeadRun.topDef L2.TB.HdR.R.prog 40) (kwd := []) L2.TB.obT_eq
    (by kernel_rfl) (fun s => by kernel_rfl) L2.TB.HdR.run (by kernel_rfl) (by kernel_rfl) (by kernel_rfl) (by rfl)
    (by first | assumption | decide +kernel) (by decide +kernel) ⟨rfl, rfl, rfl, rfl, rfl, by decide +kernel⟩ ?hw ?hc
  case hw => w_witness2
  case hc =>
    refine L2.walk_ofE (l := PySem.Challenge.rw_twoworlds_k13_whole_rows_fewer_and_more) (n := 63) (k := 8) (x := "script") (CX := L2.CX0)
      rfl (by decide) (by kernel_rfl) ⟨rfl, by decide, by decide⟩ ?F (fun _ _ _ _ z => z)
    intro w mg fa h Y G hmg0
    obtain ⟨K, KX, c, c2⟩ := Y
    have hmg : mg ("law" : PySem.Str) = some (.ref fa) := by
      have e : (HandSHeadRun.topDef L2.TB.HdR.R.prog 40).name = ("law" : PySem.Str) := by kernel_rfl
      rw [← e]; exact hmg0
    obtain ⟨fd, hb, hF⟩ := L2.TB.facts (P := PySem.Challenge.rw_twoworlds_k13_whole_rows_fewer_and_more.prog) (w := w) KX G hmg c c2
    exact ⟨K, fd, L2.TB.spLaw K, KX, hb, fun H a ns hl _ hS => ⟨a, ns, rfl, hS, by omega, fun _ => rfl⟩, hF⟩
